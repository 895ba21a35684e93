import PyProof.Rows.All
import Lean
import KE.KItem
import KE.KItemsList
import KE.KLam
import KE.KLcPair
import KE.KRevIter
import KE.KTryMore
import OpenK.XHead
import PySem.Challenge.RW_roomalgebra_k37_just_what_is_too_great
set_option Elab.async false
set_option linter.all false
set_option maxRecDepth 100000
set_option genSizeOf false
set_option compiler.extract_closed false
namespace zz
open Lean
def N k a:=Syntax.node .none k a
def A:=Syntax.atom .none
def P(p s:String):=s!"Lean.Parser.{p}.{s}".toName
def T:=P "Term"
def C:=P "Command"
def Q:=P "Tactic"
def L:=N `null
def U f a:=N (T "app") #[f,L a]
def S t:=N (Q "tacticSeq") #[N (Q "tacticSeq1Indented") #[L t]]
def J k a:=N (Q k) (#[A k]++a)
def F(a:Array (Array Syntax)):=J "first" #[L (a.map λy=>N `group #[A "|",S y])]
def B(n:Nat):=
 let i:=J "intro" #[L #[N (T "hole") #[A "_"]]];let V:=N (Q "optConfig") #[L #[]];let r:=N (Q "tacticRfl") #[A "rfl"];let z:=mkIdent `z;let l:Array Name:=#[``Or.inl,``Or.inr]
 match n with
 |0=>#[J "decide" #[V]]
 |1=>#[J "simp" #[V,L #[],L #[],L #[],L #[]]]
 |2=>#[J "omega" #[V]]
 |3=>#[J "decide" #[N (Q "optConfig") #[L #[N (Q "configItem") #[N (Q "posConfigItem") #[A "+",mkIdent `kernel]]]]]]
 |4=>#[r]
 |5=>#[J "intro" #[L #[z]],A ";",J "cases" #[L #[N (Q "elimTarget") #[L #[],z]],L #[],L #[]]]
 |6=>#[J "lia" #[V]]
 |7=>#[i,A ";",F #[#[r],#[i,A ";",r]]]
 |8=>let e:=l.map λx=>U (mkCIdent x) #[mkCIdent ``rfl];#[F (((e++e.map λy=>U (mkCIdent ``Or.inr) #[y]).map λy=>#[J "exact" #[y]]).push #[J "assumption" #[]])]
 |_=>#[N (Q "withUnfoldingAll") #[A "with_unfolding_all",S #[r]]]
def R(n:String)s v m:=N (C "declaration") #[m,N (C "theorem") #[A "theorem",N (C "declId") #[mkIdent n.toName,L #[]],s,v]]
def K(x:List Char):=(List.range (x.length/10)).map λi=>((x.drop (10*i)).take 10).foldr (λx n=>n*90+x.toNat-35-(if x.toNat>92 then 2 else 0)) 0
def G:="length List some none rfl Value Addr false trans ref true heap lookup base Nat Option Int PySem Shared toArray get? sizeLine starEach prog Bool wpAny model replicate if_neg Program outer if_pos env le_trans getD int le_refl lt_of_lt_of_le mem_cons_of_mem pins decide_eq_false type upd Str names mem_cons symm get?_push_size absurd lst toks str map length_replicate length_cons getElem?_append_left World toList builtin contains Frag idxOf_lt_length_of_mem getElem?_append_right Around toNat size false_ne_true Heap size_toArray range scope mem_cons_self idxOf qual lt_size False data reverse inl stack ne_of_lt take_of_length_le congrArg zero_le length_range elim wpAny_holding wpAny_field all_eq_true wpAny_mono map_append tup cons mem_range kvs Stmt take inr beq_eq_false_iff_ne setIfInBounds pos decide_eq_true wpAny_ite_false wpAny_Call_Name_kw ofString mainGlobals push length_take append_assoc get?_update_other mem_append_right length_reverse get?_update_self mg_none_of mem_append its Name Nodup Array rawInt mem_iff_getElem? PassesOwn leaf fields never free clos cell Expr of_decide_eq_true decide_eq_true_eq wpAny_of_eq sites intKind lt_of_le_of_lt le_of_not_lt backTo CodeRec not_mem_nil same objs getElem?_range cls getElem_mem locals eval mpr fresh wpAny_call_entry sizeLine_eq lt_succ_self handled data_mapFields DecidableEq parts builtinLookup_eq_fast wpAny_callSpecial?_slot turned append_nil wpAny_newObj_type mem_of_lookup kindOf lookup_relabel_local len getElem?_eq_some_iff and_eq_true update name nil params intro codeAny_builtin testBit take_append_drop mem_singleton drop sysModules or_false hok isinst True compareOp FunFrames Attribute outside mem_map PyProof of_decide_eq_false mono rangeFitsLong then_ Scope succ_le_succ zero_add FuncData lookup_cons length_drop isFreed_of_fields one mapFields kitOne keeps getElem_idxOf plainAttrs_list mem_of_mem_take inj SameBut units length_eq_zero_iff boot_tuple beq_iff_eq getElem?_eq_none dropLast_concat_getLast codeAny_call_builtin SeqAt two doc Call rows wpAny_standAt toNat_natCast wpAny_truthy_bool wpAny_seqItems wpAny_call replicate_succ foldedSetIterable codeAny_mono callWith_type1 SmallTypes size_push all typeLookup_type sign run filter bool le_succ_of_le keep iter hideAll_none attributeBase Pos Obj take_length isSubtype_type function esOf codeIn cells IsPair CodeHd wpAny_setState_of flatten Arguments mem_append_left eq_iff_iff Txt any map_cons dict call binaryOp NameKind ListComp take_add_one non frames codeAny under_plainId length_toList le_of_lt_succ hideAll_get tups sub_succ_lt_self set contains_iff_mem wpAny_setField tuple there mem_filter le_of_lt isList findIn empty cLine Lambda s₀ kind getElem?_toList wpAny_loadPart_at lt_trans excClassObj drop_eq_getElem_cons dropLast sub cdv wpAny_attempt plainId_quiet forIn_cons fnOf find?_cons l_scope eq_of_mem_replicate succ list getElem?_reverse either codeAmong beq_self_eq_true allP Calls tabs func wpAny_setField_rec typeIs isSome goal excBase_ValueError deeper IsCell wpAny_specialOf wpAny_passesOwn wpAny_ite_split wpAny_execs_nil place mem_of_mem_drop SetTable parts_len zero TypeIs wpAny_pyIter_list valueAt plain_extend_loop isEmpty hideAll has cps IsTuple tNext or_eq_true mg_of le_of_eq frame evalArgs_plain any_eq_true seq hst wpAny_isInstance tok slot_next rest looks_findIn bootBuiltins bare dep refl mapSeq keepIn Paired EqAt out slot_tuple_iterator_next lt_succ_of_lt lots error eq_nil_of_length_eq_zero ZipApart wpAny_updateSeq leaving dropLast_concat boot_isinstance pyNext nodup_cons hdct followText wpAny_getItem_str_slice start piece occurrences le_antisymm keywordEach iff_of_true forIn_nil eq_of_beq emptyDict emod_nonneg stop wpAny_ite_true sp_lotsafter slice not_eq_true' nest ne_of_gt more lt_of_le_of_ne listExtendWith line le_add_right kept iff_of_false gens flatten_cons filterMap_cons extBut emod_lt_of_pos Tuple sIx stay ins calm sSlot codeAny_call_function Range wpAny_rule wpAny_execs_cons wpAny_askSetting unwish swapsWith".splitOn
def H:="β γ δ ε ζ η θ ν ξ ο π ρ ς υ χ ψ ω Δ Θ Λ Ξ Φ Ψ Ω b9 lZ oP nM mF nA b7 mG fN n5 TC tV nZ pP qO aI pI TB mE bE TW u3 UH t8 mW P' mU uM Tx r9 oY u1 o4 Zh Rm Hr qI wZ w5 o7 UD fC UF n3 q9 b_ g8 cG UL bA oN oA mY UQ UR US p8 vJ oR pT rA Q5 tO qU T5 pW pY iT nF Ug bZ cZ Uj P2 Ul Um b8 uO vM y0 WK dG Uu rS u4 y1 F5 w6 xF uN lp eE Ip qg pV oV tl U_ yT xq X5 VC cU aQ bI VG A4 uZ hN w8 VM xG pN Vt i7 Ki u_ yU dM vO hl oF Ui ax DI w9 A6 T6 BO wA I1 I2 LJ T7 vP I3 Vm F6 MZ eN Vq xI ei cJ nS BP Vw BR Vy DJ aL Gd V4 w7 rv sx vN x' V_ Za WA WB WC Ms Hu WF WG qA WJ WL uP zJ zM P4 uR WS Kq hL WW I4 WY WZ zN Wb Wc AU T8 I6 Wh N' Wj rE cR Wm fW F9 DM LM FE zO FP Wv BS Wx Wy yW u7 W4 yV n6 Wo bC W9 AP qF I7 I8 nV pZ XF XG XH oS t9 XL tE vR XO XQ zR XS Mc jL I9 y3 wF wG XZ lE Xb FW vS Xe wI Xg IF IJ DW Xk N0 X6 Xn LN Xp Xq P5 Xs Xt Xu X7 r4 Xx Xy XA X0 X1 zP X3 fx FD hG bY X8 X9 DR q3 Ds yY YD qV oh YG YH YI YJ e6 YL jI YN YO YQ BC pR nr jq vr YW P6 YY YZ BU P7 XE Yd qW Yf T9 BV Yi Yj zS A7 Ym Yn u9 IP wJ G' fm Yt XI Yv eZ TA y4 XJ f6 Y1 Y2 pH Kd Kx Y6 Y7 Y8 sf gT dQ ZA gU G2 ZD ZE ZF ZG ZI iZ BW ZL r5 lx ZQ ZR ZS ij ZV ZW TF ZY ZZ IS N1 lP TJ P8 Zf PA eS IT jA Zk Zl Zm Zn Zo PE PF PI Zs Zt Zu Zv uA Zx TM TN zT eC hh Z7 Z8 Z9 Z_ Z'".splitOn
def X:Std.HashMap String String:=.ofList (H.zip G)
def M:Name->Name|.str p s=>.str (M p) (X.getD s s)|n=>n
def Z:="QAB QAE QAH QAJ QAK QAR QAa QAp QAq QAs QAt QAu QAw QAy QA5 QA6 QBG QBO QBR QBe QBg QBk QBm QBn QBo QBv QBz QB2 QB8 QB' QCC QCD QCE QCQ QCR QCU QCX QCi QCk QCl QCm QCv QCw QCx QC1 QC5 QC9 QC_ QC' QDQ QDR QDX QDZ QDe QDf QDj QDk QDl QDn QDs QDu QD1 QD4 QD5 QD7 QD8 QEM QEN QEO QER QEU QEY QEc QEf QEg QEp QEq QEu QEv QEy QE0 QE3 QE4 QE7 QE' QFJ QFO QFe QFf QFg QFh QFi QFp QFs QFv QF4 QGD QGE QGF QGG QGH QGT QGU QGa QGb QGn QGo QGp QGq QGr QHF QHH QHI QHP QHQ QHR QHS QHT QHU QHV QHY QHZ QHa QHh QHk QHn QHw QHx QHy QHz QH0 QH1 QH3 QH' QIA QIC QIF QIL QIM QIO QIT QIU QIa QIc QIi QIm QIp QIx QIy QIz QI0 QI1 QI2 QI6 QI7 QI8 QI_ QJB QJC QJD QJM QJP QJR QJa QJf QJg QJu QJv QJw QJx QJy QJz QJ1 QJ8 QKA QKB QKC QKD QKH QKS QKV QKW QKm QKn QKp QKr QKs QK7 QLA QLB QLD QLE QLU QLV QLW QLX QLc QLe QLs QLt QLu QLv QLw QLx QLy QL0 QMJ QMP QMU QMX QMv QMw QMx QMy QM0 QM3 QM5 QNF QNG QNH QNI QNL QNM QNO QNP QNV QNW QNa QNj QNk QNl QNp QNq QNr QNs QNt QNu QNv QNw QNx QNy QNz QN0 QN5 QOA QOG QOP QOQ QOR QOS QOT QOX QOe QOf QOj QPR QPS QPT QPU QPV QPW QPX QPc QPj QPk QPo QPq QPw QPx QPy QPz QP0 QP1 QP2 QP8 QQA QQE QQH QQM QQS QQn QQw QQx QRA QRB QRC QRD QRE QRF QRG QRH QRT QRV QRZ QRb QRc QRi QRj QRk QRo QRp QRq QRr QRs QRv QRy QR0 QR9 QSC QSG QSH QSL QSQ QSR QSS QSU QSa QSc QS3 QS4 QS5 QS6 QS7 QS9 QTA QTD QTG QTI QTK QTO QTY QTb QTe QTg QTi QTw QT0 QT8 QUG QUH QUI QUJ QUK QUL QUM QUN QUO QUT QUU QUV QUf QUh QUi QUn QUv QU0 QU5 QU' QVI QVJ QVK QVL QVM QVN QVO QVP QVQ QVS QVT QVU QVV QVW QVX QVa QVb QVi QVk QV1 QV2 QV3 QAA QAC QAD QAF QAG QAI QAL QAM QAN QAO QAP QAQ QAS QAT QAU QAV QAW QAX QAY QAZ QAb QAc QAd QAe QAf QAg QAh QAi QAj QAk QAl QAm QAn QAo QAr QAv QAx QAz QA0 QA1 QA2 QA3 QA4 QA7 QA8 QA9 QA_ QA' QBA QBB QBC QBD QBE QBF QBH QBI QBJ QBK QBL QBM QBN QBP QBQ QBS QBT QBU QBV QBW QBX QBY QBZ QBa QBb QBc QBd QBf QBh QBi QBj QBl QBp QBq QBr QBs QBt QBu QBw QBx QBy QB0 QB1 QB3 QB4 QB5 QB6 QB7 QB9 QB_ QCA QCB QCF QCG QCH QCI QCJ QCK QCL QCM QCN QCO QCP QCS QCT QCV QCW QCY QCZ QCa QCb QCc QCd QCe QCf QCg QCh QCj QCn QCo QCp QCq QCr QCs QCt QCu QCy QCz QC0 QC2 QC3 QC4 QC6 QC7 QC8 QDA QDB QDC QDD QDE QDF QDG QDH QDI QDJ QDK QDL QDM QDN QDO QDP QDS QDT QDU QDV QDW QDY QDa QDb QDc QDd QDg QDh QDi QDm QDo QDp QDq QDr QDt QDv QDw QDx QDy QDz QD0 QD2 QD3 QD6 QD9 QD_ QD' QEA QEB QEC QED QEE QEF QEG QEH QEI QEJ QEK QEL QEP QEQ QES QET QEV QEW QEX QEZ QEa QEb QEd QEe QEh QEi QEj QEk QEl QEm QEn QEo QEr QEs QEt QEw QEx QEz QE1 QE2 QE5 QE6 QE8 QE9 QE_ QFA QFB QFC QFD QFE QFF QFG QFH QFI QFK QFL QFM QFN QFP QFQ QFR QFS QFT QFU QFV QFW QFX QFY QFZ QFa QFb QFc QFd QFj QFk QFl QFm QFn QFo QFq QFr QFt QFu QFw QFx QFy QFz QF0 QF1 QF2 QF3 QF5 QF6 QF7 QF8 QF9 QF_ QF' QGA QGB QGC QGI QGJ QGK QGL QGM QGN QGO QGP QGQ QGR QGS QGV QGW QGX QGY QGZ QGc QGd QGe QGf QGg QGh QGi QGj QGk QGl QGm QGs QGt QGu QGv QGw QGx QGy QGz QG0 QG1 QG2 QG3 QG4 QG5 QG6 QG7 QG8 QG9 QG_ QG' QHA QHB QHC QHD QHE QHG QHJ QHK QHL QHM QHN QHO QHW QHX QHb QHc QHd QHe QHf QHg QHi QHj QHl QHm QHo QHp QHq QHr QHs QHt QHu QHv QH2 QH4 QH5 QH6 QH7 QH8 QH9 QH_ QIB QID QIE QIG QIH QII QIJ QIK QIN QIP QIQ QIR QIS QIV QIW QIX QIY QIZ QIb QId QIe QIf QIg QIh QIj QIk QIl QIn QIo QIq QIr QIs QIt QIu QIv QIw QI3 QI4 QI5 QI9 QI' QJA QJE QJF QJG QJH QJI QJJ QJK QJL QJN QJO QJQ QJS QJT QJU QJV QJW QJX QJY QJZ QJb QJc QJd QJe QJh QJi QJj QJk QJl QJm QJn QJo QJp QJq QJr QJs QJt QJ0 QJ2 QJ3 QJ4 QJ5 QJ6 QJ7 QJ9 QJ_ QJ' QKE QKF QKG QKI QKJ QKK QKL QKM QKN QKO QKP QKQ QKR QKT QKU QKX QKY QKZ QKa QKb QKc QKd QKe QKf QKg QKh QKi QKj QKk QKl QKo QKq QKt QKu QKv QKw QKx QKy QKz QK0 QK1 QK2 QK3 QK4 QK5 QK6 QK8 QK9 QK_ QK' QLC QLF QLG QLH QLI QLJ QLK QLL QLM QLN QLO QLP QLQ QLR QLS QLT QLY QLZ QLa QLb QLd QLf QLg QLh QLi QLj QLk QLl QLm QLn QLo QLp QLq QLr QLz QL1 QL2 QL3 QL4 QL5 QL6 QL7 QL8 QL9 QL_ QL' QMA QMB QMC QMD QME QMF QMG QMH QMI QMK QML QMM QMN QMO QMQ QMR QMS QMT QMV QMW QMY QMZ QMa QMb QMc QMd QMe QMf QMg QMh QMi QMj QMk QMl QMm QMn QMo QMp QMq QMr QMs QMt QMu QMz QM1 QM2 QM4 QM6 QM7 QM8 QM9 QM_ QM' QNA QNB QNC QND QNE QNJ QNK QNN QNQ QNR QNS QNT QNU QNX QNY QNZ QNb QNc QNd QNe QNf QNg QNh QNi QNm QNn QNo QN1 QN2 QN3 QN4 QN6 QN7 QN8 QN9 QN_ QN' QOB QOC QOD QOE QOF QOH QOI QOJ QOK QOL QOM QON QOO QOU QOV QOW QOY QOZ QOa QOb QOc QOd QOg QOh QOi QOk QOl QOm QOn QOo QOp QOq QOr QOs QOt QOu QOv QOw QOx QOy QOz QO0 QO1 QO2 QO3 QO4 QO5 QO6 QO7 QO8 QO9 QO_ QO' QPA QPB QPC QPD QPE QPF QPG QPH QPI QPJ QPK QPL QPM QPN QPO QPP QPQ QPY QPZ QPa QPb QPd QPe QPf QPg QPh QPi QPl QPm QPn QPp QPr QPs QPt QPu QPv QP3 QP4 QP5 QP6 QP7 QP9 QP_ QP' QQB QQC QQD QQF QQG QQI QQJ QQK QQL QQN QQO QQP QQQ QQR QQT QQU QQV QQW QQX QQY QQZ QQa QQb QQc QQd QQe QQf QQg QQh QQi QQj QQk QQl QQm QQo QQp QQq QQr QQs QQt QQu QQv QQy QQz QQ0 QQ1 QQ2 QQ3 QQ4 QQ5 QQ6 QQ7 QQ8 QQ9 QQ_ QQ' QRI QRJ QRK QRL QRM QRN QRO QRP QRQ QRR QRS QRU QRW QRX QRY QRa QRd QRe QRf QRg QRh QRl QRm QRn QRt QRu QRw QRx QRz QR1 QR2 QR3 QR4 QR5 QR6 QR7 QR8 QR_ QR' QSA QSB QSD QSE QSF QSI QSJ QSK QSM QSN QSO QSP QST QSV QSW QSX QSY QSZ QSb QSd QSe QSf QSg QSh QSi QSj QSk QSl QSm QSn QSo QSp QSq QSr QSs QSt QSu QSv QSw QSx QSy QSz QS0 QS1 QS2 QS8 QS_ QS' QTB QTC QTE QTF QTH QTJ QTL QTM QTN QTP QTQ QTR QTS QTT QTU QTV QTW QTX QTZ QTa QTc QTd QTf QTh QTj QTk QTl QTm QTn QTo QTp QTq QTr QTs QTt QTu QTv QTx QTy QTz QT1 QT2 QT3 QT4 QT5 QT6 QT7 QT9 QT_ QT' QUA QUB QUC QUD QUE QUF QUP QUQ QUR QUS QUW QUX QUY QUZ QUa QUb QUc QUd QUe QUg QUj QUk QUl QUm QUo QUp QUq QUr QUs QUt QUu QUw QUx QUy QUz QU1 QU2 QU3 QU4 QU6 QU7 QU8 QU9 QU_ QVA QVB QVC QVD QVE QVF QVG QVH QVR QVY QVZ QVc QVd QVe QVf QVg QVh QVj QVl QVm QVn QVo QVp QVq QVr QVs QVt QVu QVv QVw QVx QVy QVz QV0".splitOn
def Y:Std.HashMap String Nat:=.ofList (Z.zip (List.range Z.length))
def rb(f:Syntax->Syntax)(s:Syntax):Syntax:=s.rewriteBottomUp f
def mp(f:Syntax->Syntax)(a:Array Syntax):=a.map f
def W(g:Nat->Syntax)(s:Syntax):=rb (s:=s) λx=>match x with|.atom _ v=>.atom .none v|.ident _ _ v p=>(match Y[toString v]? with|some i=>g i|_=>let v:=M v;.ident .none (toString v).toRawSubstring v p)|x=>x
def bk:="null .app .paren .explicitBinder .dotIdent num .hole .basicFun".splitOn
def V:Nat->Syntax->String|n+1,.node _ k a=>if k==T "hygienicLParen" then "p\n" else let q:=(toString k).replace "Lean.Parser.Term." ".";let i:=bk.idxOf q;s!"n{a.size} {if i<8 then toString i else q}\n"++String.join (a.toList.map (V n))|_,.atom _ v=>"a"++v++"\n"|_,.ident _ _ v _=>s!"i{v}\n"|_,_=>"m\n"
def I:Nat->List String->Syntax×List String
 |n+1,x::l=>let r:=(x.drop 1).toString
  if x=="p" then (N (T "hygienicLParen") #[A "(",N `hygieneInfo #[mkIdent .anonymous]],l) else if x.startsWith "a" then (A r,l) else if x.startsWith "i" then (mkIdent r.toName,l) else if x.startsWith "n" then
   let w:=r.splitOn;let y:=(List.range w.head!.toNat!).foldl (λp _=>let z:=I n p.2;(p.1.push z.1,z.2)) ((#[]:Array Syntax),l);let k:=" ".intercalate w.tail!;let k:=(k.toNat?.map (bk[·]!)).getD k;(N (if k.startsWith "." then "Lean.Parser.Term"++k else k).toName y.1,y.2)
  else (.missing,l)
 |_,l=>(.missing,l)
def gW:Std.HashSet String:=.ofList ("AC Bm CXT Draws Ends Env Ev FB Fk H2' IntsAre IsZip Ix KB Keyword Mod Sem Slot St String Tk Tok Two Ve ab ac acc ad agF again al am an an2 ap apos arg args argsOk assign base' bd be bi bin bindC bindL bm bn body brk bv byt cH_ cNL cRE cTM cX ca cd ce ch cl co code col congr cont cpos cr ct ctv dL dd decide done dvs dx elt emL envOfC ev ex exmOne ext f_c fd fdI fdX fh first fits fn fnMade fnx forIn fr frz funext fvs g_V g_W go gt gx gx' h18 h28 hP' hW8 hd he hex hf hgk hh2 hk' hm hms hpt hs1 hsm4 hsz hw hxj hxl3 hz h₀ id ifs ih1 ih2 ii inT injection isB isFn it item its' jp kB kernel kin kla_fn kla_obj knd ks' kt kw lB lD le led left lhs lk lm lo lt lvl lw max mem mg min mk mkW most nC na na1 nb ne next nm nonL not np nsIn obj off ok ol only op or osl2 own pa pc pl pm pp pr pre ps' pt pu pure py pyIter q_ae q_ag q_al q_g q_m q_pg q_pm q_te q_tg q_tl ret retr rfl rg rhs right rk rnd room row rule rw s'' sB sK sc scan self sgn slots sn sp split spn st star step suite symm tB tC tNil this to trans trivial tt ty un up vBM va vks wa wl wr ws' wv ww xe xx xz yK yg yl yp zH zQ zb zj".splitOn)
def gS:List Char->List String
 |'Q'::a::b::l=>.ofList ['Q',a,b]::gS l
 |a::b::l=>if "0123456789AEFGIJMNOPRSTUVWYZ's".contains b then .ofList [a,b]::gS l else .ofList [a]::gS (b::l)
 |l=>l.map λa=>.ofList [a]
def gA(y:Syntax)(n:=9):Syntax:=match n with|0=>y|n+1=>if y.getKind==`zz.g then U y[1] (y.getArgs.extract 2 99) else if y.getKind==`null then L (y.getArgs.map (gA · n)) else y
def gO(y:Syntax):Syntax:=if y.getKind==`zz.g then y[0] else y
def gB(y:Syntax):=if y.getKind==`null then L (y.getArgs.flatMap λz=>if z.getKind==`Lean.binderIdent&&z[0].getKind==`zz.g then (z[0].getArgs.extract 1 99).map λp=>N z.getKind #[p] else #[gA z]) else gA y
def gL(y:Syntax):=L (y.getArgs.flatMap λz=>if z.getKind==`zz.g then z.getArgs.extract 1 99 else #[z])
def gT(s:Syntax):=rb (s:=s) λx=>match x with
 |.ident _ _ (.str .anonymous n) _=>if n.endsWith "!" then mkIdent (.mkSimple (n.dropEnd 1).toString) else match gS n.toList with
  |[_]=>x
  |l=>if gW.contains n then x else N `zz.g (#[x]++l.map λy=>if y=="_" then N (T "hole") #[A y] else (mkIdent (.mkSimple y):Syntax))
 |.node i k a=>if k==`null||k==`zz.g||k==`Lean.binderIdent then x else if k==T "app" then let f:=a[0]!;if f.getKind==`zz.g then U f[1] (f.getArgs.extract 2 99++(gL a[1]!).getArgs) else N k #[f,gL a[1]!]
  else if k==`«term_^_» then let f:=a[0]!;let r:=gA a[2]!;if f.getKind==`zz.g then U f[1] (f.getArgs.extract 2 99|>.push r) else if f.getKind==T "app" then N f.getKind #[f[0],L (f[1].getArgs.push r)] else if f.getKind==`num||f.getKind==T "paren"||f.getKind==T "typeAscription" then N k (mp gA a) else U f #[r]
  else if k==T "dotIdent"||k==T "proj"||k==T "structInstLVal" then N k (mp gO a) else if k==T "namedArgument" then N k (mp gA (a.modify 1 gO))
  else if k==`Lean.bracketedExplicitBinders||k==`Lean.unbracketedExplicitBinders then N k (mp gB a)
  else if k==T "basicFun" then N k (mp gA (a.modify 0 gL))
  else if k==T "forall"||k==T "explicitBinder"||k==T "implicitBinder"||k==Q "intro" then N k (mp gA (a.modify 1 gL)) else N k (mp gA a)
 |_=>x
def D(g:Nat->Syntax)(s:Syntax):MacroM Syntax:=do
 let d:=s[1];let k:=d.getKind;let m:=s[0]
 if k==C "example" then if let some x:=d[2][1].isStrLit? then return L ((K x.toList).toArray.map λn=>R ("PySem.W.Fast.tw"++toString n) (N (C "declSig") #[L #[],N (T "typeSpec") #[A ":",mkCIdent ``True]]) (N (C "declValSimple") #[A ":=",mkCIdent ``trivial,N `Lean.Parser.Termination.suffix #[L #[],L #[]],L #[]]) m)
 if k==C "example" then
  let e:=(d[1][0].getArgs++(d[2][1][1].getArgs.filter (!·.isAtom))).map gT;let e:=(List.range 9).foldl (λe _=>e.map (W λi=>e[i]!)) e
  return N s.getKind #[m,N (C "definition") #[A "def",N (C "declId") #[mkIdent `zz.v,L #[]],N (C "optDeclSig") #[L #[],L #[]],N (C "declValSimple") #[A ":=",Syntax.mkStrLit ("	".intercalate (e.toList.map (V 99))),N `Lean.Parser.Termination.suffix #[L #[],L #[]],L #[]],L #[]]]
 let i:=if k==C "instance" then d[3][0] else d[1]
 unless (i.getHeadInfo matches .original ..)&&m.getArgs.all (·.getNumArgs==0) do Macro.throwUnsupported
 let f:=λm k x a=>return W g (gT (N s.getKind #[m,N (C k) (#[A x,i]++a)]))
 if k==C "definition" then f m "theorem" "theorem" #[N (C "declSig") #[d[2][0],d[2][1][0]],d[3]]
 else if k==C "abbrev" then f (m.setArg 4 (L #[N (C "noncomputable") #[A "noncomputable"]])) "definition" "def" #[d[2],d[3],L #[]]
 else if k==C "instance" then f m "abbrev" "abbrev" #[N (C "optDeclSig") #[d[4][0],L #[d[4][1]]],d[5]]
 else if k==C "inductive"||k==C "structure" then return W g (gT s)
 else Macro.throwUnsupported
def O(s:Syntax):=
 let p:=s[2][0]
 if p.getKind==T "letPatDecl" then
  let q:=rb (s:=p[0]) λs=>match s with
   |.ident ..=>N (Q "rcasesPat.one") #[s]
   |.node _ k a=>if k==T "hole" then N (Q "rcasesPat.ignore") a else if k==T "tuple"||k==T "anonymousCtor" then N (Q "rcasesPat.tuple") #[A "⟨",L ((if k==T "tuple" then #[a[1]![0],A ","]++a[1]![2].getArgs else a[1]!.getArgs).map λe=>if e.isAtom then e else N (Q "rcasesPatLo") #[N (Q "rcasesPatMed") #[L #[e]],L #[]]),A "⟩"] else s
   |_=>s
  N (Q "obtain") #[A "obtain",L #[N (Q "rcasesPatMed") #[L #[q]]],L #[],L #[A ":=",L #[p[4]]]]
 else N (Q "tacticHave__") #[A "have",s[1],s[2]]
def E(s:Syntax):MacroM Syntax:=do
 let b:=s[1][2].getArgs
 if b.size%2==0 then Macro.throwUnsupported
 return N (T "anonymousCtor") #[A "⟨",L ((#[s[1][0]]++b).flatMap λe=>if e.isAtom then #[] else (match e.isNatLit? with|some n=>(#["r","hhr","hr","q","hhrr","rr","rrr3rr033","hh","hhhr","6"][n]?.map λ(s:String)=>s.toList.toArray.map λc=>if c=='h' then N (T "hole") #[A "_"] else if c=='r' then mkCIdent ``rfl else if c=='q' then N (T "syntheticHole") #[A "?",A "_"] else N `term!_ #[A "!",N `num #[A c.toString]]).getD #[e]|_=>#[e]).flatMap λe=>#[e,A ","]),A "⟩"]
def B' s:=(Syntax.find? s (·.getAtomVal=="|")).isSome
def o(s:Syntax):MacroM Syntax:=do
 let d:=s[1][0][0];let p:=d[0];let t:=s[3][1][0]
 if B' s||s[2].getNumArgs != 0||p.getKind != Q "rcasesPat.tuple" then Macro.throwUnsupported
 let w:=(p[1].getArgs.filter (!·.isAtom)).zipIdx.map λ(l,i)=>let m:=l[0];let q:=m[0][0];let b:=l[1].getNumArgs==0;let x:=mkIdent (.mkSimple s!"ζ{t.getId}{i}");if b&&q.getKind==Q "rcasesPat.ignore" then (N (T "hole") #[A "_"],#[]) else if b&&q.getKind==Q "rcasesPat.one" then if q[0].getId == `rfl then (x.raw,#[A ";",J "subst" #[L #[x]]]) else (q[0],#[]) else (x.raw,#[A ";",(s.setArg 1 (L #[m])).setArg 3 (L #[A ":=",L #[x]])])
 let n:=w.size;let c:=(if t.isIdent then #[A ";",N (Q "tacticTry_") #[A "try",S #[J "clear" #[L #[t]]]]] else #[])++#[A ";",J "intro" #[L (w.map (·.1))]]
 return F ((((List.range n).map λk=>s!"z{k}{n-k}").filter (["z11","z12","z02","z13","z22","z23","z03","z33","z24","z32","z04","z14","z35","z44","z06","z05","z34","z25","z15","z42","z31","z21","z47","z45","z26","z27","z16","z43","z36","z46","z55","z56"].contains ·)).toArray.map (λz=>#[J "refine" #[N (T "noImplicitLambda") #[A "",U (mkIdent (`zz++.mkSimple z)) #[t,N (T "syntheticHole") #[A "?",A "_"]]]]]++c++w.flatMap (·.2)) |>.push #[J "rcases" #[L #[N (Q "elimTarget") #[L #[],t]],L #[A "with",N (Q "rcasesPatLo") #[s[1][0],L #[]]]]])
def r(s:Syntax):MacroM Syntax:=do
 let a:=s[1].getArgs
 if B' s||a.all (·[0].getKind != Q "rcasesPat.tuple") then Macro.throwUnsupported
 return N (Q "paren") #[A "(",S ((a.zipIdx.flatMap λ(p,i)=>let q:=p[0];let x:=mkIdent (.mkSimple s!"ξ{i}");let k:=q.getKind;let I:=λx=>#[J "intro" #[L #[x]],A ";"];if k==Q "rcasesPat.ignore" then I (N (T "hole") #[A "_"]) else if k==Q "rcasesPat.one" then if q[0].getId == `rfl then I x++#[J "subst" #[L #[x]],A ";"] else I q[0] else I x++#[J "obtain" #[L #[N (Q "rcasesPatMed") #[L #[q]]],L #[],L #[A ":=",L #[x]]],A ";"]).pop),A ")"]
@[elab_as_elim]theorem rE{P:α→Prop}{a b:α}(e:a=b)(h:P b):P a:=e▸h
def q(s:Syntax):MacroM Syntax:=do
 if s[3].getNumArgs != 0 then Macro.throwUnsupported
 return N (Q "paren") #[A "(",S ((s[2][1].getSepArgs.flatMap λr=>let w:=#[N (Q "rewriteSeq") #[A "rewrite",s[1],s[2].setArg 1 (L #[r]),L #[]]];#[if (Syntax.find? r (·.getKind==T "syntheticHole")).isSome then w[0]! else F #[#[J "refine" #[U (mkCIdent `zz.rE) #[if r[0].getNumArgs==0 then r[1] else U (mkCIdent ``Eq.symm) #[r[1]],N (T "syntheticHole") #[A "?",A "_"]]]],w],A ";"]).push (N (Q "tacticTry_") #[A "try",S #[N (Q "withReducible") #[A "with_reducible",S #[N (Q "tacticRfl") #[A "rfl"]]]]])),A ")"]
theorem z11{A:u→Prop}{G:Prop}(h:∃a,A a)(g:∀a,A a→G):G:=h.elim λa h=>g a h
theorem z12{A B:u→Prop}{G:Prop}(h:∃a,A a∧B a)(g:∀a,A a→B a→G):G:=h.elim λa h=>g a h.1 h.2
theorem z02{A B:Prop}{G:Prop}(h:A∧B)(g:A→B→G):G:=g h.1 h.2
theorem z13{A B C:u→Prop}{G:Prop}(h:∃a,A a∧B a∧C a)(g:∀a,A a→B a→C a→G):G:=h.elim λa h=>g a h.1 h.2.1 h.2.2
theorem z22{A B:u→v→Prop}{G:Prop}(h:∃a b,A a b∧B a b)(g:∀a b,A a b→B a b→G):G:=h.elim λa h=>h.elim λb h=>g a b h.1 h.2
theorem z23{A B C:u→v→Prop}{G:Prop}(h:∃a b,A a b∧B a b∧C a b)(g:∀a b,A a b→B a b→C a b→G):G:=h.elim λa h=>h.elim λb h=>g a b h.1 h.2.1 h.2.2
theorem z03{A B C:Prop}{G:Prop}(h:A∧B∧C)(g:A→B→C→G):G:=g h.1 h.2.1 h.2.2
theorem z33{A B C:u→v→w→Prop}{G:Prop}(h:∃a b c,A a b c∧B a b c∧C a b c)(g:∀a b c,A a b c→B a b c→C a b c→G):G:=h.elim λa h=>h.elim λb h=>h.elim λc h=>g a b c h.1 h.2.1 h.2.2
theorem z24{A B C D:u→v→Prop}{G:Prop}(h:∃a b,A a b∧B a b∧C a b∧D a b)(g:∀a b,A a b→B a b→C a b→D a b→G):G:=h.elim λa h=>h.elim λb h=>g a b h.1 h.2.1 h.2.2.1 h.2.2.2
theorem z32{A B:u→v→w→Prop}{G:Prop}(h:∃a b c,A a b c∧B a b c)(g:∀a b c,A a b c→B a b c→G):G:=h.elim λa h=>h.elim λb h=>h.elim λc h=>g a b c h.1 h.2
theorem z04{A B C D:Prop}{G:Prop}(h:A∧B∧C∧D)(g:A→B→C→D→G):G:=g h.1 h.2.1 h.2.2.1 h.2.2.2
theorem z14{A B C D:u→Prop}{G:Prop}(h:∃a,A a∧B a∧C a∧D a)(g:∀a,A a→B a→C a→D a→G):G:=h.elim λa h=>g a h.1 h.2.1 h.2.2.1 h.2.2.2
theorem z35{A B C D E:u→v→w→Prop}{G:Prop}(h:∃a b c,A a b c∧B a b c∧C a b c∧D a b c∧E a b c)(g:∀a b c,A a b c→B a b c→C a b c→D a b c→E a b c→G):G:=h.elim λa h=>h.elim λb h=>h.elim λc h=>g a b c h.1 h.2.1 h.2.2.1 h.2.2.2.1 h.2.2.2.2
theorem z44{A B C D:u→v→w→x→Prop}{G:Prop}(h:∃a b c d,A a b c d∧B a b c d∧C a b c d∧D a b c d)(g:∀a b c d,A a b c d→B a b c d→C a b c d→D a b c d→G):G:=h.elim λa h=>h.elim λb h=>h.elim λc h=>h.elim λd h=>g a b c d h.1 h.2.1 h.2.2.1 h.2.2.2
theorem z06{A B C D E F:Prop}{G:Prop}(h:A∧B∧C∧D∧E∧F)(g:A→B→C→D→E→F→G):G:=g h.1 h.2.1 h.2.2.1 h.2.2.2.1 h.2.2.2.2.1 h.2.2.2.2.2
theorem z05{A B C D E:Prop}{G:Prop}(h:A∧B∧C∧D∧E)(g:A→B→C→D→E→G):G:=g h.1 h.2.1 h.2.2.1 h.2.2.2.1 h.2.2.2.2
theorem z34{A B C D:u→v→w→Prop}{G:Prop}(h:∃a b c,A a b c∧B a b c∧C a b c∧D a b c)(g:∀a b c,A a b c→B a b c→C a b c→D a b c→G):G:=h.elim λa h=>h.elim λb h=>h.elim λc h=>g a b c h.1 h.2.1 h.2.2.1 h.2.2.2
theorem z25{A B C D E:u→v→Prop}{G:Prop}(h:∃a b,A a b∧B a b∧C a b∧D a b∧E a b)(g:∀a b,A a b→B a b→C a b→D a b→E a b→G):G:=h.elim λa h=>h.elim λb h=>g a b h.1 h.2.1 h.2.2.1 h.2.2.2.1 h.2.2.2.2
theorem z15{A B C D E:u→Prop}{G:Prop}(h:∃a,A a∧B a∧C a∧D a∧E a)(g:∀a,A a→B a→C a→D a→E a→G):G:=h.elim λa h=>g a h.1 h.2.1 h.2.2.1 h.2.2.2.1 h.2.2.2.2
theorem z42{A B:u→v→w→x→Prop}{G:Prop}(h:∃a b c d,A a b c d∧B a b c d)(g:∀a b c d,A a b c d→B a b c d→G):G:=h.elim λa h=>h.elim λb h=>h.elim λc h=>h.elim λd h=>g a b c d h.1 h.2
theorem z31{A:u→v→w→Prop}{G:Prop}(h:∃a b c,A a b c)(g:∀a b c,A a b c→G):G:=h.elim λa h=>h.elim λb h=>h.elim λc h=>g a b c h
theorem z21{A:u→v→Prop}{G:Prop}(h:∃a b,A a b)(g:∀a b,A a b→G):G:=h.elim λa h=>h.elim λb h=>g a b h
theorem z47{A B C D E F I:u→v→w→x→Prop}{G:Prop}(h:∃a b c d,A a b c d∧B a b c d∧C a b c d∧D a b c d∧E a b c d∧F a b c d∧I a b c d)(g:∀a b c d,A a b c d→B a b c d→C a b c d→D a b c d→E a b c d→F a b c d→I a b c d→G):G:=h.elim λa h=>h.elim λb h=>h.elim λc h=>h.elim λd h=>g a b c d h.1 h.2.1 h.2.2.1 h.2.2.2.1 h.2.2.2.2.1 h.2.2.2.2.2.1 h.2.2.2.2.2.2
theorem z45{A B C D E:u→v→w→x→Prop}{G:Prop}(h:∃a b c d,A a b c d∧B a b c d∧C a b c d∧D a b c d∧E a b c d)(g:∀a b c d,A a b c d→B a b c d→C a b c d→D a b c d→E a b c d→G):G:=h.elim λa h=>h.elim λb h=>h.elim λc h=>h.elim λd h=>g a b c d h.1 h.2.1 h.2.2.1 h.2.2.2.1 h.2.2.2.2
theorem z26{A B C D E F:u→v→Prop}{G:Prop}(h:∃a b,A a b∧B a b∧C a b∧D a b∧E a b∧F a b)(g:∀a b,A a b→B a b→C a b→D a b→E a b→F a b→G):G:=h.elim λa h=>h.elim λb h=>g a b h.1 h.2.1 h.2.2.1 h.2.2.2.1 h.2.2.2.2.1 h.2.2.2.2.2
theorem z27{A B C D E F I:u→v→Prop}{G:Prop}(h:∃a b,A a b∧B a b∧C a b∧D a b∧E a b∧F a b∧I a b)(g:∀a b,A a b→B a b→C a b→D a b→E a b→F a b→I a b→G):G:=h.elim λa h=>h.elim λb h=>g a b h.1 h.2.1 h.2.2.1 h.2.2.2.1 h.2.2.2.2.1 h.2.2.2.2.2.1 h.2.2.2.2.2.2
theorem z16{A B C D E F:u→Prop}{G:Prop}(h:∃a,A a∧B a∧C a∧D a∧E a∧F a)(g:∀a,A a→B a→C a→D a→E a→F a→G):G:=h.elim λa h=>g a h.1 h.2.1 h.2.2.1 h.2.2.2.1 h.2.2.2.2.1 h.2.2.2.2.2
theorem z43{A B C:u→v→w→x→Prop}{G:Prop}(h:∃a b c d,A a b c d∧B a b c d∧C a b c d)(g:∀a b c d,A a b c d→B a b c d→C a b c d→G):G:=h.elim λa h=>h.elim λb h=>h.elim λc h=>h.elim λd h=>g a b c d h.1 h.2.1 h.2.2
theorem z36{A B C D E F:u→v→w→Prop}{G:Prop}(h:∃a b c,A a b c∧B a b c∧C a b c∧D a b c∧E a b c∧F a b c)(g:∀a b c,A a b c→B a b c→C a b c→D a b c→E a b c→F a b c→G):G:=h.elim λa h=>h.elim λb h=>h.elim λc h=>g a b c h.1 h.2.1 h.2.2.1 h.2.2.2.1 h.2.2.2.2.1 h.2.2.2.2.2
theorem z46{A B C D E F:u→v→w→x→Prop}{G:Prop}(h:∃a b c d,A a b c d∧B a b c d∧C a b c d∧D a b c d∧E a b c d∧F a b c d)(g:∀a b c d,A a b c d→B a b c d→C a b c d→D a b c d→E a b c d→F a b c d→G):G:=h.elim λa h=>h.elim λb h=>h.elim λc h=>h.elim λd h=>g a b c d h.1 h.2.1 h.2.2.1 h.2.2.2.1 h.2.2.2.2.1 h.2.2.2.2.2
theorem z55{A B C D E:u→v→w→x→y→Prop}{G:Prop}(h:∃a b c d e,A a b c d e∧B a b c d e∧C a b c d e∧D a b c d e∧E a b c d e)(g:∀a b c d e,A a b c d e→B a b c d e→C a b c d e→D a b c d e→E a b c d e→G):G:=h.elim λa h=>h.elim λb h=>h.elim λc h=>h.elim λd h=>h.elim λe h=>g a b c d e h.1 h.2.1 h.2.2.1 h.2.2.2.1 h.2.2.2.2
theorem z56{A B C D E F:u→v→w→x→y→Prop}{G:Prop}(h:∃a b c d e,A a b c d e∧B a b c d e∧C a b c d e∧D a b c d e∧E a b c d e∧F a b c d e)(g:∀a b c d e,A a b c d e→B a b c d e→C a b c d e→D a b c d e→E a b c d e→F a b c d e→G):G:=h.elim λa h=>h.elim λb h=>h.elim λc h=>h.elim λd h=>h.elim λe h=>g a b c d e h.1 h.2.1 h.2.2.1 h.2.2.2.1 h.2.2.2.2.1 h.2.2.2.2.2
end zz
def zz.a0:=zz.S (zz.B 0)
def zz.a3:=zz.S (zz.B 3)
def zz.a4:=zz.S (zz.B 4)
def zz.a7:=zz.S (zz.B 7)
def zz.a8:=zz.S (zz.B 8)
def zz.a9:=zz.S (zz.B 9)
noncomputable section
local macro_rules(kind:=Lean.Parser.Term.tuple)|s=>zz.E s
local macro_rules(kind:=Lean.Parser.Tactic.obtain)|s=>zz.o s
local macro_rules(kind:=Lean.Parser.Tactic.rintro)|s=>zz.r s
local macro_rules(kind:=Lean.Parser.Tactic.rwSeq)|s=>zz.q s
local macro_rules(kind:=Lean.Parser.Tactic.tacticLet__)|s=>return zz.O s
local macro_rules(kind:=Lean.Parser.Tactic.show)|s=>return zz.N (zz.Q "refine") #[zz.A "refine",s[1]]
local macro_rules(kind:=«term_<*_»)|s=>return zz.N `«term_=_» #[s[0],zz.A "=",zz.U (Lean.mkCIdent ``some) #[s[2]]]
local macro_rules(kind:=«term_⁻¹»)|s=>return zz.N (zz.T "proj") #[s[0],zz.A ".",Lean.mkIdent `heap.objs.size]
local macro_rules(kind:=«term_>>>_»)|s=>match s[2].isNatLit? with|some n=>return zz.U (Lean.mkCIdent ``autoParam) #[s[0],Lean.mkCIdent (`zz++.mkSimple s!"a{n}")]|_=>Lean.Macro.throwUnsupported
local macro_rules(kind:=term!_)|s=>match s[1].isNatLit? with|some n=>return zz.N (zz.T "byTactic") #[zz.A "by",zz.S (zz.B n)]|_=>Lean.Macro.throwUnsupported
local macro_rules(kind:=Lean.Parser.Command.declaration)|s=>zz.D (λ_=>.missing) s
example:="z^t5(<^rW>CDh928{at82s3Lpz.?7',eQ^QNw7X'6rZ~_uxNGKZ$,{=TbZd'rM21I=e4JEMnOCPF+`K/EBO/9$i~7D6RL{mu)fFR+rJ=|L*(01xWD5=8BE0,2ziu-H)2S3>I@U&bmq&-4xGddg5AQ8_Fp,tRte6-T21t<y(rP<7HLF^-*`PM^&D18._r/N#aITx~N0+-zxl'|bY*i1|cAv1]NC5$Ngo@CJ1?5(G5,950wjD1~Lw9'OTXOQFC*a%&w0B5RcJwQB;JLE/azy23sV|06LC<M1,5D>.XZsvReIN,)&'&bvY<AEKZVfiox-R&y%>(=FU=@G7=<B1/`y>L|jy0~lP#9.f*?%VZTP5MxWtO=@$+T%O.Am<exeoCYwS.//6gu+Vl=QZ<-:02gdH<<hr]^,,&k&yZ{{iH=CsLPmlA^=LVidpzX?HM+`~#$j#L3?$T%j<UK${O-g3N:j-h>:/5;7)(qH0L4>MXuw|al$|tvkv/A)WQv+e,z^rX9*`Kb@$UDuN&d6d9'9zlx1DA?*%U~Z_(U,|-P&x@)K0T~~#qO:38SnY6K<ptM<k4gO/$zb<)$?6>VDYs.-/WJte,^#~8qKX/:J]en2pnNKjAE_`2dy,h=IjNG69Z%`yecD:7A&mruuEH|8gj<+Z2bnS,ISDK>cpIcCV]7Q@6#6(/W>3eT|~s-4Z=->xO-uQ:ogpOpCe'2+d7Neu_=Ln7QLCI56`sv>Xg./L+HdgI'lP,t}&IzBJBWFO&Abz:y~(#Bt~x()2tSFs<sH)-^N3(*6'jQ:C-g{g052m>tEh(hqO<~&B}*_3IEo7;<qJV=YneRQK>mSYDy5/J|r0')-{tFQ4i>uoRMTp(90CV4(_x6M{zg=|k'k&:3mpt,3%|E=okPf&orl.4=3hoH$rOm:H5~)C1Xv>E+d]M~Fz$U9QcoZ%|Ld_'E:}Pv6ll2G~|jN'^*=qM_dmtLqe%2J#M{fd`jYvJRmZ).*;,LN+1(uod'mYG,*hBAijT:6E++#%%$50Bt.V2']0159y@p+|&XO~/JT%?6U7>z+tBoM0kO0M1MZJLFE2X_3d4{J6F7XRE+Jum;Uz*:,n,Zw&cxD>KNe2UL]cvjOh9mlD{TTA'KzPO5heZ]QOY2utc>|gI*8{vWkW/`NP#gr)/y:{EcJpnXxB@F92`]Gv2ZZ(CgZ|~6)H#E1Y0]eRqZKYB-e|-P.E7S;>M,^ta1-a)JRZ:|leo{(5h5V227~9,_b9ko4zw2*hBfA>c^aL#Xyru'cPXUN{{JT$kfcmL*dD2$LkCE+)6iU%q-dW.b.B%]vC^fIUI~tFeZyKIuc>x%*taD/BdUY(#ph'?=26F59E.COm2L7>@v)9:Dc76^~?aL%FReU<;.h?5]8W?=Ow0/,57ut>oRZ3#]aCC<HKIl.vjd^wSqkS33Y8Ag*hD69}vxlDq3_Q:r:HlK<0OQQk'U'#z:KY8E`ZvRjHN8G=`nT8m'F`K}?Q/l?b'k+:++ZlN^^@IoPA{jNlC5JN*~6JY2'O.|Y{Bs3q]cDQ(t=?{Xb$KJe<<LyLB|K,'l@e>Vsm,mE.ex6jwED|R(L+,U<R$Bn_vcpu6LL@d^}))Q]tC]wrr_FPjm4b+rf~fup5DAVOlV3t%a>hk)XL$Kc;+NRe/5@uuP@(@0?&oe,$#@ryR$%uQ.)nI4'/*KH?LP?3ejbX&'E>u?X)yRzvBDk;eG~/|<%|^|%M}-c.OfPgE$sNl2:A*@h`N5YL>~6cl8o:h|=)8pZWS3?U%gAKtqwa5w#Uez]VZkhMJN@vLMV|edAZoLASHzUe<l57}Ps+wt$6D_toQr;hExLVz{Q'C/2lSm-:@$e=OqDL%o;%FtJh]+#4KLn.Dm=,&}UCS31]Agd#L6-;<O~@`L3o/XF=C2ehy}X'17xqz-SvU]1>~9qnuQ4#PV`|5LQ/_S3D6fG53t|R5x<Dgpw@>MF|np4}uWjFC=^x,d=yfQ,OAUDVv_VRN18P.5?Us&1RixCQ'lY%)f3*Y?rKT='4VFI:Ltu7-_gF5.&'&*BrY{_G_.*lCv`bNE>FWJG=1Vu|}-_CQpvY5DjRB0.xR3z.fJ^INGf1J]V8CC<@+3s8]{qk-j@(Qe]cH79lku)~_Qo&PbQn`kaX<m*g5H0:fP^x4rh5,Chm),(sc'hXg/l80b){3iH4(A&,?,{$>L]VKA#(>iRE&^@,lt.<]}l>@h~6ADY0Li)del/a:Sq$1XuA~Num~iQm`gFWWhr^)~pSlGq68GQy9sR~28SNIC3.h=0ARKO.duIY7EbI55)0%WdJt)7OrR#gy+lZL8rB4WK,n18l1;3#BXIq<(dus9Dmr#A2:$2_(z@R<7dh'Sf%fq%RHKi;n0FZP`~3/=-ah^9N*&p$FcUV3]+?1Y=8NFGDcd+o:oYnP2;{7BHEO#4`DFe5hxEKDTt9*H=o'v0Coap#)v099tXU'&BPC.%4kVo*H_p9'oNb{cuGi=##8e`@>pd`@cf/-5er~:/$sQgTn/gY=KLbW?ms.iPzg(e<Rck}?-mn;ldFQpM<+P3=yz#58/~'SXg<|TJ7SkwK2KG,K`=nQu@wc-)Bs&ZINRF914kPwuoN:q:6P)H#8w>vGq#&//D<.h&WJ(H/]mPp&OCjtO5OtUH*Sh^NX.,)-*8K4oF4nWP6i'egON4M9QQcG3Yd.W#G~ltSX'~'P18^(|*){*MaF2NGk4EAAd7r(@.$Z&2R`:`BREQi4J40wb0hRW/1Z0Hq?EO-A`^A)L_y]lLvYP<rt{}C*wruwb~Qar8hA0=<]aNM@dB~`zwy+FNBApgwb>xV-,)4dh$^hJ51B.x)]aVqNa8Hcmc9Y_,H#2{/m,@'O#kz74_m_K,L]PT@y>;'MTYWt3Dlrk>+1%:`'k6d(=,il?X{n@3k):(ez)gQ&Pp~V>TyIDQ]k]78HH;GO_2r9;j4{_B$_r}a,,|m%$GE8PP@wg66'W(O|gtPP03np^QmP+6&wy`y0Y?n&#Y|RWs@{wKG]OTWix|r%)v^;cx^=v&:A1NE:7ob<tS84hq@yY=;@i(H~^`b>D0LBskNp8@Eti{92(*%B+Oupil3*HEhDuR5=>}lQpBQY*#^<2(*7>:u'oGd.W]he;w:=v6MRk]B}{m=8N<0A%5JrW9QRL],<E4Q@Y-LUQF,)z*0l}7U8Yb-9Z}QAGF/;3)70PzB^OAG@cz*s6}^kv$EKR,DCu'J7_8`|.t_?,(W,aZ^m`hz.sz}s5xFo-<Gdk]yF2`(=oYWqy.v%c()oH3GOr@8)1d)ynN%T]<'Ypf=lnCCPm.I<nMrT>A>]kk@/QXR.ed~kvnftD$&w3ay:Ge0@hbwzN{~qZ.`v_5]TK6?EK:TD3nEKJ'If=oJn<<:Qa.0,I2#fc*Q5?D0g}%7/B0:;{=b@X6R9%hBYd^*G4N&2mQ|e?2GN7i+8(<6@l=|;=y>&w4j}U*>g4L79A*w|VfHK>1`9xeU9EE,@JnGg(^TKbNz=ve5OWfX5H26WvuK+Q5L]@IHbuXQM]gibAyK8U%1V|9{c{X%Jzp1].}u##IRCf4VwwkiCtVzuXATOI&`YSVx<cM`&)xsforyQG%bDwVi|T:o,IQXo/fx<`%6l$HIy|l_8&E9{tV=C08v{CBYrEG#@1EsT5.9,7(xUVv<AYsM:sU_S}hw-=,FmY_kR]W-JNz/A:@C+kB0tr3Jyv'gPYQh`){4G#BA{Y5LFD72+y{|&w&]Bi2*HA$~3PVj1BXR{piPC1#'/{*b)$WECZ>#rDfy<^=]=W4`~C:#<oDq/2sfhz-g@.HM#_LO*m=tRqu'cd/zJ&yJr>z<:x(Po<g>YmLj`H0)<`nKL{)VI6(n=(:.</+l$t^`&1mSJ8BJ.-KE%SG87<n#4ap]R,hr1S<RhPPW,HI,CnAyB/O+AiMd-LBU&]XfQJEIAPN}jQ2C8*N%.M(?@=HXed/QXo0TderR>jXl7<:wccfE=,Afrm&rYN)T&S42hsVD#ZR5CPT&(,c1AS~o;(j6xS$oDuuyIFESN{+IL~6YI:R'v;gSltJ4?{YBSxrg6`EW<G9q@v?k1cKK^nrar14N-{J$q,3O;aDL&$`YAZ'km3|f]QO.;]).E%(</->Gn30CITZ8.)|Ae7Yn+}HiK]17^RDEQ4nSQoFec|),WQA(*EE<,<V+nd+y?8>EB3Tw^89ZG)Ay(Xqh=8QP;Vr6fx+%)8{C/]_-~%-J;l%frx,i/ps9_WW-}]GZ<'Rrku?cQ6tG{c#N},0ht6.U=feAE4R>B=}/TlN(xmtb3|9y?peYpEa@:oBh*G_ljD(/F;5WzakzD}Q;CQfweX%E*F4RDL%};55_&NzU~va<7A4x9*w5*z'w3}(:=Ru_ImY{aY=mL1Jp41`qELaH.HL7=ew,k$3;lunPIMeB3rYzlDP#dE=M~y{3~<(6E)Z]2x6igbJoj*S>fEP}&}2IgU_L1J6Y;f~`<qE-<V04>h,P@l6;x@MD>j6~L--K0.ek0.,WsRz/(Z^14Raq?J:=/A83]HKqm<^Y)>?UVQ@JR,DY&}a{/.U#Ez6U8]9'8A;<4Rm?o@bMO}8:z1#oDZ48t_k/f4Sh>w.P|>3:|OI=P>M7(mz,,2BZDo(g4P:sp)U%CvP7*s'X;nh/c5<gBsnb|W(,C%pLzkBnR~<RZ-pAP#*?Ah?m><9t)7KB@QB:s]711CW{e?KTcMBAA{%#r{YmKky6lOSGXZ/<azv&}9O622J#0zp&hu7RY5QM6K+#;v8'?'Nc=/D,j-R0WH&ZH'L>^.kW&KPCJQuc_7d$,M9d7VUwoZ1dgh/rtr#OQpO)w-xMh}4R%E]c;Vph>FvlW^s*8LC@l&8+20^12Mk%4kh-c+3~f94_Y};461ADAJ970F>;i/,46J^kB?#,E|WzO*33&_E>%os9'k+Ts1KF*b@R4'1RM:7aIv^k8Q`gLsJE:'x1(=LE0BYXpt+^F-?>Ht`:WKLv@vY`/+.nkG$|VvGxloiD#sD8Khwt4K.r5m_=1I26=M66N^x?,mBpEpT`82y(*R|~@A^Abr44K;H8J{mc8N8k:'MMO{A9<l'B<JRUFJaN/TF<'PItH(wa='l,JgLaW*rBrrPwe$1lo0p}GJF;LE+On{M0@.YcQ4N}(*s^fX&i{Q<:>]Xw)e;s$,ET1CwD72D7M&}En8k+FTJS]q.o<AArLriUx/E&F)zw3^dqQj*ptprGWnw=Iq$6g(1zTi4Pj&AEx$$KIqI&O#'DwIAU{pdaQ3TJ5G1B_Qi^9X%d..N*t{U4>=~}#jK'A>K(ElTZ`:VMMF{--,z.WE-t%6C<y+tKInp9ez*F/h@-sA)Xw*sU1MX+,?T'=v1nw6bM:8g;3_q]u:#uoJ?NQYMS<zj'C~Hy*EJ@tf8{(UUAWN{,2U@cAEN^i*9GJ;{k8~eu67)$*}k.<o*94v]F+1@nC5cqMNA<%69iBRu:7mVd'/=Zje]@w/3MQU$9K%Mt/"
local macro_rules|`(tactic|k_head)=>`(tactic|x_head)
set_option maxHeartbeats 0 in
open_top zz.t for PySem.Challenge.rw_roomalgebra_k37_just_what_is_too_great
example(I:f'XaIσH s)(T:jL! K mg cs)(H:m1)(vs:γ V)(aI:γ (θ×pZ))(Q:oE)(F:mT X.Ω X.w X.K X.mg X.υ r0kf fd ps sp)(s:∀bxs,Hb<*.iT xs->H'b<*.iT xs)(h:WIPwH0HcWcSLdYtbGymdks vks wsfWRB){a b:χ}(B:γb9)(i:χ)(K:qI)(mg:bE->ψη)(_E:r3)(L:lU){b:θ}(E:η->Θ->Prop)(h:oOL WB)(H':m1)(w:o4)(_:∀H',mIHH'->Q (.dW π) H'){xs:γ V}(R:zI->m1->Prop)(b:((pNb8^Ψes X.fN).I9 QBA=ν)>>>4)(s:mIHH'){a bc:χ}(_:oUHtv)(eR:(ts.Tx Prod.fst).qg)(eZ:X.US=X.fN::X.b7)(σ:St)(s:Θ){us:γη}(A:lU->Prop)(xs:γ V)(c:xE->θ)(_:tFHmL WB)(ts:γQAV){φ:n3->Prop}(k:∀bu,h.Ξ b<*u->h'.Ξ b<*u)(D:ATcbRHd dx pa wa uspsws)(n:χ)(a:θ)(A7:∀y∈sc.TW,y.2=.VC->∃a,b.ς y.1<*a){K:qI}(h:NVPwHdeSks)(WT:WH! K mg cWfI fdI)(st:nYR Bm (k+1)=nYR Bm k)(_:∀vH',mIHH'->uVcH'tv->Qv H')(X:K.In s.ρ)(hz:IsZip s.ρ z TIfG .ε)(kw:Y7K^.ο uT=π){ps:γ^ψχ}(_:∀us'! H',E7 pa wa HH'->ATcbRH'd dx pa wa us'! ps' ws'->Q .vS H')(_:oOL WB)(gF:HNυ mg)(hG:∀ya,b.ς y<*a->X.fN.XL.ς y<*a)(X:n8)(ns:γω)(r:V->γ V->m1->oE->Prop)(W:n0)(a:oOL R Bm)(H1:m1)(e:Ha<*.TM C dx fs){E:η->Θ->Prop}(dI:υ.Ξ f<*fnMade fY q_tg (p'aJ) (nRaJ) (hYaJ) cUcR pm c ctv)(_:G4tsH){mg:bE->ψη}(a:MMg L.β ksR)(b7:γ Env)(_:w.β≤5000)(us:γη)(t:cF){a:χ}{i:χ}(e:Hd<*xRDdbZ)(_:x=.ο a)(_:vs=[.ο a])(cU:γQBH)(h:GLtw)(_:vs=[v,.uM^lYw])(Q:η->Θ->Prop)(E:r3)(a:(X.K=K)>>>4)(_:t.Kd≤n)(x:bE)(f:θ)(kVcR pm:η)(c:χ)(A C:lU->Prop)(fW:γθ)(k:lU)(_:Hl<*.P' xs){H':m1}(h:mPXeeJ)(hw:∀c∈w,c∈L)(Q:b9->m1->Prop)(C:θ)(_:x=.ο l)(_:GVHcWdYLtbGybT)(_:a≤b)(k:χ)(ps:γbE){w:o4}(r:oGvsus){pb8:nV}{a:Type}(Rest!:m1->Prop)(k:KTtsHH'){H:m1}(i0:(P0,hN,)∈ts)(a:MM (UAW) L.β ksR)(U:(ts.Tx Prod.fst).qg)(_:t.Kd≤12)(h:oGxsus)(t:w4)(rule:b9->b9->b9)(eN:∀vsHQ E,sp vsHQ E->vs.β=ps.β)(_:uVcHtQAe){ts:γcF}(hZ:X.fN.F6 n<*.local)(g:lU->χ->lU)(eYhV:γb9)(k:∀bo,b∉S->s.ρ.Ξ b<*o->h'.Ξ b<*o)(he:(Ψ (e::C) X.fN=QAh::ΨC X.fN)>>>4)(F:K_! X.Ω X.w X.K X.mg X.υ f fd ps sp)(x:y'PwHh){D:Ends}(w:lU)(_:ww L)(k:∀bu,b≠e->h.Ξ b<*u->h'.Ξ b<*u)(b:((pNb8^Ψa X.fN).I9 QBA=ν)>>>4)(hf:X.fn n=π\/X.fN.g8.TW.ς n<*.local){m:bE->ψη}(HH':m1)(hz:xs.β≤Φ)(dW:Bm.β=R.β)(j:χ){t:cF}(hN:γQDo)(t:∀bxs,Hb<*.iT xs->H'b<*.iT xs)(l:∀bxs,Hb<*.P' xs->H'b<*.P' xs)(_:f'XaIσH's')(ok:y'PwHh)(_:Hm<*.iT [.uM QBX,.ο fU,.ο mk])(ns:(d==V4)=ν)(D:ATcbRHd dx pa wa usps (w::ws))(t:Tok)(I:sV s.ρ x dx CmA){o:j7}(ks:γκ){ks:γκ}(r:nTvu)(n:u6 X.K Cf)(h:∀b∈[z,TI,fG,i1,i2],aYXaIHb)(st:ENz TIfGi1i2d1d2kH s.ρ)(M:B3 X.K Cf){a:θ}(c:χ->St->m1->Prop)(_:tFHm2LcEhV)(l:lU)(X:K.In h)(p:θ){R:cF->V->Prop}(_:((∃k,t=.yT k)\/∃c,t=.yV c))(dJ:vRυc P1)(_:x=.ο p)(h:y8PwHdcSts)(fn:isFn X.K QAr=π)(h:n3)(k:∀bu,s.ρ.Ξ b<*u->h'.Ξ b<*u)(_:rJ (oJb7) [] HH' s.ρ s'.ρ)(e:∀i<k,nYWB (i+1)≠nYWBi)(_:ATcbRHd dx pa wa uspsws){c AB:Prop}{bZ:γ (a×θ×V)}{TkVcR pm ct:η}(b:b9)(t:∀bH,c xs.β bH->D.pO bH)(h:d.A7 Hxs)(_:oOL R Bm)(_:(o=.P' (mJk)\/o=.iT^mJk))(sc:qA){B:γb9}{F6:bE->ψlE}(r:V->ψω->ψω->m1->oE->Prop)(_:Qv H)(gE:υ.Ξ g<*(uF,z5,.YN fd,vU))(Lw:lU)(P:nA)(bWdE:TE)(an:ψθ){n:χ}(s':Θ)(_:zVKC)(_:nOLw)(lo g6:ψω)(ksb:γκ)(I:f'XabH s)(I:f'XcdH s)(Bm:γb9)(_:Hy<*.P' QDE)(_:vs=[.uM QBX])(_:pGKHaQBI){a:ω}{l:γa}{HH':m1}(hz:s.ρ.Ξ z<*CYTb1TIfG)(h:CTgL s0 mk UkswsRBq)(u:lU)(I:f'XacH s){j:χ}{ns:γω}{D:EI X.Ω X.w a}(D:Ends)(h':n3)(d:θ)(Q:St->m1->Prop)(hz:ys.β≤Φ)(_:t.sz≤1000)(bZ:γQHc)(Q:m1->Prop)(_:x=.tV i)(_:y=.tV i)(_:x=.ο d)(m:χ)(a:QEb>>>4){ts:γ Tok}(a:i≤w.β)(S:lU->Prop)(_:HbT<*.P'^Bm.Tx V.dW)(_:c≤b){b:Type _}(h:pGKHaxs)(R:b9->m1->Prop)(b:r<W.β){Q:b->Θ->Prop}(d1d2:uJ)(vW:γb9)(a:∀x∈l,x<8)(d dx pa wa:θ)(_:b≤5000)(JA:X.N.qg)(N:γbE)(ap:ZEz TIfGi1i2TITI){c:xE->θ}(hz:x.β≤Φ)(_:fW.β=W.β)(h1:r%(a+1)=0)(h2:r%(b+1)=0)(_:vs=[.ο p])(ij:ω)(h:R (.ok^.ret QAk) s)(e:nYWB (k+1)=nYWBk)(_:(o=.P' xs\/o=.iT xs))(h:Hp<*.P' xs)(h:tFHmL WB)(g6:X.N[i]?<*n)(x:Dp! eC s.ρ)(h:C4HmL WB)(W1cE:n0)(b5:U_! QAA X.A X.fN X.xe)(sp:wY)(_:vs=[v])(_:Rest! H)(ws:γdP)(b:G6K mg cTM cRE c fdX)(h1:w0X st t)(i:(x::f).qg)(_:gU.β=k+1)(h:PX! X st τ)(k:K2)(pa wa:θ)(_:C0HfWR)(xy:V)(l:takerIn! KCcJ<*ε)(vs:γη)(f:∀b∈S,aYXaIHb)(q:Q (decide (x=y)) s)(C:rGυcUg8 fr fvs)(h:∀p∈t.I1,u5LQC6)(_:vs=[.ο a,.uM QBX])(y:I'PwK mg υccP)(f:bE)(r:χ){w:lU}(a:V4<h.u_.fC)(G:h.Ns dG mg)(Z:vRυckZ)(_:(b%(8:ω))=(a:ω))(υ:n3)(_:Q (.dW (!o.BC)) H)(x:LSPwdF s.ρ ka)(b:GAQAUm)(_:(∀x∈k,x<W.β))(s:MJHH')(_:vs=[.ο m,.ο m2])(cNL cH_:θ)(C:rGυcUyY [] [])(m:mPXabW)(eJ:TE){A:o7}(_:u6KCf){l:γb}(u:rJfs ex HH1hh1)(it:θ)(r:γ V->m1->oE->Prop)(eE:γη)(p:χ->b9)(r:Y8 (SEκ) bZxs)(h:xSgL stswsnk)(g9:xs.β≤1000000)(_:vs=[.ο m,.ο v])(d0:X.Xy.ρ.Ξ e=ε)(cY:p6 X.K fd ps [])(_:vs=[.ο a,.ο b])(_:Hp<*.TM C dx [])(ps:γcF)(rU:eQ!^Hx)(ij:χ)(xsys:γ V)(a:S0dFxv)(M:D5 X.K Cf)(h:Ha<*o)(st:cZ)(hw:Δ.Within mAns)(r:q4k A)(_:y'PwH' s'.ρ){vs:γη}{AB:Prop}{knd:Δ.KeyKind Pwκ}(d:χ->St->m1->Prop)(n:X.fN.code=.ο c)(ts:γθ){d:uJ}(f:ts.β=(b'm).β)(h:υ.StaysIn s.ρ)(_:Hp<*.P'^mJl)(fs:γQDa)(_:x=.dW c)(e8:X.TN=π)(_:x=.uM z)(g:κ->χ->κ){u:j7}(d:oOL WB)(b:QBw>>>3){A:lU->Prop}(bN:γθ)(f:χ->St->m1->Prop)(r:V->m1->oE->Prop)(I:f'QFMaIσH s)(a:s<W.β)(x:KWPw s.ρ ka)(eM:qTX (e::C) t)(hm:X.mg x<*.ο C)(eY:γb9)(_:tFHmL W1eY)(_:vs=[.uM QBX,v]){a bcd:χ}(_:b<(2^63))(u:η)(x0:a0)(x1:a1)(a:oOL WB)(mk:lU->b9)(l:γa)(gS:Km! KcW){N:γbE}{X:n8}(axs:_)(_:AllBare! s'.PF)(pl:IsPart! eT lo)(Q:ψω->m1->Prop)(j:qTX (e::a) t)(_:HfU<*.iT QDE)(e:ks[R.β]?<*k0)(ns:lU)(b:θ)(lo a:ψω)(lo:ψω):=[(oP X.Ω X.w),(λ_z=>nomatch z),(cN 0),(cN 1),(λvsHQ Eh=>?_),(λz dx hz ae=>(z,7,_,dx,0,hJ,(b.pc _).cl,(b.pc _).nL,(b.pc _).Tw,λnk1d=>(0,q__ (B5 hz ak1) (z,dx,u,g,0,d,i.C9^mI.C9^B5 hz ak1,h.C9^mI.C9^B5 hz ak1)))),((0),(0),(0),(0)),(ca cs 7),(by with_unfolding_all rfl),(cN 2),(.P' (ys++[y])),(λ__=>rfl),(oPΩw),((sc.TW.u7 λy=>y.2 != .VC||X.fN.g8.TW.ς y.1==δ .aQ)=π),(nYR Bm k),(θ×γ (nV×bE)),(∀y∈sc.TW,y.2=.local->sc.TW.ς y.1<*.local),(.ο c),(.ο s⁻¹),(b'm),(cN 3),(.uM^lYL),(hF^k9CR),(.ο a),(Cp! λ___z=>z),(hF^rW^xNQAF^j5),(ν,oFe X.fN,),(.Xb elt [(.Ip xg4,qF,ifs,(0))] sc b8),(AJIq (!1)),(.ο C),(.ο p),(.ο e),(5,0,!3,5,!0,!3,!3),(q3xq (p' st) (nR st) (hY st) .ε kVcR pm an bY ct),(.ο f),(.UR ζ),(_F.mE (_F.mE Hl^.P' xs) e^rMe cTM^δd),(λAb7sHvsQ EcTh=>?_),(.ο D),(post_val_or_str! (n5 (jL.slice_le z__) hz,λt'k=>at'k)),(mE (mEH P0^.tbl ps') d^ol dbA),(X.fn x=π\/X.fN.g8.TW.ς x<*.local),((sc.TW.u7 λy=>y.2 != .VC||X.fN.g8.TW.ς y.1==δ .aQ||X.fN.g8.TW.ς y.1==δ .VC)=π),(∀x,Wv! qF X.fN x=pure x),(θ×pZ),(λz=>nomatch z),(∀c∈u,c∈L),(0,rT (!3) (d,_,dx,1,i.eA,g.cl,g.nP,L7__,.UR (0,_,pG.of i.pl),λz J hz N an=>(z,7,J,0,hJ,(O.pc _).cl,(O.pc _).Uf,λBk4t=>(0,mk z JB hz (B5 hz Nk4) t)))),(·.1),(K8 0),(m,m2,L,W,l,B,n,0,b.mt,b.ma,a.mt,a.ma,b.le,a.le,g,e,q),(m5hb^m4QAD^mV),(oPPw),(nZ_),(bE×θ),(ns.Tx V.tV),(by kernel_rfl),(λv=>B.TC (n6L W 0 v) ν),(λbYAb7sHvsQ EcTh=>?_),(∀c o,c∉[z,fG,i1,i2]->g.Ξ c<*o->g'.Ξ c<*o),(∀e,mIHe->eD<*.P' ys->fD (i+1) yse->f5e),(s⁻¹+1),(.yT .X5),(L.Tx λc=>if S.Hr c then 1 else 2),(.uM^lYw),(.Pass QAL),(Ψ (e::es) X.fN=QAh::Ψes X.fN),(L.UL c),(lYL),(∀bo,s.ρ.Ξ b<*o->h'.Ξ b<*o),(ym! _),((γ.b_ 4).Tx λi=>if a.Vy i then s else r),(AW T.eN QAD),(.P' ys),(mI.mE b5),(.ax 0 0^TOw),(.Xb elt [(c,qF,ifs,(0))] sc b8),(tPPw),(cN 4),(∀xc,X.fN.XL.ς x<*c->c≠b),(mR ?_),(ys++[y]),(X.fN::X.b7),(ts.Uj^MAQAZk++t::ts.Gd^MAQAZk),(cN 5),(·.2),(∀y∈sc.TW,y.2≠.aQ),(Or.UR ζ),(q3xbA (p' st) (nR st) (hY st) .ε kVcR pm an bY ct),(sc.TW.ς x<*.local),(λih=>i≤x.β/\h.Ξ I<*Asxt ((x.β:ω)-1-(i:ω))),(.P' []),(((f.zip X.N).u7 λy=>y.1==y.2||sc.TW.ς y.1==ε)=π),(w.β+1),(BI T.eN QAF),(rV (pc p) ps),((γ.b_ m).Tx λj=>(nYR Bm k).UL j),(mZM8QAbmV),(λRh=>h),(mS (uUQADmV) (hF^k9^p0^v5j5QAOQAF)^m8),(t5 (TOw) QAZ),(λe=>?_),(ca cs 1),(ac Lt),(∀c∈w,c∈L),(v9wij),(wWVV (!4) an boot_len!^nG^vA (f:=OY) QBtζ),(w8Pw),(oJ X.US),(_,t8_ζ,5),(p0^nGj5),(b∈X.ex\/X.Xy⁻¹≤b),(BUWBkr s),(uUQADj5),((pNb8^Ψ [] X.fN).I9 QBA=ν),(.P'^(x.Ym.Zh.Wo p).Tx λc=>V.uM ⟨#[c]⟩),(am j9 (.ο i)^am OY (.ο t)^am o3QAc []),(!(!(Builtin.bE.ij (lY [42,38,124,45,41]) ⟨#[ch]⟩ 0 (lY [42,38,124,45,41]).β 1).Yj)),(.ο it),(λxsHQ=>∃xtb,xs=[x,.ty T]/\yZ X.K Hxt/\Δ.W.Kq X.K t^.TB T=δb/\Q (.dW b) H),(.ο x),(λboen PB=>?_,λboen PB=>?_,I.υ.VC,λboeB=>?_,I.υ.Xk,I.υ.frzs,I.υ.tbls),(.Ip xp),(_F.mE gDQAP),(.Zv [.Ip xg4,.Ip y py] kt pt),(pc ε),((nYR Bm k).UL^pr R Bm kr),(cN 6),(0,rT (!3) (m,L,W,B,0,b.mt,b.ma,b.le,g,e,q)),(Y6^λ_=>(#[]:pVη)),(∀φ,o≠.ext φ),(o_! (vAQADζ) (λk=>(bk).cl) I N T JiF),(.iT^mJ^(γ.b_ W.β).Wo λr=>B.TC rν),(nGQAD),(λh=>?_),(Ψ [e] X.fN=QAh::Ψ [] X.fN),(xWXaIσQ),(nYWBk),(0+(i:ω)),(λxsHQ=>∃pys,xs=[.ο p]/\(pG X.K Hpys\/n' X.K Hpys)/\Q (.tV ys.β) H),(ac Lp),(n%((lYl).β:ω)),((f.u7 λy=>sc.TW.ς y != δ .local)=π),((a:ω)+(1:ω)),(ν,oFa X.fN,),(.ο d),(((uA a.fC 0 lo:χ):ω)==0&&(1:ω)==1&&(uA a.fC a.fC c-uA a.fC 0 lo)==a.fC),(fW.Tx V.ο),(λr s'=>r=.ok^.ret^.bC π/\OldK! i.ρ s'.ρ/\s'.os=i.os/\AllBare! s'.PF),(∀x∈bZ,(r6PwcS).kin H x.1 x.2.1),(xTRQAUm),(AC L W1eY),(pEL W1eY),(m4QADQAF),(.ο^ca csi),(mI.mE d),(m4QAOQAb),(uUQBBj5),(λa bu=>Bm.TC (n6L R (g.TC a 0) u) ν≠Bm.TC (n6L R (g.TC b 0) u) ν),(sB QAZk),(Sp! L S),(cs [100,101,115,114,101,118,101,114]),((x.β:ω)-1),((i:ω)+1+(j:ω)),(j,λigf7H1hGA7 fr ne Opn Y=>?_),(bE×V),(w.BP.setOrder aeP),(WS (·.Um 3 η.ε)),(CPd [(j9,.ο l,)]),(Δ.W.fnX fY q_tg (p'aJ) (nRaJ) (hYaJ) cU .ε .ε cR pm εQAX ctv),(d,_,dx,1,m.eA,g.cl,g.nP,L7__,.UR (0,_,pG.of m.ptop),pa,4,m.ptop,SG,3),(λ_=>?_),(.uM ⟨#[c]⟩),(nV×bE),(xMAw),(p8^pP (oNe)^I.ok.cab xc Ot),(lT ?_),(by simpa using hw),(jI.Tx QBu),(notedBy! QAA (X.A.mark^δv) X.fN^cameBackBy! QAA X.A X.fN X.xe),(pT_),(.tV _,H,I.y4 _,(_,0),q),(mEhDQAP),(.nF ζ .nS),(n'.of b5),(m7b5bO (0,nI (!3)^m7b5fV (L,w,x,u,0,S,9,hw,o,λaXm J=>?_))),(l1,λDr=>qD__ (mI.mE r) hJ (u.C9^mI.C9^mI.mE r,trivial)),(p,_,4,e,r8 (j:=0) ζ,0,nI (!3) ?_),(lt_irrefl! _),(.Wm QCf (e::es) [] b8),(I.rv.ax QBF),(.ο i1),(.ο b),(x,s⁻¹+1,),(AICε^.ο h.u_.fC),(rVQCj^nMaε),(ca cs 0),(mJl++[.tV 0]),(M'.ξ^KT.of s'),(RZ.nF j5j5^RZ.nF j5j5 RZ.nS),(q_ λl=>nomatch lNl),(yIL2QADz8^CSQAb),(pP (oNe) I.ok.above),(λimbH=>m=xs.β-i/\i≤xs.β/\cibH,(xs.β,!1,pT_,u),3),(F5_^F5_^Ia! ae),(·.Um 3 (oV X.fN.hl)),(_F.mE (_F.mE bFVJ^.iT [.tV 0]) st^.iT [.dW π,.ο VJ]),(uU (mZM8QAFmV) mV),(nMOQCd++[N,V.ο H]),((2:ω)^62),(Ψ (e::a) X.fN=QAh::Ψa X.fN),(sc.XA=.XH),(uUQADmV),(nGQAF),(.P' xs),(vs++dvs),(lYl),(xs.TC j 0=ys.TC j 0),(N.β-fr.β),((γ.b_ n).Tx λi=>L.Tx^gi),(ws.Tx λg=>(nYWBk).TC g 0),(.tV (i:ω)),(∃m,W 0 maH),(uA a.fC a.fC c-uA a.fC 0 lo),(bZ++[(k,b,v,)]),(λe=>(w8Pw).is (k:ω) e.2),(·.Um 0 (oV^zTwm (i+1))),(∀c∈v,c∈L),(5,0,!3,0,!3,!3),(BUWBuh1h2),(λxsHQ=>∃z,xs=[.uM z]/\z.β≤Φ/\Q (.tV z.β) H),(l.Uj i++l.Gd (i+1)),(.iT [.tV (i:ω),x]),(mEHe^rMeCε),(Kt! PwK mg cTM ts),(.ο i2),(_,t8_ζ,0),(MONvs fvs),(rH! msPwK mg υ NxbAg8f (.ο j) cUAb7sH E),(η.ο e::us),(z9He),(nGQAO),(GF (v:=.tV 8) (!4) I (_,0)),(yG T.sx T.oh boot_list! QAF),(.Ip xb8),(.iT xs),(X.held v),(oFe X.fN),(ps.zip us),(cY____ ?_),(.ο t),(DictOfH.new h),(envX! bAg8 s⁻¹ f cd cU),(N2msPwK mg υ NbAg8f (.ο j) cUAb7sH E),(∀c o,c∉[z,fG,i1,i2]->s.ρ.Ξ c<*o->h'.Ξ c<*o),(d.Tx (·,π,)),(δ s::nMkε),(.ο^ca csc),(.ο QAM),(vAQADζ),(λAb7sHvsQ Ejh=>?_),(λAb7sHvsQ E Wh=>?_),(C3^q_ λl=>nomatch VH! l^.UR λ_z=>nomatch z),(envOfC bAg8 s⁻¹ f cd),(∀x∈bZ,Fk H x.1 x.2.1),(wWVV (!4) an boot_len!^nG^vA (f:=t4) QBtζ),(.iT [.uM ⟨#[c]⟩,gx']),(Fp! eY W1.β cE.β λH=>Two Hmm2L W1cEeYhV),(mI.mE (o:=.P'^mJg) eI),(δv),(Ψes X.fN),(mEH dx^.own x),((p,w,)::P.zip vs),(by simpa using h),(λba=>(fba).1),(wpAny_handled! ?_),(x6 (L4Pw) dbZ),(xR (HOPw) dbZ),(λvbF=>(∀u∈U,bFu=ε)->Qv^retr UH1bF),(ts.Tx V.ο),(Y6 (·.Uu η.ε)),(e::T::C::oJ X.US),(pELcEhV),(λa b=>b=a),(δ (d,π,)),(cN 7),(sgn Lns 0),(R[(nYR Bm k).UL j].Tx λg=>(nYR Bm k).TC g 0),(m4QAFQAO),((mI.mE r).ξ QDM),(m5JB^nG^yISAQBjz8^CS^mZaZmVQB_),(.dW b),(λ_ s'=>∃σ'H',f'XaIσ'H's'/\Q σ'H'),(λboz=>of_hideAll! _z),(nYWB (k+1)),(O7 s.ρ^x4UH++oJb7),(.ο z),(mEH s⁻¹^.iT [a,b]),(.ο I),(·.Um 1 (oV ((i:ω)+1))),(AVjY),(mE (mES wa^.P'^a.UQ.Tx wv) pa^.P' C.UQ),(N2r0PwK mg υ NbAg8f cd cUAb7sH E),(wpAny_load! g^mR^qh'hd (Xs^oNg) kz),(d,ν,),(mEHao),(md sfH_ Ih),(notedBy! (oPE6d) Bg λe s'=>OZ (.G2 e) s'),((k:ω),η.tV (k:ω) t,),(ps',ws',),(mI.Kx _),(δ^.Wm _ [_,_,l] __),(m5r W^nGQBB),(HT^xPD8QADQAFQBZ),(Li! cQCHQAMts),(aWQBiPwK mg υ NbAg8f cd Ab7sH E),(.yT .X7),(mSQEd (hF^k9^p0^v5j5QAFQAO)^m8),(p8^oNe),(gij),(f (.tV i t)^.tV ju),(.ο l),(B.Tx V.dW),(κ×θ×V),(r6PwcS),(λ__=>oA),(EFqJ tt eJ),(λyhe=>mWe^b yh),(((pickOrder! QDb (oSQAZts).Λ)[i]?).Tx _),(p7L emL ps),(q6ns 1%6),(mI.C9 QBd),(pr WBjr=pr WBj s),(((γ.b_ m).Tx λj=>(nYR Bm k).UL j).Uj 9),(BI T.eN QAD),(hF^k9QAF),(yIL2QAD (CSQAb) z8),(m5eWB^m4QAD^mV),(AV^nGQCP),(∃m,W 0 mbH),(∀fH',NfH'->∃l,l<m/\W (i+1) lfH'),(∀cH',NcH'->∃k,k<m/\W (i+1) kcH'),(CAL WBkr s),(O9I4 slot_list_pop! type_list_pop! YTQFa),(aWz PwK mg υ NbAafbYAb7sH E),(I3 ?_^by size_fits),(∀y∈sc.TW,y.2=.VC->∃a,cU.ς y.1<*a),(λr=>B.TC rν),(ps.β+1,Hj!,λua=>?_),(d%(a+1)=0/\d%(b+1)=0),(V.tV (((V.uM nm::us).β:χ):ω)=V.tV 1),(mZuIQEL^m5oe^nG^mZO1QAFmV),((0:ω)+(a:ω)),(f9×V),(.uM x),(.Za efb8),(ZC.uA xs.β xs.β g6-ZC.uA xs.β 0 lo),(.dW _,H,I,0,3),(ks++[k]),(CicRdg),(χ.qV.WZ h),(Ne.UH i),(ws.UQ.Tx wv++[wv w]),(AC LcEhV),(TF (c_f.Ui (b,a)) a),(nMnε),(mI.Kx H),(λRh=>(m7h1iOh)),(mIHH'),(.tV z),(mRQBp),(.Ip xg4),(lU->Prop),(ac Lx),(λ_=>rfl),(mI.mE eZ),(δ^.Wm _ [.Wm _ [_,_,_,l] __] __),(vh! Hv! mV),(q,Δ.W.cellsFrom_some ___^.UR q),(beq_builtin_none! _),(intKind_is! ____),(χ.le_max_left __),(u5L^ac Ly->∀p∈y.I1,u5LQC6),(χ.le_add_left __),(.iT [.tV (i:ω),.tV QDW,.uM^lYw]),(CNζ T.b_^nGmV),(.ο C::us,kw),(∀ya,cU.ς y<*a->X.fN.XL.ς y<*a),(.tbl #[]),(mR^mR^mR (.ο s⁻¹,_,3,0,q2)),(X.fn y=π\/X.fN.g8.TW.ς y<*.local),(P4^BOζ_),(γcF×γdP),(rYLQDT 0 c),(fz.As (lYv) gG (((lYv).β:ω)-1)),(mZaZQAOmV),((2:ω)^63),(I.υ.VC boena),(le_succ! _),(.Subscript a bb8),(hY st),(ForInStep.yield r),(∃vs,o.mY=.xq vs),(X.A.mark^δQAm),(c∈L),(N8 i.ρ H),(.rE kxy),(V.uM.WZ e),(vA (f:=OY) QBtζ),(λ__ sh=>h.Ki s),(.iT [.tV 0,.tV 0]),(uUQAFj5),(uUQAOmV),(wJX GaV),(nb (gd sfHQ Ih) λcje=>?_),(M6 (λ_j=>0<j) λij=>.tV (i%j)),(λy=>if y=cJ then δv else mAy),(mE (mEHdn) t^.P' (vks++[v])),(k,h1,VRh2,a),(p,2,.P2 l,0,rTζ λC ODei=>?_),((a+1)+b),(by simpa using c),(∀b∈L,H'b=ε),(!(Builtin.bE.ij ji 0 j.β 1).Yj),(setAttr! QCdcJv),(mR (2,mRh)),(ZC.uA xs.β 0 lo),(.P2 ζ),(η.ο z,[],),(nN_e),(Ne.UH a),(Fifd),(λz=>?_),(forIn [η.ο i1,.ο i2] __>>=_),(Y6 (·.pop)),(CU Bm QAUm),(pr R Bm kr),(mR^lT (wpAny_fieldsOf! fc ?_)),(St->r3),(.ο cTM),(nOL),(pc p),(.uR .T7^J'sn),(.P' [.tV 0]),(M'.ξ^KT.of i9),(kA.ξ k),(ks.Uj i),(Zq! K),(λv=>V.uM^lYv),(AW T.eN QAF),(AW T.eN QBB),(EG (f:=j9) KQAD),(mI.mE a),(g.C9^mI.C9 QDM),(xP Ev QB_mVQBZ),(mI.mE E),(λh'dge=>keEc hz h'dge),(F.args_tuple_iterator_next_1 _),(Ψ [a,b] X.fN=QDB::Ψ [b] X.fN),(J3i (.UR^MZp)^.P2^MZp),(λiv=>(J0wamtseP)[i]?<*v),(w++[41]),(wpAny_load! y^mR^J s'djf),(λ__ sh=>(h.1.Ki s,h.2.Ki s)),(4,!0,0,p9QDiQDi),(4,!0,4,2,D,2,pG.of an,λpb5=>?_),(κ×V),(λ_q=>q),(.tV i),(setAttr! QAefu),(e::es),(_,e,0),((A8lc_).Ui g),(97≤c/\c≤122),(EAcd),(n3.DictOf.new h),(mJns),((pNb8^ΨC X.fN).I9 QBA=ν),(yFQDvK),(mEH s⁻¹ QB3),(λa=>F.args_object_init_2 a_),(.yT k),(∀bo,Hb<*o->b≠p->H'b<*o),(∀ch∈w,JF ch),(nMkε++[δ s]),(hYAY),(cN 11),(dx,gTdZ),(hYG7),(Kn! P0hN),(λh1=>?_),(!0,!0),(VWζ T.zip QDN),(tY^qY^yG T.sx T.Xp AUQBB),(uNX Gn),(uNX Gj),(MPrbWdE),(λe' s''=>r0b7H s Ee' s''),(X.N[i]?<*x),(∀o,g.Ξ i1<*o->g'.Ξ i1<*o),(∀o,g.Ξ i2<*o->g'.Ξ i2<*o),(.uR p (!1)),(pyIter QAe),(∀u∈U,∃φ,H1u<*.ext φ),(h,g,d,t,os),(gU.Tx V.ο),(NIeY 0 []),(pSeJ tNil),(zWc),(uZ (a:=(η.ο it,[],)) ζ ?_),(λj=>i≤j),(λbYAb7sHvsQ Eih=>?_),(((2),5),5),(λH=>Two Hmm2L W1ZeYhV),(λDdA=>!1),((tG (uUQBbmV)^xOQDO).pt),(a.VC c dqnf),(· < 128),(ForInStep.yield ((p.1,a,)::r)),(∀c∈CAL WBkr s,c∈L),(Ψ [a] X.fN=QDB::Ψ [] X.fN),(TOw),(wpAny_throw! ?_),(d'.Tx (·,ν,)),(x::ps,.jM::ws,),(.rE .WG QB7e6),(.P' (l++[gx'])),(Dt! B W.β λH=>tFHmL WB),(HJ W1.β cE.β),(xM (ac Lt') w),(p0^m4j5QCP),(_F.mE mjM^.P' [N,V.ο H]),(.BoolOp .And (a::b::f6) b8),(.dW π),(us++ds),(λ_ s''=>r0b7H s Ee s''),(cs.Tx λc=>(⟨#[c]⟩:bE)),(revObj! b ((eE.Λ.fC:ω)-1)),(l++[x]),([a],[]),((b'm).Tx λ(n:χ)=>(n:ω)),(ps,ws,),(qUbζ (x:=.uM xt) ζ ?_),(mJQDp),(.ο CM),(.ο c1),((mI.off s2).ξ^m.ξ E7.w),(yG T.sx T.oh boot_list! QAD),(yG T.sx T.bC boot_bool! QAD),(λij=>V.dW^decide (j<i)),(a+(b+1)),(.uM xt),(I.freeC xce),(yboea),(SPXaID),(.BoolOp .Or (a::b::f6) b8),(λboge=>(M.2 bg).ξ e),(I.ok.hd j),(λ_=>ε),(us,[]),(wGQAkus),(ZRNvs),(λw hw=>Cm! dfrfswQDt),(ψη),(λboge=>(D.2 bg).ξ e),(e::T::oJ X.US),(b0::suite),(δ^.Ip x np),(EAcf),(ω.ofNat.WZ z),(λvc Rr=>?_),(p::ps),(_F.mE hDQAP),(.wG (.ο g0) ([.ο a],[])),(λb=>?_),(I.ok.hd r),(.ο S),(lYw),(.P' (oIws++[.uM^lYa])),(.P' (fW.Tx V.ο++[.ο a])),(.ο m),(.ο e::vs),(I8ef X.fN QFN=oFe X.fN),(y::x::ps,.bin k::.jM::ws,),(lY [ch]),(vTA),(DZS7 h.1),(.rE .WG xQJd),(rV (pc^δc)^cs.Tx δ),(δ s::nMnε),(K8 1),(p'AY),(nRAY),(HUQADQAFζ),(hYaJ),(ys=ts.Tx V.ο),(λAb7sHvsQ Eoh=>?_),(L6 (K8 2) QBB),(.iT [.uM QBX,.ο J,.ο D]),(M.ξ^A.ξ l),(0,rT (!3) QBC),(CSmV),(k++[41]),(ω.G'^oR χ.cast^nJl),(x,2,hJ,y,0,mI.mE d__hJ),(∀f,aE (fs.ς f)^mAf),(.tV QGt,H,I.y4 _,(_,0),q),(mEHp^.P'^xs.X6 jv),(ν||(pN cpos QFr).I9 QBA),(∀x∈bZ,FTH x.1 x.2.1),(b,p,.tV ((pAks).β:χ),),(h1,h2),(wpAny_alloc!^lT (tO ?_)),(.P' (B.Tx V.dW++[.dW b])),(.yT .I9),(∃xv,u=x++s::v/\v.β=k),(0,rT (!3) QAI),(4,f.1,2,2,hz,4,f.2.1,f.2.2),(2,2,hz,4,QKh,2,λvdb=>?_),(hF^k9^p0^m4j5QAF),(Q8 XaIσQ),(.BoolOp .And (b::f6) b8),(uA a.fC 0 lo),(.iT [.tV (k.1:ω),.ο b]),(bZ++[(k,v,)]),(Ne.UH^p8a),(F.args_list_index_2 __),(∀q∈jI,vRυ q.1 q.2),(MON [v] fvs),(wG (.ο fI) (.ο e::us)),(λvbF=>v=.vS/\Q QAmbF),(.tV (k:ω) t),(γ.length_filter_le __),(X.A.mark QFq),(WS (·.Um 4 (η.bC π))),(pairTrees! ksvs X.fN b8),(F.typeCall_reversed_1 _),((hud).mp e),(λa b=>a&&!b),(mZaZQAbmV),(!decide (V.dW x=V.dW y)),(mZM8QBDmV),(.BoolOp .Or (b::f6) b8),(I.wish _),(b,o,),(mEQFtx^.TM C dx []),(mEHD^.P'^xs.Tx f),(DFWQC2),(wpAny_mkInt!^mR (1,q)),(wpAny_mkInt!^mR (1,3)),(o,koe,r),(aL.Ui ζ),(UAW),(MAQAZk),(.tV (((lYw).β:χ):ω)),(λz=>mWz λy=>b9.UF y),(DVk),(F.newCall_reversed_1 _),(pEL WB),(ac LQBQ),(cN 8),(e__b5),(λhe=>?_),((i:ω)+1),(λh2=>?_),(σ.X6 iQFq),(∀b∈bN,aYXaIHb),(f.rv.ax QBF),(I.y4 _),(x.above yc^Δ.Vm h),(.Rm id),(yAxs lo g6),(mJws),(λcvdq=>kcv ?_ q),(F.args_tuple_hash_1 _),(qO_f),(Builtin.Wy.nextOf QCb),(δQAr),(BWQGN),(λbf=>(hb^NMf).1),(xRQGydbZ),(λbf=>(jb^NMf).1),(gk0q),(f.β=X.N.β),(h',g,d,t,os),(n3.get?_push_at ζζ),(λa s2h2=>lT (F9 ?_)),(DI b_Q! d fv! ?_^OB! _),(x,v,h1,h2,0),(u++[c]),(VYW1eYcE),(n6L W1 0 x),(gAcESQBW),(.bin k),(ws.UQ.Tx wv),(sK X.Ω X.w),(λa b=>a||b),(λa b=>a&&b),(η.ο a::us),(DIXJ ty gX! ?_^Lc! _),(w.β-j),(aFAC),(i+1+j),(parts_dep! z),(pv! a b),(cN 10),(.ο kI),(.ο iM),(KH! cWP0hN),(q6ns (7+k)),(λDdA=>rfl),(hYLR),(hYIU),(hYLP),(hYLO),(((1),5),5),(AW T.eN QAO),(H'D<*.P'^E.Tx V.ο),(L.Tx λ_=>2),(yE__),(BI T.eN QAO),(w.Uj i),(λboge=>Sboge),(F5_^F5_^Ia! pe),(Δ.Within.nF cJv hw),(.TM C dx^am fyfs),(λboge=>Jboge),(.Wm QCf (e::a) [] b8),(λe s'=>R (.G2 e) s'),(.Wm QCf (e::C) [] b8),(c,u,g,dyc_gz,V6),(V.tV ((n+1+i:χ):ω)),(tO^wpAny_point! QBp),((w8Pw).hash (k:ω)),(WS (·.Um 2 (.ο h))),(j,g,A6_,h1,h.2.2,h2),(mM (SFK) QAFmVQAQ),(p,_,4,i,r8 (j:=0) ζ,3),(hF^rW^xNQFaQAF),(hF^rW^xNQAOQBj),(.P2 λ_z=>nomatch z),(δu),(I.υ.AP boen PB),(aGi),(2^62),((xs,q,nZ_),tbHp),(XZ .Add),(B9 λij=>.tV (i+j)),(B9 λij=>.tV (i-j)),(o,h1,h2),(γ.take_sublist __),(CK! x),(o,c,e,d),(λyd=>t y^qO_d),(gboq),(δx::p),(assign (.Ip yd) fN),(L.TC QCT 0),(κ×θ×η),((atKey! xsk).Tx QBu),(mEHd^xRDdQEt),(lT (wpAny_letGo! ?_)),(bs.Tx V.dW),([.ο z],[]),(.lY xk),(n6L R 0 w),(oPE6d),(e::oJ X.US),(.tV (a:ω)),(Ψ [] X.fN),(ZG X.fN ev),(∀vs,o.mY≠.xq vs),(Ne.UH l),(∀ws,o.mY≠.xq ws),(λf=>?_),(χ.le_max_right __),(c1k),(mEH pa^.P' us.UQ),((n:ω)-1-i),(mEfDQAP),((x:ω)/2^j),(bW.Tx V.ο),(vs.TC a []),(w.Tx δ),(δ s),(succ_pos! a),(AV^nGj5),(λ_=>(0,0)),(mEH7deA),(.ο QCH),(.ο QEG),(.P' QEH),(A.ξ ab),(qMQAOQH_),(.tV (r:ω)),(m4QADQAO),(hF^Kv!),(V1QAMts^λ_=>aO),(.tV QC3),(CNζ T.b_^nGQBb),(m4QBBQAF),(yG T.sx T.Xp AUQAF),(yG T.sx T.Xp AUQAD),(mI.C9 u),(mI.mE b),(storeName! X.fN xu),(.Constant QHdjb8),(nb QGZ λcke=>?_),(.UnaryOp .Not ab8),(nb QGZ λvje=>?_),(a,H',I.Z_,q),(qb8a sfH_ Ih),(.Slice lo g6εp2),(mEH'e^ANeCd),(λ_ s'=>Q .next s'),(BVvsk),(by simpa[d]using k),(.iT [xD! dFx,.ο b]),(h.wr.2 ibrh1h2),(by simpa[f]using o),(sc.TW.ς y<*.local),(.TM (c t.kd) dx fs),((u++m2k++v)++[41]),(λs'dcjyf=>?_),(λz=>(z.1,.UR z.2)),(k,h1,Hg! h2e,a,c,b),(retr [C,c1] H2' bP),(w.Gd (i+1)),((mI.off R).ξ E7.p),(.P2 x),(fs.Tx QBA),(v,H,I,r,h),(oFo X.fN),(Ψ [a] X.fN=[QDB]),(x' .NotIn),(·.refKey),(Δ.W.makes_of Xb),((k,x,)::r),(p8^A6_),(by simpa using h1),(by simpa using h2),(CJImlj ?_ kc),((o,e,f.1),λah=>?_),(p' st),(nR st),(I.ok.hd C),(f++[l[i]]),(I7_ (!1)),(W.TC s []),(N.β-vs.β-fvs.β),(h.u_.fC+1),((_,_)::EMr (n+1)),(v7h1),(k.headD 0),(.ok .next),(J.lP ia/\Q QA0a),(λz=>z.2,λz=>(a,z)),(hGych1),(hGzch2),(lT^XOgtyQBp),(c^.uR k),(c^.rE k),(ps,w::ws,),(.yV c),(ψχ),(DZ h.1 S7),(xG^Msg),(am t4 (.ο y) QCZ),(vA (f:=j9) QBtζ),(hYD0),(hYD6),(0,ν,),(λH=>tFHmL WB),(AQ! cW cTM),(kQ! l (!3)),(n5Q (!0)),((mI.mE aN).ξ sm2!),(vA (f:=o3) QADζ),(vA (f:=t4) QADζ),(AQ! cWQAM),(vA (f:=t4) QAFζ),(mI.X6 hk),(uUQAOj5),(V1QAMts λ_=>vT),(mI.C9 QJq),(mI.C9 QJt),(1+(c6:ω)),(λij=>V.tV (i%j)),(vGlV),(by simpa using e),(EsPw),(oNe),(.dW ν),(by simpa using Q),((am fyfs).ς g),(instObj! C s⁻¹),(bE×η),(.Wm QCf [] [] b8),(by simpa using o),(.bC π),(uF,z5,.YN fd,osl!),(δj),(Zn! __),(Aa! __),(Ax! __),(θ×b9),(σ.X6 i^δQAm),(b.at (isB.at ?_)),(·+1),(lTQH2),(N4Pw),(.dW _,H,I.y4 _,0,q),(by simpa using n),(by simpa using k),(x4UH),(by simpa using d),(Ib! k t),(qO_a),(λbc=>(dbc).1),(VMEw),(∀b∈F,H'b=ε),([],[],),(δd),(e0::es),(RWWB),(by simpa using b),(oSQAZts),(pZ.putSet c.Λ O),(by simpa using z),(setEntries! a>>=_),(Iv! WB),(u++[c],[],!1,h,0),(a,dx,e,h__bQAC),(lY [c]),(.ο pa),(7,F.mro_reversed),(χ.not_lt_zero _),(fi []),(aOQCI),(Il! K),(t,r,2,hJ,p5jeZ),(nGQAb),(cb! QAD),(HR (i:=0) ζQDx),(8,yZ.uM _,mq! K,3),(0,q_^j__lN),(λc=>!decide QIl),(g.C9^mI.C9 QGB),(mEHxo),(I.ok.noex boe),(X.wish E),(fa s cH _ Ih),(λbuq=>nN_q),(λbue=>nN_e),(∀v,(x,v,)∉a),(λb nq=>nN_q),(.iT ys),(YL.Yt ?_),(λ__q=>nN_q),(o,k it (!1) oe,r),(x.Ym.Zh.Uj j.UD),(s^mOg),(eqIsQuiet! 8 QAe),(zN.ei ..),(xs.β,!1,pT_,z),(Fi h'.u_.fC c0),(d⁻¹+2),(∀x∈ns,x≤M),(nt! dJeF),(relabel! sc X.fN),(sc.TW.ς x<*.aQ),(z,k_q),(rMeCd),(hGych),(η.tV (k':ω) t),(zTwmi),(load! s⁻¹>>=_),(_,DAlc^vGl),(λ_z=>z),(mUν (m2k++v)),((n:ω)-1),(and_iff_right! a),(xYL (p::ps).UQ),(λe=>ψ.δ.WZ e),(nMnε++[δ s]),(nG^qMQIrQF9),(λ_h=>h),((S8 (!3)).Ui ζ),(n'.of hJ),(λh4=>?_),(RZ.nF j5j5QEJ),(0+(i:ω)+(k:ω)),(n'.of h2),(b5.C9^mI.C9 J),(λq=>nomatch q),(wGQOa (v::us)),(ns.Tx WData.tV),(∀c∈a,c∈b),(CAL WBk__),(z,H,I.y4 _,c,q),(eqBool! QAeQEC),(z,H,I.y4 _,a,q),(λH'e=>e.ξ h),(η.ο e::us,[]),(J0wamtseP),(λz=>mWz (!1)),(ts.Tx Prod.fst),(∀c∈v,c∈u),(ν,oFe1 X.fN,),(ν,oFe2 X.fN,),(η.ο T != η.ε),(j' ..,λxb=>?_),(.ok^.ret QAY),(.uR .again QEF),((KT.of e).ξ k),(Cs W1.β cE.β),(T.ks (i:=1) ζ),((S8 (!3)).mp h),(0,_,pG.of l.pl),(n5 (Xss) (!0))]
@[reducible]def zz.u:=(zz.v.splitOn "\t").toArray
@[reducible]def zz.w(i:Nat):=(zz.I 99 (zz.u[i]!.splitOn "\n")).1
local macro_rules(kind:=Lean.Parser.Command.declaration)|s=>zz.D zz.w s
local macro_rules(kind:=Lean.Parser.Command.variable)|s=>if s.getHeadInfo matches .original .. then return zz.W zz.w (zz.gT s) else Lean.Macro.throwUnsupported
@[reducible]def lU:=List Nat
@[reducible]def n0:=List lU
open PySem.W (Frag fnOf mg_none_of codeIn CodeHd mg_of nsIn keepIn hideAll fnMade hideAll_get hideAll_none kla_fn exmOne kla_obj emptyDict isFn instObj envX tabObj of_hideAll takerIn callWith_K makesIn plainGet any_some looks_clsIn set_plain methodObj)
open List (length_map getElem?_eq_getElem replicate getElem?_map mem_cons length_append getD_eq_getElem?_getD mem_singleton length_cons mem_of_getElem? mem_range mem_cons_of_mem map_append size_toArray all_eq_true mem_cons_self mem_append length_range length_replicate mem_map length_take not_mem_nil append_assoc getElem?_append_left getElem_mem take_of_length_le length_reverse getElem?_append_right idxOf_lt_length_of_mem map_cons mem_append_right append_nil getElem?_range mem_iff_getElem? lookup_cons length_drop mem_filter take_length getElem_idxOf forIn_cons find?_cons take_append_drop take_add_one replicate_succ forIn_nil mem_of_mem_take nodup_cons getElem?_eq_none any_eq_true mem_append_left cons_append map_take range' contains_iff_mem flatten_cons length_eq_zero_iff of_mem_zip mem_of_mem_drop idxOf_cons mem_flatMap getElem?_reverse map_map foldl_append filterMap_cons Perm nil_append length_nil dropLast_concat mem_reverse getElem_inj)
open Nat (le_refl le_trans zero_le ne_of_lt lt_of_lt_of_le le_of_not_lt lt_succ_self lt_of_le_of_lt lt_trans le_of_lt succ_le_succ le_succ le_of_eq ne_of_gt succ_pos sub_self lt_irrefl le_of_lt_succ not_lt le_succ_of_le le_antisymm sub_succ_lt_self le_add_right lt_succ_of_lt)
open PySem.Heap (get?_push_of_some lt_size get?_push_size SameBut get?_update_self size_push get?_update_other DictOfH)
open PyProof.Rows (boot_tuple boot_list boot_isinstance boot_bool boot_str boot_int boot_reversed boot_zip boot_any boot_all)
open Option (map_eq_some_iff)
open Bool (and_eq_true or_eq_true not_eq_true' eq_false_iff)
open PySem.F (plainAttrs_list called_set excBase_ValueError store_object type_list_pop slot_list_pop plainAttrs_str)
open PySem.Obj (mapFields mapSeq data_mapFields isFreed_of_fields)
open PySem (boot_len)
open Array (length_toList getElem?_toList forIn_toList)
open Int (toNat_natCast emod_nonneg ofNat_lt)
open PySem.Str (length)
def D' QAs(_:b<a):(a-(b+1))<(a-b):=by lia
def EA QBz(_:a<c)(_:b=c):a<b:=by lia
def EJ QBz(_:a<c)(_:c=b):a<b:=by lia
def Lp! QAs(_:b<a):((a-1)-b)<a:=by lia
def fX! QBz(_:(a-b)=(c+1)):(a-(b+1))=c:=by lia
def zl! QAs(_:b<a):(a-b)=(((a-b)-1)+1):=by lia
def D7 QAs(_:¬a<b)QGH:a=b:=by lia
def W5 QBz(_:((max c a)+1)≤(b+1)):a≤b:=by lia
def Bz! QLy:(a%(5:ω))=(((a%(5:ω)).UD:χ):ω):=by lia
def UC! QBz:(min (a-b) (c-b))≤c:=by lia
def h6 QEf:(0:ω)≤(a:ω):=by lia
def VR QAs(_:a<b):a<(b+1):=by lia
def CI QAs(_:a<b):a≤b:=by lia
def L0 QAs(_:a<(b+1)):a≤b:=by lia
def IN{b:χ}QLy:(max (0:ω)^min a (b:ω))=(((min (a).UD b):χ):ω):=by lia
def kP QEf:(-QEZ)≤(a:ω):=by lia
def FA QEf(_:0<a):(a-1)<a:=by lia
def MG QAs QGH:a<(b+1):=by lia
def Lq! QAs(_:a=9):((a:ω)-((b:ω)+(1:ω))).UD=(8-b):=by lia
def O4 QEf:(-QEZ)≤QDA:=by lia
def bb! QLy:(a%(5:ω)).UD≤4:=by lia
def IQ! QLy:(a%(4:ω)).UD≤3:=by lia
def IR QAs:(a-b)≤a:=by lia
def MI QAs(_:¬b<a):a≤b:=by lia
def FB QAs(_:(a+1)<b):a<b:=by lia
def aK! QBz(_:((max a c)+1)≤(b+1)):a≤b:=by lia
def S1 QEf{b:ω}(_:a≤(9+(b%(4:ω)).UD)):a≤12:=by lia
def Lr! QAs(_:QLz≤25):((25:ω)-((a:ω)+((1:ω)+(b:ω)))).UD<((25:ω)-(a:ω)).UD:=by lia
def Wz! QAs QGH:(a+(b-a))=b:=by lia
def Fu! QEf{b:ω}(_:(b%(4:ω))=(a:ω)):a≤8:=by lia
def ba! QAs(_:b<a):(((a:ω)-(1:ω))-(b:ω))=((((a-1)-b):χ):ω):=by lia
def DQ! QEf{b:ω}(_:(b%(5:ω))=(a:ω)):a≤7:=by lia
def nv! QAs(_:a<b):(a:ω)<(b:ω):=by lia
def O5 QEf(_:1≤a):(0:ω)<(a:ω):=by lia
def L1 QBz(_:c=a)QNp:a≤b:=by lia
def Iy! QAs(_:(a-b)<1)(_:¬a<b):a=b:=by lia
def XD! QBz(_:a=c)(_:¬b<c):a≤b:=by lia
def lO QAs:a<QJE:=by lia
def G_! QBz(_:c≤5000)(_:a≤c):(min a b)≤100000:=by lia
def IX! QEf{b:ω}QRG:a≤8:=by lia
def S2 QLy(_:¬(0:ω)≤a):a<(0:ω):=by lia
def Tz! QAs(_:(a-b)=0)(_:¬a<b):a=b:=by lia
def JK! QEf(_:(a:ω)=(3:ω)):a=3:=by lia
def VT QAs(_:a=b):a≤b:=by lia
def I_!{b:χ}QLy(_:a<(0:ω)):(max (0:ω)^min (a+(b:ω)) (b:ω))=(((a+(b:ω)).UD:χ):ω):=by lia
def Ja! QVI(_:(b+d)=(c-a))(_:a≤c):(a+b)≤c:=by lia
def et! QAs(_:a=(b+1))QNz:(a:ω)<QEZ:=by lia
def nt! QBz(_:b=(c+1))(_:a=c):a≤b:=by lia
def Hb!{bc:χ}QLy QVJ(_:a<(c:ω))QNp:a<QIb:=by lia
def Hc! QAs(_:(a+64)<b):(a+1)<b:=by lia
def O6 QAs:a≤(a+b):=by lia
def Hd! QAs(_:(a:ω)<(b:ω)):a<b:=by lia
def Jb! QAs(_:0=(a-b))(_:b≤a):a=b:=by lia
def S3 QEf:((1:ω)+(a:ω))=(((a+1):χ):ω):=by lia
def He! QAs QGH:a≤(b+1):=by lia
def Hf! QAs(_:a<b):(a+1)≤b:=by lia
def FF QBz(_:a=c)QNp:a≤b:=by lia
def S4 QAs:QJE=QLz:=by lia
def Hg! QAs(_:a<(b+1))(_:a≠b):a<b:=by lia
def FG QAs QGH:(a+1)≤(b+1):=by lia
def Hh! QAs(_:b=a):a≤b:=by lia
def Hi!{bc:χ}QLy QVJ(_:(-(c:ω))≤a)QNp:(-QIb)≤a:=by lia
def Xa! QAs(_:a=(4-b)):a≤26:=by lia
def Jc!{b:χ}QLy(_:(a%(b:ω))<(b:ω))(_:(0:ω)≤(a%(b:ω))):(a%(b:ω)).UD<b:=by lia
def Lu! QAs(_:a=(4-b)):a≤4000:=by lia
def Hj! QEf:(a+1)<(a+2):=by lia
def Jd! QBz(_:(a+(c+1))=b):a<b:=by lia
def Je! QBz(_:c<b)(_:c=a):a<b:=by lia
def Hk! QEf:¬(a:ω)<(0:ω):=by lia
def Lv! QEf{b:ω}QRG:(min a 8)≤7:=by lia
def Hl! QEf(_:a≤5):(a+1)≤6:=by lia
def Jf! QAs(_:a<((b:ω)+(1:ω)).UD):a≤b:=by lia
def Jg! QAs(_:b<9)(_:a<b):a<9:=by lia
def Jh! QAs(_:b<a):¬a≤b:=by lia
def Ji! QVI(_:a<d)(_:(d+b)≤c):QLz≤c:=by lia
def Hm! QAs:(QDA+(b:ω))=((QJE:χ):ω):=by lia
def Hn! QLy(_:(0:ω)<a):a≠(0:ω):=by lia
def Jj! QAs:(0:ω)≤(QHb+(b:ω)):=by lia
def zo78! QAs(_:a≠(b+1))(_:a≤(b+1)):a≤b:=by lia
def Jk! QBz(_:((a+(3*(b+1)))+5)<c):(((a+1)+(3*b))+5)<c:=by lia
def S5 QEf(_:a≤3):a≤16777216:=by lia
def Ho! QEf:(0:ω)≤QHb:=by lia
def Jl! QAs(_:(a+64)<b):((a+1)+1)<b:=by lia
def Jm! QAs(_:a<b)(_:b≤16777216):(a:ω)<(QIb-(1:ω)):=by lia
def VU QEf(_:a≤8):a≤16777216:=by lia
def FI QEf(_:a≤5000):a≤16777216:=by lia
def Jn! QBz(_:c=a)(_:¬b<c):a≤b:=by lia
def Jo! QEf(_:(a:ω)=(0:ω)):a=0:=by lia
def Jp! QBz(_:c<(b+1))(_:a≤c):a<(b+1):=by lia
def Jq! QAs(_:a≤(2*b)):a≤((2*b)+1):=by lia
def Jr! QBz QVJ(_:c=a)QNp:(a:ω)<QIb:=by lia
def qn! QVI(_:a<c)(_:c=d)(_:b=d):a<b:=by lia
def Lw! QBz(_:b<((c:ω)-QDA).UD):QJE<c:=by lia
def Jt!{a bcde:χ}(_:b<c)(_:d=(e+2))(_:c≤(2*d))(_:e≤300)QGH:a≤900:=by lia
def Ju! QAs QNz QGH:QHb<QEZ:=by lia
def zo95! QAs(_:a≠b)QGH:a<b:=by lia
def Jv! QAs(_:b<(a+1)):¬(a+1)≤b:=by lia
def Jw! QAs(_:(a:ω)=(b:ω))QNz:QDA<QEZ:=by lia
def Hq! QEf(_:a≤63):a≤16777216:=by lia
def FJ QEf:1≤(a+1):=by lia
def Ga! QAs(_:b≤a):¬a<b:=by lia
def Gb! QAs(_:(b+1)≤60)(_:a≤(4*b)):a≤600:=by lia
def Gc! QEf(_:a≤5000):(a+1)≤9000:=by lia
def Ge! QBz(_:QLz=c):QJE=c:=by lia
def Gf! QEf(_:(a+1)≤60):a≤60:=by lia
def Gg! QEf(_:a≤3):(a+1)≤6:=by lia
def Jx! QAs(_:0<b)(_:a≤(b-1)):a<b:=by lia
def Gh! QEf:(-QEZ)≤QHb:=by lia
def Gi! QEf(_:a<1000):a≤16777216:=by lia
def Jy! QLy:(a%(8:ω)).UD≤7:=by lia
def Gj! QAs QNz QGH:QDA≤(1000000:ω):=by lia
def Gk! QLy(_:(0:ω)<a):(0:ω)≤a:=by lia
def Gm! QAs QGH:((a:ω)-(b:ω))≤(0:ω):=by lia
def Gn! QEf(_:(0:ω)<(a:ω)):(a:ω)≠(0:ω):=by lia
def Go! QEf:(0:ω)≤QDA:=by lia
def Gp! QAs:QLz=QJE:=by lia
def Jz! QLy(_:¬a<(1:ω)):(0:ω)<a:=by lia
def Gq! QEf(_:a≤50):(a+1)≤16777216:=by lia
def Gr! QEf(_:a≤16777216):¬QIb≤(a:ω):=by lia
def aw! QEf(_:a≤2100):a≤20000:=by lia
def Gu!:(0:ω)<QEZ:=by lia
def Gv! QEf(_:a≤63):a≤100:=by lia
def Gw! QEf(_:(((a+1):χ):ω)=(1:ω))(_:1≤a):oA:=by lia
def Gx! QEf(_:a≠3)(_:a≤3):a≤2:=by lia
def Gy! QEf:¬(a+8)<8:=by lia
def Gz! QEf:a≤(a+1):=by lia
def Ir! QAs:(0:ω)≤(QDA+(b:ω)):=by lia
def Xj!:(-QEZ)≤(0:ω):=by lia
def JB!{b:χ}QLy(_:b≤3):(min (a).UD b)≤3:=by lia
def GB! QEf(_:1≤a):(a:ω)≠(0:ω):=by lia
def JC!{c de:χ}{a b:ω}(_:((c:ω)+(d:ω))=(e:ω))(_:((e:ω)+b)=a):((a-b)-(c:ω))=(d:ω):=by lia
def JD! QBz(_:(b-c)=(a+1)):(a+1)<(b+1):=by lia
def m9 QNq QRs QEg{a:b}(h:l[i]?<*a):∃h:i<l.β,l[i]=a:=γ.Vq.mp h
def mO{a:Type _}QL0 QEg(h:i<l.β):l[i]?<*l[i]:=γ.getElem?_eq_getElem h
def pu QNq QRs QEg{a:b}:l.TC ia=l[i]?.TC a:=γ.getD_eq_getElem?_getD
def j'{a:Type _}QNq QL0(f:a->b):(l.Tx f).β=l.β:=γ.length_map f
def o9{a:Type _}{l m:γa}:(l++m).β=l.β+m.β:=γ.length_append
def na{a:Type _}QNq{f:a->b}QL0 QEg:(l.Tx f)[i]?=ψ.Tx f l[i]?:=γ.getElem?_map
@[reducible]def lT:=@PySem.wpAny_bind
@[reducible]def mR:=@PySem.wpAny_pure
@[reducible]def nN:=@PySem.Heap.get?_push_of_some
def o6{c:Type _}{a b:c}:a∈[b]->a=b:=γ.aL.mp
def v7 QNq QRs QEg{a:b}(h:l[i]?<*a):a∈l:=γ.mem_of_getElem? h
def r7{d:Type _}{c:Type _}{f:d->c}{x:ψd}{b:c}(h:ψ.Tx fx<*b):∃a,x=δa/\fa=b:=ψ.map_eq_some_iff.mp h
open PySem
namespace _F
open PySem.Spec PyProof.Rows
@[reducible]def f9:=Sum Int Str
abbrev jp:f9->η->b9
 |.UR k,v=>η.isInt kv
 |.P2 x,v=>η.isStrOf xv
abbrev Lx! QBg:f9->ω
 |.UR k=>hashInt! k
 |.P2 x=>hashStr! wx
def K':∀{k:f9}{v:η},jp kv=π->(∃i t,k=Sum.UR i/\v=η.tV i t)\/(∃xt,k=Sum.P2 x/\v=η.uM xt)
 |.UR i,v,h=>by
  let(t,e):=η.isInt_shape (k:=i) (v:=v) h;show .UR (i,t,0,e)
 |.P2 x,v,h=>by
  let(t,e):=η.isStrOf_shape (x:=x) (v:=v) h;show .P2 (x,t,0,e)
def ue!(i:ω)QIx:jp (.UR i)^.tV i t=π:=by simp[jp,η.isInt]
def ud! QFJ QIx:jp QRtQL1=π:=by simp[jp,η.isStrOf]
def Be!(a b:ω):decide ((Sum.UR a:f9)=Sum.UR b)=(a==b):=by
 by_cases e:a=b
 .subst e;simp
 .let h:¬ (Sum.UR a:f9)=Sum.UR b:=λq=>e^Sum.UR.WZ q;rw[pIh];show(Ul.Ui e).UH
def Gl!(a b:bE):decide ((Sum.P2 a:f9)=Sum.P2 b)=decide (a=b):=by
 by_cases e:a=b
 .subst e;simp
 .let h:¬ (Sum.P2 a:f9)=Sum.P2 b:=λq=>e^Sum.P2.WZ q;rw[pIh,pIe]
def Ky!(a:ω)(b:bE):decide ((Sum.UR a:f9)=Sum.P2 b)=ν:=pIQVR
def OX!(a:bE)(b:ω):decide ((Sum.P2 a:f9)=Sum.UR b)=ν:=pIQVR
abbrev Es(Ω:nA)QBg:Δ.KeyKind Ωwf9 where
 is:=jp
 hash!:=Lx! w
 WZ:=λv a beMcY=>by
  rcases K'eM with⟨i,t,ζ,ζ⟩|⟨x,t,ζ,ζ⟩
  .rcases K'cY with⟨j,u,ζ,e⟩|⟨y,u,ζ,e⟩
   .injection e with e1 _;rw[e1]
   .exact nomatch e
  .rcases K'cY with⟨j,u,ζ,e⟩|⟨y,u,ζ,e⟩
   .exact nomatch e
   .injection e with e1 _;rw[e1]
 byValue!:=λkvh=>by
  rcases K'h with⟨i,t,ζ,ζ⟩|⟨x,t,ζ,ζ⟩<;>rfl
 pyHash!:=λdOh=>by
  rcases K'dO with⟨i,t,ζ,ζ⟩|⟨x,t,ζ,ζ⟩
  .exact wpAny_pyHash_int! h
  .exact wpAny_pyHash_str! h
 eqBool!:=λhOdOh=>by
  rcases K'hO with⟨i,t,ζ,ζ⟩|⟨x,t,ζ,ζ⟩
  .rcases K'dO with⟨j,u,ζ,ζ⟩|⟨y,u,ζ,ζ⟩
   .rw [Be!]at h;show wpAny_eqBool_int! h
   .rw [Ky!]at h;show Wj.sf.int_str i t yu____h
  .rcases K'dO with⟨j,u,ζ,ζ⟩|⟨y,u,ζ,ζ⟩
   .rw [OX!]at h;show Wj.sf.str_int xtju____h
   .rw [Gl!]at h;show wpAny_eqBool_str! h
 «strs»:=λkxtvh=>by
  rcases K'h with⟨i,u,ζ,e⟩|⟨y,u,ζ,e⟩
  .exact nomatch e
  .injection e with e1 _
   subst e1
   cases v<;>rfl
def Cg!(Ω:nA)QBg(i:ω)QIx:(EsΩw).is (.UR i)^.tV i t=π:=ue! i t
def df!(Ω:nA)QBg QFJ QIx:(EsΩw).is QRtQL1=π:=ud! xt
inductive V where
 |vS|dW QKD|tV (i:ω)|uM (x:bE)|byt (b:pV UInt8!)|flt! (b:UInt64!)|ο (a:θ)|ty (n:String)
 deriving wA
abbrev nT:V->η->Prop
 |.vS,u=>u=η.ε
 |.dW b,u=>u=η.bC b
 |.tV i,u=>∃t,u=η.tV i t
 |.uM x,u=>∃t,u=η.uM xt
 |.byt b,u=>∃t,u=η.bytes bt
 |.flt b,u=>∃t,u=η.float bt
 |.ο a,u=>u=η.ο a
 |.ty n,u=>u=η.TB n
instance oG:γ V->γη->Prop:=Y8nT
def oG.β(r:oGxsus):xs.β=us.β:=Y8.β r
def oG.get:∀QBmQCE QEg{x:V},oGxsus->xs[i]?<*x->∃u,us[i]?=δu/\nTxu
 |_,_,_,_,.nS,e=>by simp at e
 |_,_,0,_,.nF r_,e=>by simp at e;subst e;show(2,r)
 |_,_,i+1,x,.nF _t,e=>by
  let(u,h1,h2):=oG.get (i:=i) (x:=x) tQS8;show(u,by simpa using h1,h2)
def oG.X6{x:V}{u:η}(r:nTxu):∀QBmQCEQAu,oGxsus->oG (xs.X6 ix) (us.X6 iu)
 |_,_,_,.nS=>.nS
 |_,_,0,.nF _t=>.nF rt
 |_,_,i+1,.nF qt=>.nF q^oG.X6 rit
def oG.append{xsys:γ V}{usws:γη}QHQ(s:oGysws):oG (xs++ys) (us++ws):=by
 induction h with
 |nS=>show s
 |nF r t i=>show .nF ri
def oG.Uj:∀QBmQCEQCv,oGxsus->oG (xs.Uj n) (us.Uj n)
 |_,_,0,_=>.nS
 |_,_,_+1,.nS=>.nS
 |_,_,n+1,.nF rt=>.nF r^oG.Uj nt
def oG.Gd:∀QBmQCEQCv,oGxsus->oG (xs.Gd n) (us.Gd n)
 |_,_,0,r=>r
 |_,_,_+1,.nS=>.nS
 |_,_,n+1,.nF _t=>oG.Gd nt
abbrev aE:ψ V->ψη->Prop
 |δ v,δu=>nTvu
 |ε,ε=>vN
 |_,_=>oA
abbrev KV{κ:Type}:γQKE->γ (κ×η)->Prop:=Y8 λ(p:κ×V)(q:κ×η)=>p.1=q.1/\nT p.2 q.2
abbrev kV:f9->V
 |.UR i=>.tV i
 |.P2 x=>.uM x
inductive j7 where
  |P' QCR
  |iT QCR
  |r6 QNI|dT (bZ:γ (γf9×V))
  |X6 (S:ω->b9) QCv
  |TM (C dx:θ) QUG
  |own (x:θ)
  |xd! QUG
  |met! (fx:θ)
  |rng! (lo g6:ω)
  |frz (o:pZ) (u:j7)
  |tbl! (ps:pVη)
  |ext (φ:n3->Prop)
@[reducible]def m1:=Addr->Option j7
abbrev mE QAH QCw(o:j7):m1:=λb=>if b=a then δo else Hb
def hJ:mEHaoa<*o:=by unfold mE;rw[mGζ]
def a'(h:b≠a):mEHaob=Hb:=by unfold mE;rw[mFh]
def MW:mEQGYau=mEHau:=by
 funext b;unfold mE;split<;>rfl
def qS QGr QS9(h':Hb<*u)(d:o≠u):a≠b:=by
 intro e;subst e;rw[h]at h';show d^ψ.δ.WZ h'
def oZ QGr QS9(h':Hb=ε):a≠b:=by
 intro e;subst e;rw[h]at h';cases h'
section
variable(P:nA)(w:o4)
abbrev qN QAH QJx QCw:j7->Prop
 |.P' xs=>xs.β≤Φ/\∃(eE:γη)(n:χ),oGxseE/\h.Ξ a<*{dM:=.TB "list",mY:=.Yv eE.Λ n}
 |.iT xs=>xs.β≤Φ/\∃eE:γη,oGxseE/\IsTup! ha eE.Λ
 |.r6 bZ=>bZ.β≤Φ/\(a==V4)=ν/\∃vs,KVbZvs/\h.DictOf QS_avs
 |.dT bZ=>bZ.β≤Φ/\(a==V4)=ν/\∃xs:γ (γf9×θ×η),
   Y8 (λ(p:γf9×V)(q:γf9×θ×η)=>p.1=q.1/\H q.2.1=δ^.iT^p.1.Tx kV/\nT p.2 q.2.2) bZ xs/\
   ∃oeseP,h.Ξ a=δo/\o.ExactDict/\o.mY=.wF eseP/\es.Zh=xs.Tx^entryOfKey!^tupleKind! QS_/\(xs.Tx QBA).qg
 |.X6 S n=>h.SetOf QCMa Sn
 |.TM C dx fs=>H dx=δ^.own a/\fs.β≤1000/\dx≠a/\h.Ξ a=δ^instObj! C dx/\
   ∃mA,h.Ns1 dx mA/\QMz/\Δ.Within mAQRu
 |.own _=>∃o,h.Ξ a<*o
 |.xd fs=>∃mA,h.Ns1 amA/\∀f,aE (fs.ς f)^mAf
 |.rng lo g6=>∃tuv,h.Ξ a<*{dM:=.TB "range",mY:=.xq #[.tV lo t,.tV g6u,.tV 1 v]}
 |.frz o u=>h.Ξ a=δo/\qNHhau
 |.tbl ps=>h.Ξ a<*{dM:=.ε,mY:=.xq ps}
 |.met f x=>h.Ξ a<*methodObj! QArQCd
 |.ext φ=>φh/\(∃o,h.Ξ a<*o)/\∀h1h2:n3,φh1->(∀o,h1.Ξ a<*o->h2.Ξ a<*o)->φh2
abbrev y' QAH QJx:Prop:=∀ao,Ha<*o->qNPwHhao
end
section
variable{P:nA}{w:o4}{HH':m1}{hh':n3}{a:θ}{o:j7}
def qN.lt(x:qNPwHhao):a<h.u_.fC:=by
 cases o with
 |P' xs=>let(_,_,_,_,e):=x;show oNe
 |iT xs=>let(_,_,_,p):=x;show p.lt
 |r6 bZ=>let(_,_,_,_,o,_,_,e,_):=x;show oNe
 |dT bZ=>let(_,_,_,_,o,_,_,e,_):=x;show oNe
 |X6 S n=>let(o,_,_,_,e,_):=x;show oNe
 |TM C dx fs=>let(_,_,_,e,_):=x;show oNe
 |own y=>let(_,e):=x;show oNe
 |xd! fs=>let(_,(_,_,_,e,_),_):=x;show oNe
 |rng! lo c=>let(_,_,_,e):=x;show oNe
 |frz b u=>let(e,_):=x;show oNe
 |tbl! ps=>show oN (show h.Ξ a<*_ from x)
 |met! f y=>show oN (show h.Ξ a<*_ from x)
 |ext φ=>let(_,(_,e),_):=x;show oNe
def Y8.mapP{ge:Type}{F G:g->e->Prop}{d:γg}{c:γe}(h:Y8Fdc)(f:∀a b,Fab->Gab):Y8Gdc:=by
 induction h with
 |nS=>show .nS
 |nF r t i=>show .nF (f__r) i
def qN.Zx(x:qNPwHhao)(k:∀bu,(b=a\/Hb<*.own a)->h.Ξ b<*u->h'.Ξ b<*u)(D:∀b,Hb<*.own a->H'b<*.own a)(B:∀bxs,Hb<*.iT xs->H'b<*.iT xs):qNPwH'h'ao:=by
 induction o with
 |P' xs=>let(z,eE,n,r,e):=x;show(z,eE,n,r,k__QAve)
 |iT xs=>let(z,eE,r,g,e,c):=x;show(z,eE,r,g,k__QAve,c)
 |r6 bZ=>let(z,y,vs,r,g,i,j,e,c):=x;show(z,y,vs,r,g,i,j,k__QAve,c)
 |dT bZ=>
  let(z,y,xs,r,g,i,j,e,c):=x;show(z,y,xs,Y8.mapP r λpqz=>(z.1,B__ z.2.1,z.2.2),g,i,j,k__QAve,c)
 |X6 S n=>let(g,i,j,t,e,c):=x;show(g,i,j,t,k__QAve,c)
 |TM C dx fs=>
  let(d,z,s,e,m,(l,i,j,E,c),r):=x;show(D_d,z,s,k__QAve,m,(l,i,j,k__ (.P2 d) E,c),r)
 |own y=>let(g,e):=x;show(g,k__QAve)
 |xd! fs=>let(m,(l,i,j,e,c),r):=x;show(m,(l,i,j,k__QAve,c),r)
 |rng! lo F=>let(t,u,v,e):=x;show(t,u,v,k__QAve)
 |frz g u A=>let(e,q):=x;show(k__QAve,Aq)
 |tbl! ps=>
  let e:h.Ξ a<*{dM:=.ε,mY:=.xq ps}:=x;change h'.Ξ a<*{dM:=.ε,mY:=.xq ps};show ka_QAve
 |met! f y=>
  let e:h.Ξ a<*methodObj! QAr^.ο y:=x;change h'.Ξ a<*methodObj! QAr^.ο y;show ka_QAve
 |ext φ=>let(p,(o,e),st):=x;show(st __p λoq=>k__QAvq,(o,k__QAve),st)
def y'.lt QHw(e:Ha<*o):a<h.u_.fC:=(xaoe).lt
def y'.ax QHw(e:h.u_.fC≤a):Ha=ε:=by
 cases q:Ha with
 |ε=>rfl
 |δ u=>show mW (pP (x.lt q) e) QD_
def y'.Zo QHw QCl:y'PwHh':=λaoe=>
 (xaoe).Zx (λbu_q=>kbuq) QKF λ__q=>q
def y'.laid QHw QCl(b5:h.u_.fC≤a)(d:qNPwQGYh'ao):y'PwQGYh':=λbue=>by
 let f:=x.ax b5;by_cases g:b=a
 .subst g;rw[hJ]at e;cases e;show d
 .rw [a'g]at e;show(xbue).Zx (λcv_q=>kcvq) (λcq=>by rw[a'^oZqf];show q) λcxsq=>by rw[a'^oZqf];show q
end
abbrev nY QAH QCw(u:j7):Prop:=Ha<*u\/∃o,Ha<*.frz ou
def nY.ok(r:nYHau)QHw:qNPwHhau:=by
 rcases r with r|⟨o,r⟩
 .exact xaur
 .obtain ⟨_,q⟩:=xa_r;show q
abbrev eQ!:ψj7->Prop
 |δ (.P' _)=>vN
 |δ (.r6 _)=>vN
 |δ (.dT _)=>vN
 |δ (.X6 __)=>vN
 |δ (.TM ___)=>vN
 |δ (.ext _)=>vN
 |_=>oA
section
variable{P:nA}{w:o4}{H:m1}{hh':n3}{x e:θ}{o':j7}
def y'.write QIc QS3(n:e=x\/He<*.own x)QH0(l:∃u,h'.Ξ e<*u)(j:qNPw (mEHxo') h'xo'):y'Pw (mEHxo') h':=λbuq=>by
 let d:∀cy,Hc<*.own y->c≠x:=λcyrz=>by subst z;rw[r]at rU;show rU
 let f:∀cxs,Hc<*.iT xs->c≠x:=λcxsrz=>by subst z;rw[r]at rU;show rU
 by_cases i:b=x
 .subst i;rw[hJ]at q;cases q;show j
 .rw [a'i]at q;by_cases a:b=e
  .let m:Hb<*.own x:=by
    rcases n with z|z
    .exact mW (a.ξ z) i
    .rw [a];show z
   rw[q]at m;cases m;let(v,o):=l;show(v,by rw[a];show o)
  .refine (ok buq).Zx (λcvgr=>kcv ?_ r) (λc r=>by rw[a'^dcbr];show r) λcxsr=>by rw[a'^fcxsr];show r
   rcases g with ζ|g
   .exact a
   .rintro ζ;rcases n with z|z
    .exact dcbgz
    .rw [g]at z;cases z;show iζ
end
structure rJ(fs ex:γθ)QIA(hh':n3):Prop where
 AP:∀bo,h.Ξ b<*o->Hb=ε->b∉fs->b∉ex->h'.Ξ b<*o
 slot!:∀bo,h.Ξ b<*o->Hb=ε->b∈fs->b∉ex->∃vU,h'.Ξ b<*{o with slots:=vU}
 VC!:∀bo,h.Ξ b<*o->Hb=ε->b∉ex->H'b=ε
 Xq!:∀bo,h.Ξ b<*o->b∉ex->∃o',h'.Ξ b<*o'
 Xk!:∀bxs,Hb<*.iT xs->H'b<*.iT xs
 frzs!:∀bou,Hb<*.frz ou->H'b<*.frz ou
 tbls!:∀bps,Hb<*.tbl ps->∃jA,H'b<*.tbl (ps++jA)
section
variable{fs fs'! ex ex'!:γθ}{HH1bF:m1}{hh1h2h':n3}{axe:θ}{o:j7}
def rJ.I9 QRv(q:h.Ξ b<*c)(n:Hb=ε)(d:b∉ex):∃g,h1.Ξ b<*{c with slots:=g}:=by
 by_cases f:b∈fs
 .exact u.slot bcqnfd
 .exact (c.slots,u.AP bcqnfd)
def rJ.ξ(a:rJfs ex HH1hh1)(b:rJfs ex H1bFh1h2):rJfs ex HbFhh2 where
 AP:=λc dqnif=>b.AP c d (a.AP c dqnif) QLCif
 slot!:=λc dqnif=>by
  let(p,g):=a.slot c dqnif;let(j,l):=b.slot c_gQLCif;show(j,l)
 VC!:=λc dqnf=>by
  let(k,g):=a.Xq c dqf;show b.VC ckgQLCf
 Xq!:=λc dqf=>by
  let(k,g):=a.Xq c dqf;show b.Xq ckgf
 Xk!:=λcxsq=>b.Xk cxs^a.Xk cxsq
 frzs!:=λc dxsq=>b.frzs c dxs^a.frzs c dxsq
 tbls!:=λcpsq=>by
  let(m,g):=a.tbls cpsq;let(m2,l):=b.tbls c_g;show(m++m2,by rw[l,pV.u4])
def rJ.Zo QCl:rJfs ex HHhh':=
 (λbcq___=>kbcq,λbcq___=>(c.slots,kbcq),λ___n_=>n,λbcq_=>(c,kbcq),λ__q=>q,λ___q=>q,λ_psq=>(#[],by rw[q];simp))
def rJ.Kx:rJfs ex HHhh:=rJ.Zo λ__q=>q
def rJ.laid QCl(b5:h.u_.fC≤a)(c:Ha=ε):rJfs ex HQGYhh' where
 AP:=λbuq___=>kbuq
 slot!:=λbuq___=>(u.slots,kbuq)
 VC!:=λbuqn_=>by rw[a'^p8^pP (oNq) b5];show n
 Xq!:=λbuq_=>(u,kbuq)
 Xk!:=λbxsq=>by rw[a'^oZqc];show q
 frzs!:=λbuxsq=>by rw[a'^oZqc];show q
 tbls!:=λbpsq=>(#[],by rw[a'^oZqc,q];simp)
def rJ.write QS3(j:e=x\/He<*.own x)QH0(f:∃u,h'.Ξ e<*u):rJfs ex HQUPhh':=by
 let g:∀b,Hb=ε->b≠x:=λb nz=>by subst z;rw[n]at rU;show rU
 let i:∀b,Hb=ε->b≠e:=λb nz=>by
  subst z;rcases j with r|r
  .exact gbnr
  .rw [n]at r;cases r
 let d:∀bu,Hb<*u->¬ eQ! QP3->b≠x:=λbuq nm z=>by subst z;rw[q]at rU;show nm rU
 show(λbuqn__=>kbu (ibn) q,λbuqn__=>(u.slots,kbu (ibn) q),λbuqn_=>by rw[a'^gbn];show n,λbuq_=>?_,
  λbxsq=>by rw[a'^db_q λz=>z];show q,λbuxsq=>by rw[a'^db_q λz=>z];show q,λbpsq=>(#[],by rw[a'^db_q λz=>z,q];simp))
 by_cases c:b=e
 .subst c;show f
 .exact (u,kbucq)
def rJ.Hu QRv(g:∀b∈fs,b∈fs'!)(f:∀b∈ex,b∈ex'!):rJ fs'! ex'! HH1hh1:=
 (λb dqnic=>u.AP b dqn (λz=>i^gbz) λz=>c^fbz,λ__qn_c=>u.I9 qn λz=>c^f_z,λb dqnc=>u.VC b dqn λz=>c^fbz,λb dqc=>u.Xq b dq λz=>c^fbz,u.Xk,u.frzs,u.tbls)
end
abbrev O7 QJx QAH:γθ:=(γ.b_ h.u_.fC).Wo λa=>(Ha).BC
abbrev N8 QJx QAH:n3:=zSh^O7hH
def ul! QJx QAH:(N8hH).u_.fC=h.u_.fC:=Δ.W.hideAll_size __
def xC!(e:h.Ξ b<*o)(n:Hb=ε):(N8hH).Ξ b<*o:=
 DW _ e λa=>by
  let q:(Hb).BC=π:=(P5.mp a).2;rw[n]at q;simp at q
def zX!(e:(N8hH).Ξ b<*o):h.Ξ b=δo/\Hb=ε:=by
 let e':h.Ξ b<*o:=of_hideAll! (O7hH) e;show(e',3);cases q:Hb with
 |ε=>rfl
 |δ x=>
  let a:b∈O7hH:=P5.Ui (Ug.Ui^oNe',by simp[q]);let z:(N8hH).Ξ b=ε:=I7 (O7hH) a;rw[z]at e;cases e
structure Mod QAw QAy QRH:Prop where
 kin:K.In υ
 glob!:υ.Ns dG mg
 blt!:∃UY,υ.Ns builtinsNs! UY/\∀x:bE,x≠"__name__"->UYx=Y2x
 nolimit!:υ.NoLimit
structure n8 where
 Ω:nA
 w:o4
 K:qI
 mg:bE->ψη
 υ:n3
 A:o7
 N:γbE
 Xy!:Θ
 H₀!:m1
 fN:Env
 b7:γ Env
 US:γ Env
 ex:γθ
 fn:bE->b9
 TN:b9
 pn!:γQA8
 xe:η->Θ->Prop
abbrev oJ(l:γ Env):γθ:=l.filterMap (·.fm)
instance n8.fs QDl:γθ:=oJ X.b7
abbrev Hs QKm QFJ:Prop:=sc.TW.ς x<*.local\/sc.TW.ς x<*.aQ\/sc.TW.ς x<*.VC
abbrev yJ QKm QFJ:Prop:=sc.TW.ς x<*.local\/sc.TW.ς x<*.aQ
abbrev IO(fN:Env)QJx(m:bE->ψη)QFJ QVK:Prop:=
 (fN.F6 x=δ .local/\mx<*u)\/((fN.F6 x<*.aQ\/fN.F6 x<*.VC)/\∃c,fN.XL.ς x=δc/\h.vr cQP3)
structure n8.Ok QDl:Prop where
 mod!:Mod X.K X.mg X.υ
 XA:X.fN.g8.XA=.XH
 glob!:X.fN.globals=dG
 blt!:X.fN.builtins=builtinsNs!
 above!:X.Xy⁻¹≤X.fN.hl
 WZ:∀xyc,X.fN.XL.ς x<*c->X.fN.XL.ς y<*c->x=y
 A7:∀x,(X.fN.F6 x<*.aQ\/X.fN.F6 x<*.VC)->∃c,X.fN.XL.ς x<*c
 cab!:∀xc,X.fn x=π->X.fN.XL.ς x<*c->X.Xy⁻¹≤c
 hd:X.TN=π->X.A.T6=ε
 Xe!:X.A.Xe<*X.US
 stk!:X.US=X.b7\/(X.US=X.fN::X.b7/\X.fN.fm<*X.fN.hl)
 exf!:∀b∈X.ex,b≠X.fN.hl/\∀xc,X.fN.XL.ς x<*c->c≠b
 bs:∀bo,X.υ.Ξ b<*o->X.Xy.ρ.Ξ b=δo/\X.H₀ b=ε
 bsz!:X.υ.u_.fC≤X.Xy⁻¹
 noex!:∀bo,X.υ.Ξ b<*o->b∉X.ex
 exfs!:∀b∈X.ex,b∉X.fs
 funs!:X.Xy.ρ.V_ X.υ X.b7
 frf!:∀b∈X.fs,X.H₀ b=ε
structure f' QDl QAK(σ:γ^ψ V)QAH QCD:Prop where
 ok:X.Ok
 os:s.os=X.Xy.os
 pH!:AllBare! s.PF
 υ:rJ X.fs X.ex X.H₀ H X.Xy.ρ s.ρ
 loc!:∃m,s.ρ.Ns X.fN.hl m/\∀QAu QFJ(v:V),X.N[i]?<*x->σ[i]?<*δv->Hs X.fN.g8 x->∃u,nTvu/\IO X.fN s.ρ mxu
 aQ!:∀xc,X.fN.XL.ς x<*c->∃v,s.ρ.vr cv
 VC!:H X.fN.hl=ε
 freeC!:∀xc,X.fN.XL.ς x<*c->Hc=ε
 pin!:∀p∈X.pn++aI,s.ρ.Ξ p.1=δ p.2/\H p.1=ε/\p.1≠X.fN.hl/\p.1∉X.fs/\∀v,p.2.mY≠.aQ v
 rv!:y' X.Ω X.w H s.ρ
 eN:σ.β=X.N.β
section
variable{X:n8}{aI:γQA8}{σ:γ^ψ V}{HH':m1}{s:Θ}{h':n3}
def n8.Ok.nofr(ok:X.Ok)(e:X.υ.Ξ b<*o):b∉X.fs:=λa=>by
 have:=(ok.funs.mem a).1;rw[e]at this;cases this
def f'.bs QAB:∀bo,X.υ.Ξ b<*o->s.ρ.Ξ b=δo/\Hb=ε:=λboe=>
 (I.υ.AP bo (I.ok.bs boe).1 (I.ok.bs boe).2 (I.ok.nofr e) QUQ,I.υ.VC bo (I.ok.bs boe).1 (I.ok.bs boe).2 QUQ)
def f'.hU QAB:∀bo,X.υ.Ξ b<*o->s.ρ.Ξ b<*o:=λboe=>(I.bs boe).1
def f'.mod QAB:Mod X.K X.mg X.υ:=I.ok.mod
def f'.kIn QAB:X.K.In s.ρ:=I.ok.mod.kin.hL I.hU
def f'.lt QAB:X.fN.hl<s⁻¹:=by let(_,a,_):=I.loc;show a.lt
def f'.sz QAB:X.Xy⁻¹≤s⁻¹:=n5 I.ok.above^Xs I.lt
def f'.nofs QAB QJB(h:s⁻¹≤a):a∉X.fs:=λc=>by
 let(_,o,b,_):=I.ok.funs.mem c;show mW (pP (oNb)^n5 I.sz h) QD_
def f'.cne QAB:∀xc,X.fN.XL.ς x<*c->c≠X.fN.hl:=λxcez=>by
 let(v,o,d,f):=I.aQ xce;let(m,(g,h,i,a,b,_),_):=I.loc;rw[z,a]at d;cases d;rw[b]at f;cases f
def f'.funs QAB:s.ρ.V_ X.υ X.b7:=by
 let u7:∀(l:γ Env),(∀b∈oJl,b∈X.fs)->X.Xy.ρ.V_ X.υ l->s.ρ.V_ X.υ l:=by
  intro l;induction l with
  |nS=>intro __;trivial
  |nF fN r g=>
   intro fk;let(m,(L,o,a,j,i,n),h):=k;let d:L∈X.fs:=fL (by unfold oJ;rw[Zs,a];show cG);let(p,e):=I.υ.slot Loi (I.ok.frf Ld) d λz=>I.ok.exfs Lzd;show(m,(L,_,a,j,e,n),g (λbc=>fb^by unfold oJ;rw[Zs,a];show qO_c) h)
 show u7 X.b7 (λ_c=>c) I.ok.funs
def f'.US QAB:s.ρ.V_ X.υ X.US:=by
 rcases I.ok.stk with e|⟨e,b⟩
 .rw [e];show I.funs
 .rw [e];let(m,a,_):=I.loc;show .nF (by rw[I.ok.XA];decide) ba ?_ I.funs;show n3.get?_none_of_le^n5 I.ok.bsz I.ok.above
def f'.stkSub QAB:∀b∈oJ X.US,b∈X.fN.hl::X.fs:=λba=>by
 rcases I.ok.stk with e|⟨e,c⟩
 .rw [e]at a;show qO_a
 .rw [e]at a;unfold oJ at a;rw[Zs,c]at a;show a
def f'.stkFree QAB:∀b∈oJ X.US,Hb=ε:=λba=>by
 rcases u3.mp (I.stkSub ba)with e|a
 .rw [e];show I.VC
 .obtain ⟨_,o,c,_⟩:=I.ok.funs.mem a;show I.υ.VC boc (I.ok.frf ba) λz=>I.ok.exfs bza
def f'.step{ch:γθ}QAB(j:∀b∈ch,QCS/\b≠X.fN.hl/\QBl/\∀p∈X.pn++aI,p.1≠b)(h:∀bo,b≠X.fN.hl->b∉X.fs->b∉ch->s.ρ.Ξ b<*o->Hb=ε->h'.Ξ b<*o)(B:∀bo,b≠X.fN.hl->b∈X.fs->b∉ch->s.ρ.Ξ b<*o->Hb=ε->∃Q,h'.Ξ b<*{o with slots:=Q})(f:∀bo,b∉ch->s.ρ.Ξ b<*o->Hb=ε->H'b=ε)(C:∀bo,b∉ch->s.ρ.Ξ b<*o->∃L,h'.Ξ b<*L)(F:∀bxs,Hb<*.iT xs->H'b<*.iT xs)(N:∀bou,Hb<*.frz ou->H'b<*.frz ou)(J:∀bps,Hb<*.tbl ps->∃jA,H'b<*.tbl (ps++jA))(ns:∀m,s.ρ.Ns X.fN.hl m->h'.Ns X.fN.hl m)(R:y' X.Ω X.w H'h')(gE:AllBare! g'):f'XaIσH' {s with ρ:=h',PF:=g',drawn!:=d',mU:=t'}:=by
 let M:∀bo,X.Xy.ρ.Ξ b<*o->b≠X.fN.hl:=λboe=>p8QEP;let y:∀bo,X.Xy.ρ.Ξ b<*o->b∉X.ex->b∉ch:=λboeaD=>by
  rcases(jbD).1 with z|z
  .exact az
  .exact mW (pPQS'z) QD_
 let t:∀xc,X.fN.XL.ς x<*c->∀v,s.ρ.vr cv->h'.vr cv:=λxcev T=>by
  let(o,E,S):=T;let g:c∉ch:=λz=>(jcz).2.2.1 xceζ;by_cases W:c∈X.fs
  .obtain ⟨Q,q⟩:=Bco (I.cne xce) Wg EQL2;show(_,q,S)
  .exact (o,hco (I.cne xce) Wg EQL2,S)
 show(I.ok,I.os,gE,(λboenDa=>?_,λboenDa=>?_,λboena=>?_,λboea=>?_,λbxse=>Fbxs^I.υ.Xk bxse,λboxse=>Nboxs^I.υ.frzs boxse,λbpse=>?_),3,λxce=>?_,3,λxce=>?_,λpb5=>?_,R,I.eN)
 .exact hbo (Mboe) DQL3 (I.υ.AP boenDa) QId
 .obtain ⟨Q,A⟩:=I.υ.slot boenDa;let(P,O):=Bb_ (Mboe) DQL3AQId;show(P,O)
 .obtain ⟨L,A⟩:=I.υ.Xq boea;show fbLQL3AQId
 .obtain ⟨L,A⟩:=I.υ.Xq boea;show CbLQL3A
 .obtain ⟨Y,A⟩:=I.υ.tbls bpse;let(m2,O):=Jb_ A;show(Y++m2,by rw[O,pV.u4])
 .obtain ⟨m,Z,eG⟩:=I.loc;show(m,nsm Z,λixv A Oe3=>?_);let(u,r,l):=eGixv A Oe3;show(u,r,3);rcases l with l|⟨k,c,e,z⟩
  .exact .UR l
  .exact .P2 (k,c,e,txce_z)
 .obtain ⟨v,z⟩:=I.aQ xce;show(v,txcevz)
 .obtain ⟨m,⟨o,_,_,E,_⟩,_⟩:=I.loc;show f_o (λz=>(j_z).2.1 ζ) E I.VC
 .obtain ⟨v,o,E,S⟩:=I.aQ xce;show fco (λz=>(jcz).2.2.1 xceζ) EQL2
 .obtain ⟨e,n,U,l5,d⟩:=I.pin pb5;let g:p.1∉ch:=λz=>(j p.1 z).2.2.2 pb5ζ;show(h p.1 p.2 Ul5gen,f p.1 p.2 gen,U,l5,d)
def f'.un QAB(u:rJ X.fs [] HH' s.ρ h')(c:y' X.Ω X.w H'h'):f'XaIσH' {s with ρ:=h',mU:=t'}:=by
 let(m,(o,t,v,h,r),_):=id I.loc;let(l,k):=u.I9 h I.VC (!1);show I.step (g':=s.PF) (d':=s.drawn) (ch:=[]) (λ_z=>nomatch z) (λbo_d_en=>u.AP boend (!1)) (λbo_d_en=>u.slot boend (!1)) (λbo_en=>u.VC boen (!1)) (λbo_e=>u.Xq boe (!1)) u.Xk u.frzs u.tbls (λqj=>by
  let(p,f,g,a,i):=j;rw[h]at a;cases a;show(_,f,g,k,i)) c I.pH
def f'.wG QAB(u:rJQCN ch HH' s.ρ h')(g:y' X.Ω X.w H'h')(t:AllBare! g')(f:∀b∈ch,QCS/\b≠X.fN.hl/\QBl/\∀p∈X.pn++aI,p.1≠b):f'XaIσH' {s with ρ:=h',PF:=g',drawn!:=d',mU:=t'}:=by
 let(m,(o,C,D,k,r),_):=id I.loc;let(y,h):=u.I9 k I.VC λz=>(f_z).2.1 ζ;show I.step (ch:=ch) f (λbohvaen=>u.AP boen (λz=>(u3.mp^I.stkSub bz).Q5 hv) a) (λbo__aen=>u.I9 ena) (λboaen=>u.VC boena) (λboae=>u.Xq boea) u.Xk u.frzs u.tbls (λBq=>by
  let(A,i,j,d,l):=q;rw[k]at d;cases d;show(_,i,j,h,l)) g t
def f'.T7 QAB(k:∀bo,b≠it->s.ρ.Ξ b<*o->h'.Ξ b<*o)(h:H it=ε)(f:it≠X.fN.hl)(h1:it∈X.ex\/X.Xy⁻¹≤it)(h2:∀xc,X.fN.XL.ς x<*c->c≠it)(l:∀p∈X.pn++aI,p.1≠it):f'XaIσH {s with ρ:=h',mU:=t'}:=by
 let d:∀bu,Hb<*u->b≠it:=λbuez=>by rw[z,h]at e;cases e
 show I.step (g':=s.PF) (d':=s.drawn) (ch:=[it]) (λbj=>?_) (λbo__ae_=>kbo (λz=>a^by simp[z]) e) (λbo__ae_=>(o.slots,kbo (λz=>a^by simp[z]) e)) (λ____n=>n)
  (λboae=>(o,kbo (λz=>a^by simp[z]) e)) (λ__e=>e) (λ___e=>e) (λbpse=>(#[],by rw[e];simp)) (λmi=>?_) (λbue=>?_) I.pH
 .let e:b=it:=by simpa using j
  subst e;show(h1,f,h2,l)
 .obtain ⟨o,t,w,g,r⟩:=i;show(o,t,w,k_o (Ne.UH f) g,r)
 .refine (I.rv bue).Zx (λcvaq=>kcv ?_ q) QKF λ__q=>q;rcases a with z|z
  .rw [z];show dbue
  .exact dc_z
def f'.y4 QAB(t:χ):f'XaIσH {s with mU:=t}:=I.un (h':=s.ρ) (t':=t) rJ.Kx I.rv
def f'.Zo QAB QJy:f'XaIσH {s with ρ:=h',mU:=t'}:=I.un (rJ.Zo k)^I.rv.Zo k
def f'.laid QJB QAB QJy(b5:s⁻¹≤a)(c:qN X.Ω X.w QGYh'ao):f'XaIσQGY {s with ρ:=h',mU:=t'}:=I.un (rJ.laid kb5^I.rv.ax b5)^I.rv.laid kb5c
def f'.write QAB QS3(d:e=x\/He<*.own x)(k:∀bu,b≠e->s.ρ.Ξ b<*u->h'.Ξ b<*u)(a:∃u,h'.Ξ e<*u)(c:qN X.Ω X.w QUPh'xo):f'XaIσQUP {s with ρ:=h',mU:=t'}:=I.un (rJ.write rUdka)^I.rv.write rUdkac
def f'.pins_of QAB(h:∀p∈a,s.ρ.Ξ p.1=δ p.2/\H p.1=ε/\p.1≠X.fN.hl/\p.1∉X.fs/\∀v,p.2.mY≠.aQ v):f'XaσH s:=
 (I.ok,I.os,I.pH,I.υ,I.loc,I.aQ,I.VC,I.freeC,λpb5=>(lp.mp b5).Q5 (λz=>I.pin p^XS_z)^hp,I.rv,I.eN)
def VN QVS(c:N.qg){ij:χ}(a:N[i]?<*x)(b:N[j]?<*x):i=j:=by
 let(h1,e):=m9a;let(h2,d):=m9b;show(getElem_inj! c).mp^e.ξ d.UH
def gq! QAB QN0(U:X.N[i]?<*x)(B:yJ X.fN.g8 x)QI2(h:∀s',f'XaIQOUH s'->(∃a,zNa s.ρ s'.ρ/\(a=X.fN.hl\/X.fN.XL.ς x<*a))->Q () s')(hf:QA3>>>8):lZM AQRIQ E s:=by
 let(m,g9,eG):=id I.loc;let W:(X.fN.g8.XA==.class||(X.fN.g8.XA==.module&&X.fN.hl != X.fN.globals))=ν:=by rw[I.ok.XA];rfl
 let J:i<σ.β:=by rw[I.eN];show(m9U).1
 let R:=I.cne;let g:∀QJB{h':n3},(∃o,s.ρ.Ξ a=δo/\Ha=ε)->zNa s.ρ h'->y' X.Ω X.w Hh':=λ{ah'}eMfbeAe=>by
  let(_,_,C):=eM;show(I.rv beAe).Zx (λcw'tq=>(f.2 c ?_).ξ q) QKF λ__q=>q;rintro ζ;rcases t with ζ|t
  .rw [C]at e;cases e
  .rw [C]at t;cases t
 rcases B with F|F
 .refine wpAny_storeName_local! Fg9 (λh'eFf=>?_) W;let(oL!,_,_,ab,_):=id g9;show h_ (I.ok,I.os,I.pH,QCe,(_,eF,λjyv'lDe3=>?_),λyce=>?_,I.VC,I.freeC,λpb5=>?_,g (oL!,ab,I.VC) f,by simpa using I.eN) (_,f,.UR ζ)
  .exact (f.2 b^p8QEP).ξ QP4
  .obtain ⟨vU,l⟩:=I.υ.slot boen PB;show(vU,(f.2 b^p8QEP).ξ l)
  .obtain ⟨o',l⟩:=I.υ.Xq boeB;show(o',(f.2 b^p8QEP).ξ l)
  .by_cases L:j=i
   .subst L;rw[U]at l;cases l;rw[γ.getElem?_set_self J]at D;cases D;show(u,r,.UR (F,!1))
   .rw [γ.getElem?_set_ne^Ne.UH L]at D;let(RN,r',q):=eGjyv'lDe3;show(RN,r',3);rcases q with⟨k,e⟩|⟨k,c,e,z⟩
    .refine .UR (k,3);have:y≠x:=λe=>L^VNJAl (e▸U);simp[this,e]
    .exact .P2 (k,c,e,z.sameBut f^Ryce)
  .obtain ⟨w',z⟩:=I.aQ yce;show(w',z.sameBut f^Ryce)
  .obtain ⟨e,n,ne,l5,d⟩:=I.pin pb5;show((f.2 p.1 ne).ξ e,n,ne,l5,d)
 .let O:X.fn x=π:=by
   rcases hf with z|z
   .exact z
   .rw [z]at F;cases F
  let(c,t):=I.ok.A7 x^.UR F;let(w',z):=I.aQ xct;show wpAny_storeName_cell! I.ok.XA Ftz (λh'Zf=>?_);let(uF,T,S):=id z;show h {s with ρ:=h'} (I.ok,I.os,I.pH,QCe,(m,g9.sameBut f^Ne.UH^Rxct,λjyv'lDe3=>?_),λyc'e=>?_,I.VC,I.freeC,λpb5=>?_,g (uF,T,I.freeC xct) f,by simpa using I.eN) (c,f,.P2 t)
  .exact (f.2 bQDq).ξ QP4
  .obtain ⟨vU,l⟩:=I.υ.slot boen PB;show(vU,(f.2 bQDq).ξ l)
  .obtain ⟨o',l⟩:=I.υ.Xq boeB;show(o',(f.2 bQDq).ξ l)
  .by_cases L:j=i
   .subst L;rw[U]at l;cases l;rw[γ.getElem?_set_self J]at D;cases D;show(u,r,.P2 (.UR F,c,t,Z))
   .rw [γ.getElem?_set_ne^Ne.UH L]at D;let(RN,r',q):=eGjyv'lDe3;show(RN,r',3);rcases q with q|⟨k,c',e,TQ!⟩
    .exact .UR q
    .refine .P2 (k,c',e,TQ.sameBut f ?_);rintro ζ;show L^VNJAl (I.ok.WZ ___et▸U)
  .by_cases Y:c'=c
   .subst Y;show(_,Z)
   .obtain ⟨w2,z2⟩:=I.aQ yc'e;show(w2,z2.sameBut f Y)
  .obtain ⟨e,n,ne,l5,d⟩:=I.pin pb5;show((f.2 p.1 ?_).ξ e,n,ne,l5,d);intro q;rw[q,T]at e;let q':uF=p.2:=ψ.δ.WZ e;show dw' (by rw[<-q'];show S)
def RT QAB(d:X.N.qg)(b:X.N[i]?<*x)(a:yJ X.fN.g8 x)QI2(h:∀s',f'XaIQOUH s'->Q () s')(c:QA3>>>8):lZM AQRIQ E s:=
 gq! I d b a r (λs'e_=>h s'e) c
def f'.call' QAB(g:s'.os=s.os)(u:rJQCN ch HH' s.ρ s'.ρ)(a:y' X.Ω X.w H' s'.ρ)(h:AllBare! s'.PF)(d:∀b∈ch,QCS/\b≠X.fN.hl/\QBl/\∀p∈X.pn++aI,p.1≠b):f'XaIσH's':=by
 let(h',g',d',t',f):=s';let e:f=s.os:=g;subst e;show I.wG (g':=g') (t':=t') (d':=d') uahd
end
@[reducible]def r3:=Value->Option (Addr×Bool)->m1->Prop
@[reducible]def St:=List (Option V)
@[reducible]def oE:=V->m1->Prop
@[reducible]def TE:=St->m1->oE->Prop
@[reducible]def TT:=St->m1->(Bool->m1->Prop)->Prop
@[reducible]def w4:=St->m1->(List V->m1->Prop)->Prop
structure Ends where
 pO:St->m1->Prop
 CF:oE
 hU:St->m1->Prop:=λ__=>oA
 ct:St->m1->Prop:=λ__=>oA
@[reducible]def oW:=Ends->St->m1->Prop
inductive xW QDl QAK QCC QAR QVK QLV:Prop
 |mk (vH':_) QIa (_:nTvu) (_:Qv H')
inductive Q8 QDl QAK QCC QGD QKD QLV:Prop
 |mk (H':_) QIa (_:Qb H')
inductive c_! QDl QAK QCC(Q:γ V->m1->Prop)QEY QLV:Prop
 |mk (vsH':_) QIa (_:oGvsus) (_:Q vsH')
def xW.jW{G:Prop}(h:xWXaIσQu s')(g:∀vH',f'XaIσH's'->nTvu->Qv H'->G):G:=by
 let(a,b,c,d,e):=h;show gabcde
def c_.jW{G:Prop}(h:c_! XaIσQu s')(g:∀vH',f'XaIσH's'->oGvu->Qv H'->G):G:=by
 let(a,b,c,d,e):=h;show gabcde
abbrev SP QDl QAK QM0(f:Flow!)QLV:Prop:=
 match f with
 |.next=>∃σ'H',f'XaIσ'H's'/\D.pO σ'H'
 |.brk=>∃σ'H',f'XaIσ'H's'/\D.hU σ'H'
 |.cont=>∃σ'H',f'XaIσ'H's'/\D.ct σ'H'
 |.ret u=>∃vσ'H',f'XaIσ'H's'/\nTvu/\D.CF vH'
abbrev mP QDl(e:bI)(t:TE):Prop:=
 ∀QAKQCDQCCQAHQAR,f'XaIσH s->tσHQ->lZQAA X.A QFNQC0 X.xe s
abbrev vI QDl(e:bI)(t:TT):Prop:=
 ∀QAKQCDQCCQAHQGD,f'XaIσH s->tσHQ->lZQAA X.A (isTrue! e X.fN QFN) QNJ X.xe s
abbrev PW QDl(e:bI)(t:TT):Prop:=
 ∀(whole!:Sem η)QAKQCDQCCQAHQGD,f'XaIσH s->tσHQ->lZQAA X.A (isTrue! e X.fN whole!) QNJ X.xe s
def PW.pt(h:PWXet):vIXet:=h_
abbrev qT QDl(es:γbI)QHR:Prop:=
 ∀(b8:nV)QAKQCDQCC QAH(Q:γ V->m1->Prop),f'XaIσH s->tσHQ->lZQAA X.A (spliced!^pNb8QFr) (c_! XaIσQ) X.xe s
abbrev w0 QDl QTA(t:oW):Prop:=
 ∀QAKQCDQCCQAHQM0,f'XaIσH s->tDσH->lZQAA X.A (exec! st X.fN) QL4 X.xe s
abbrev tR QDl(st:γcZ)(t:oW):Prop:=
 ∀QAKQCDQCCQAHQM0,f'XaIσH s->tDσH->lZQAA X.A (execs! st X.fN) QL4 X.xe s
def nb{t:Sem c}{Qb:c->Θ->Prop}(h:lZM AtQ E s)(d:∀a s,Qa s->ba s):lZM Atb E s:=pWhd λ__x=>x
section
variable{X:n8}
abbrev aG QAu QCC QAH QAR:Prop:=match σ[i]? with
 |δ QFq=>Qv H
 |_=>oA
def aG.of(e:a[i]?<*δv)(q:Qv H):aGiaHQ:=by
 unfold aG;rw[e];show q
def aG.gT(h:aGiaHQ):∃v,a[i]?=δQFq/\Qv H:=by
 unfold aG at h;rcases e:a[i]? with _|_|v<;>rw[e]at h
 .exact oA.Q5 h
 .exact oA.Q5 h
 .exact (v,0,h)
abbrev tC(v:V):TE:=λ_HQ=>Qv H
def dz!{b8:nV}(w:X.N[i]?<*x)(o:Hs X.fN.g8 x)(g:((x==("__debug__":bE))=ν)>>>0)(j:((x==("__classdict__":bE))=ν)>>>0):mPXQFKQP5:=by
 intro f s nHQ Ih;let(v,e,h):=h.gT;let(m,p,t):=I.loc;let(u,r,l):=tixvweo;let d:xWXfnQu s:=QRw;rcases l with⟨b,q⟩|⟨b,c,k,a⟩
 .exact wpAny_Name! (wpAny_loadName_local! I.ok.XA bpqd) g
 .rcases b with b|b
  .exact wpAny_Name! (wpAny_loadName_cell! I.ok.XA bkad) g
  .exact wpAny_Name! (wpAny_loadName_free! I.ok.XA bkadj) g
def mV{ijb8}:mPX (.Constant QKGjb8)^tC QKG:=λ___H_ Ih=>wpAny_Constant_int! (.tV i,H,I.y4 _,(_,0),h)
def CR{bjb8}:mPX (.Constant (.bC b) jb8)^tC QGI:=λ___H_ Ih=>Constant_bool! (.dW b,H,I,0,h)
def GE{jb8}:mPX (.Constant .ε jb8)^tC .vS:=λ___H_ Ih=>Constant_none! (.vS,H,I,0,h)
def j5{xjb8}:mPXQRJ^tC QHd:=λ___H_ Ih=>YL.Constant_str (.uM x,H,I.y4 _,(_,0),h)
abbrev pU QDl QFJ:Prop:=X.fN.F6 x<*.globalImplicit
def CG{b:St}QLs(d:pUXx)(c:X.mg x<*u)(h:Qu s)(e:((x==("__debug__":bE))=ν)>>>0):lZQAA X.A (oFQFK X.fN) Q E s:=
 YL.Name_function_global I.ok.XA d (YL.loadGlobal_global (by rw[I.ok.glob];show I.mod.glob.hL I.hU) c h) e
def CJ QD7{b:St}{b8:nV}QLs(f:pUXx)(e:X.mg x=ε)(c:Y2x<*u)(h:Qu s)(d:(x≠"__name__")>>>0)(g:((x==("__debug__":bE))=ν)>>>0):lZQAA X.A (oFQFK X.fN) Q E s:=by
 let(i,h1,h2):=I.mod.blt;show YL.Name_function_global I.ok.XA f (YL.loadGlobal_builtin (by rw[I.ok.glob];show I.mod.glob.hL I.hU) e (by rw[I.ok.blt];show h1.hL I.hU) ((h2xd).ξ c) h) g
def GF(b:pUXx)(a:X.mg x<*u)QI2(c:((x==("__debug__":bE))=ν)>>>0):mPXQFK^tC v:=
 λ___H_ Ih=>CGIbaQRwc
def XU{b8:nV}(d:pUXx)(c:X.mg x=ε)(a:Y2x<*u)QI2(b:(x≠"__name__")>>>0)(e:((x==("__debug__":bE))=ν)>>>0):mPXQFK^tC v:=
 λ___H_ Ih=>CJIdcaQRwbe
variable{a b:bI}{bWdE:TE}{b8:nV}
instance S6 QGD(x:V)QD4:Prop:=match x with
 |.dW c=>Qc H1
 |_=>oA
def S6.gT(h:S6Qx d):∃c,x=.dW c/\Qc d:=by
 cases x<;>first|show(2,h)|show h.Q5
abbrev tB(t:TE):TT:=λσHQ=>tσH^S6Q
def qY(h:mPXet)(k:(∀c,isTrue! e X.fN c=(do let v <-c;standAt! e.b8;holding! [v] (truthy! v)))>>>7):vIXe^tB t:=by
 intro f siHQ I hw;show isTrue_plain! (nb (h f siH_ I hw) λvng=>?_)^k_;let(x,m,l,j,q1):=g;let(d,ζ,q):=S6.gT q1;cases j;show LM (m,l,q)
variable{tA tB'!:TT}{f6:γbI}
abbrev Ly!(tu:TT):TT:=λσHQ=>tσH λcH1=>if c=π then uσH1Q else Qν H1
abbrev aq!(tu:TT):TT:=λσHQ=>tσH λcH1=>if c=π then Qπ H1 else uσH1Q
abbrev Em!(t:TT):TT:=λσHQ=>tσH λcH1=>Q (!c) H1
def XP(g:vIXatA):PWX (.BoolOp .And [a] b8) tA:=by
 intro i d sfHQ Ih;show isTrue_and! QI3;cases c with
 |π=>show isTrue_and_nil! e
 |ν=>show e
def xO(g:vIXatA):PWX (.BoolOp .Or [a] b8) tA:=by
 intro i d sfHQ Ih;show isTrue_or! QI3;cases c with
 |ν=>show isTrue_or_nil! e
 |π=>show e
def U6(m:vIXatA)(l:PWXQNK tB'!):PWXQLY^Ly! tA tB'!:=by
 intro jd sfHQ Ih;show isTrue_and! QRK;let(i,g,q1):=e;cases c with
 |π=>show ljdkfiQg q1
 |ν=>show(i,g,q1)
def tG(m:vIXatA)(l:PWXQN1 tB'!):PWXQL5^aq! tA tB'!:=by
 intro jd sfHQ Ih;show isTrue_or! QRK;let(i,g,q1):=e;cases c with
 |π=>show(i,g,q1)
 |ν=>show ljdkfiQg q1
def tY(i:vIXatA):vIXQRL^Em! tA:=by
 intro d sgHQ Ih;show isTrue_not! (nb (i d sgH (λcf=>Q (!c) f) Ih) λc s'e=>by let(f,j,q):=e;show(f,j,q))
inductive FL! QLD QCC QAR(x:V)QD4:Prop
 |mk (c:_) QUH (_:if c=π then dEσH1Q else Q QTBH1)
abbrev Yp! QLD:TE:=λσHQ=>bWσH^FL! bWdEσQ
inductive Ic! QLD QCC QAR(x:V)QD4:Prop
 |mk (c:_) QUH (_:if c=π then Q QLZH1 else dEσH1Q)
abbrev Lz! QLD:TE:=λσHQ=>bWσH^Ic! bWdEσQ
inductive De! QAR(x:V)QD4:Prop
 |mk (c:_) QUH (_:Q (.dW (!c)) H1)
abbrev ez!(bW:TE):TE:=λσHQ=>bWσH^De! Q
def HT{e}(h:mPXat):mPX (.BoolOp e [a] b8) t:=λc sdHQ I hw=>BoolOp_one!^hc sdHQ I hw
def D2 QRo(l:mPXQNKdE):mPXQLY^Yp! bWdE:=by
 intro d sfHQ Ih;show BoolOp_and! QRM;let(x,i,g,k,q1):=e;let(c,ζ,q1):=q1;cases k;show LM ?_;cases c with
 |π=>show ldjfiQg q1
 |ν=>show(.dW ν,i,g,0,q1)
def cH! QRo(l:mPXQN1dE):mPXQL5^Lz! bWdE:=by
 intro d sfHQ Ih;show BoolOp_or! QRM;let(x,i,g,k,q1):=e;let(c,ζ,q1):=q1;cases k;show LM ?_;cases c with
 |ν=>show ldjfiQg q1
 |π=>show(.dW π,i,g,0,q1)
def RY(i:mPXabW):mPXQRL^ez! bW:=by
 intro d sfHQ Ih;show UnaryOp_! (nb (i d sfH_ Ih) λvle=>?_);let(x,k,j,g,q1):=e;let(c,ζ,q1):=q1;cases g;show not_of!^LM (.dW (!c),k,j,0,q1)
abbrev q_!(t:TT)QLD:TE:=λσHQ=>tσH λcH1=>if c=π then bWσH1Q else dEσH1Q
def BH!(l:vIXctA)(n:mPXabW)(m:mPXbdE):mPX (.IfExp c a bb8)^q_! tAbWdE:=by
 intro e sfHQ Ih;show wpAny_IfExp! (nb (l e sfH_ Ih) λdig=>?_);let(k,j,q1):=g;cases d with
 |π=>show n eifkQj q1
 |ν=>show meifkQj q1
end
abbrev pG QAw QAH QCw QCR:Prop:=
 nY H a QEh \/
  ∃(o:pZ)(eE:pVη)(n:χ),K.ς a=δo/\o.dM=.TB "list"/\o.wF=ε/\o.mY=.Yv eEn/\eE.fC≤Φ/\oGxs eE.Zh
abbrev n' QAw QAH QCw QCR:Prop:=
 nY H a QFL \/
  ∃(o:pZ)(eE:pVη)(n:χ),K.ς a=δo/\o.dM=.TB "tuple"/\o.mY=.Yv eEn/\eE.fC≤Φ/\oGxs eE.Zh
abbrev qD!:η->ψ V
 |.ε=>δ .vS
 |.bC b=>δQGI
 |.tV i _=>δQKG
 |.uM x _=>δQHd
 |.bytes b _=>δ^.byt b
 |.float b _=>δ^.flt b
 |.ο a=>δQAe
 |.TB n=>δ^.ty n
 |_=>ε
def nT.abs(r:nTxu):qD! u<*x:=by
 cases x with
 |vS=>cases r;rfl
 |dW _=>cases r;rfl
 |tV _=>let(t,ζ):=r;rfl
 |uM _=>let(t,ζ):=r;rfl
 |byt _=>let(t,ζ):=r;rfl
 |flt! _=>let(t,ζ):=r;rfl
 |ο _=>cases r;rfl
 |ty _=>cases r;rfl
def nT.WZ(r:nTxu)(q:nTyu):x=y:=ψ.δ.WZ^r.abs.UH.ξ q.abs
def oG.WZ{xsys:γ V}QCE QHQ(k:oGysus):xs=ys:=by
 induction h generalizing ys with
 |nS=>cases k;rfl
 |nF r t i=>cases k with|nF a b=>rw[r.WZ a,ib]
section
variable{X:n8}{aI:γQA8}{σ:St}{H:m1}{s:Θ}{a:θ}{xsys:γ V}
def pG.of QC1(h:Ha<*.P' xs):pGKHaxs:=.UR^.UR h
def n'.of QC1(h:Ha<*.iT xs):n'KHaxs:=.UR^.UR h
def f'.oh QAB(h:pG X.K Haxs):∃eE:γη,oGxseE/\PlainL! s.ρ a eE.Λ/\xs.β≤Φ:=by
 rcases h with h|⟨o,eE,n,c,f,d,b,hz,r⟩
 .obtain ⟨z,eE,n,r,e⟩:=h.ok I.rv;show(eE,r,(_,n,e,5,0),z)
 .refine (eE.Zh,r,(o,n,I.kIn aoc,f,d,by simpa using b),3);let e:=r.β;simp only[IF]at e;show FFe hz
def f'.Xp QAB(h:n' X.K Haxs):∃eE:γη,oGxseE/\IsTup! s.ρ a eE.Λ/\xs.β≤Φ:=by
 rcases h with h|⟨o,eE,n,c,d,b,hz,r⟩
 .obtain ⟨z,eE,r,p⟩:=h.ok I.rv;show(eE,r,p,z)
 .refine (eE.Zh,r,(o,I.kIn aoc,d,n,by simpa using b),3);let e:=r.β;simp only[IF]at e;show FFe hz
def f'.list_inj QAB(h:pG X.K Haxs)(h':pG X.K Hays):xs=ys:=by
 let(eE,r,(o,n,e,_,_,d),_):=I.oh h;let(its',b,(c,f,e',_,_,d'),_):=I.oh h';rw[e]at e';cases e';rw[d]at d';injection d' with d1 _;have:eE=its':=by simpa using oR pV.Zh d1
 subst this;show r.WZ b
def f'.tuple_inj QAB(h:n' X.K Haxs)(h':n' X.K Hays):xs=ys:=by
 let(eE,r,(o,e,_,n,d),_):=I.Xp h;let(its',b,(c,e',_,f,d'),_):=I.Xp h';rw[e]at e';cases e';rw[d]at d';injection d' with d1 _;have:eE=its':=by simpa using oR pV.Zh d1
 subst this;show r.WZ b
end
instance n8.wish QDl QBO:n8:={X with xe:=E}
instance n8.nox QDl:n8:=X.wish λ__=>oA
def n8.Ok.wish QVT(ok:X.Ok)QBO:(X.wish E).Ok:=
 (ok.mod,ok.XA,ok.glob,ok.blt,ok.above,ok.WZ,ok.A7,ok.cab,ok.hd,ok.Xe,ok.stk,ok.exf,ok.bs,ok.bsz,ok.noex,ok.exfs,ok.funs,ok.frf)
def n8.Ok.Z_ QVT(ok:(X.wish E).Ok):X.Ok:=
 (ok.mod,ok.XA,ok.glob,ok.blt,ok.above,ok.WZ,ok.A7,ok.cab,ok.hd,ok.Xe,ok.stk,ok.exf,ok.bs,ok.bsz,ok.noex,ok.exfs,ok.funs,ok.frf)
section
variable{X:n8}{aI:γQA8}{σ:St}{H:m1}{s:Θ}{E:η->Θ->Prop}
def f'.wish QAB QBO:f'QURaIσH s:=(I.ok.wish E,I.os,I.pH,I.υ,I.loc,I.aQ,I.VC,I.freeC,I.pin,I.rv,I.eN)
def f'.Z_(I:f'QURaIσH s):f'XaIσH s:=(I.ok.Z_,I.os,I.pH,I.υ,I.loc,I.aQ,I.VC,I.freeC,I.pin,I.rv,I.eN)
def SP.Z_(h:SPQURaIDf s'):SPXaIDf s':=by
 cases f with
 |next=>let(a,H',I,q):=h;show QRN
 |brk=>let(a,H',I,q):=h;show QRN
 |cont=>let(a,H',I,q):=h;show QRN
 |ret u=>let(v,a,H',I,r,q):=h;show(v,a,H',I.Z_,r,q)
def tR.nox{st:γcZ}(h:tR X.nox st t):tRX st t:=λaIsσHD I hw=>
 pW (haIsσHDQN2 hw) (λ__q=>q.Z_) λ__z=>oA.Q5 z
end
section
variable{X:n8}{st:cZ}{f6:γcZ}{tu:oW}{e:bI}{eJ:TE}{b8:nV}
abbrev u9:oW:=λDσH=>D.pO σH
abbrev v8(tu:oW):oW:=λDσH=>t {D with pO:=uD} σH
def m8:tRX [] u9:=λ__aH_ Ih=>YZ (a,H,I,h)
def lW QPw(h2:tRXf6u):tRX (st::f6)^v8tu:=by
 intro a s cHD Ih;show Z8 (nb (h1a s cH {D with pO:=uD} Ih) λf dq=>?_);cases f with
 |next=>
  let(b,H',g,q):=q;show h2adbH'Dgq
 |ret v=>show q
 |brk=>show q
 |cont=>show q
def hF QPw:tRX [st] t:=by
 intro a sbHD Ih;show Z8 (nb (h1a sbHD Ih) λfcq=>?_);cases f with
 |next=>show YZq
 |ret v=>show q
 |brk=>show q
 |cont=>show q
abbrev tBreak!:oW:=λDσH=>D.hU σH
def mv!:w0X (.Break b8) tBreak!:=λ__aH_ Ih=>wpAny_Break! (a,H,I,h)
def f'.quiet{b:St}QLs:interactive! X.fN=ν:=by simp[interactive!,I.ok.XA]
abbrev NX! QRp:oW:=λDσH=>eJσH λ_H1=>D.pO σH1
def rW(f:mPXeeJ)(d:(Z'eε b8.Zm X.fN=pure ν)>>>4):w0X (.bI eb8)^NX! eJ:=by
 intro a s cHD Ih;show wpAny_Expr_any! (nb QUS λvjb=>by let(x,i,g,k,q1):=b;show(c,i,g,q1)) I.quiet d
abbrev H3 QRp:oW:=λDσH=>eJσH D.CF
def k9(f:mPXeeJ):w0X (.Return (δe) b8)^H3eJ:=by
 intro a s cHD Ih;show wpAny_Return_some! (nb QUS λvjb=>by let(x,i,g,d,q1):=b;show(x,c,i,g,d,q1))
abbrev LB!(c:TT)(tu:oW):oW:=λDσH=>cσH λbH1=>if b=π then tDσH1 else uDσH1
def mS(m:vIXch5)(o:tRXat)(n:tRXbu):w0X (.If c a bb8)^LB! h5tu:=by
 intro f sgHD Ih;show wpAny_If! (nb (mf sgH_ Ih) λdji=>?_);let(l,k,q1):=i;cases d with
 |π=>show ofjglDkq1
 |ν=>show nfjglDkq1
abbrev tNever!:oW:=λ___=>oA
def Kv!:w0X st tNever!:=λ______h=>h.Q5
end
@[reducible]def TG:=V->St->m1->(St->m1->Prop)->Prop
@[reducible]def TGs:=List V->St->m1->(St->m1->Prop)->Prop
abbrev PG QDl(target!:bI)(t:TG):Prop:=
 ∀QAKQCDQCC QAH(v:V)QVKQNF,f'XaIσH s->nTvu->tvσHQ->
  lZ QAA X.A (assign target! X.fN u) QGJ X.xe s
abbrev W6 QDl(ts:γbI)(t:TGs!):Prop:=
 ∀QAKQCDQCCQAHQAJQEYQNF,f'XaIσH s->oGvsus->tvsσHQ->
  lZ QAA X.A (assignInOrder! ((assignEach! ts X.fN).Tx QBu) us) QGJ X.xe s
@[reducible]def th:=V->V->V->m1->(m1->Prop)->Prop
abbrev W7 QDl(t:th!):Prop:=
 ∀QAKQCDQCC QAH(oiv:V)(kY iv! u:η)QNL,f'XaIσH s->nTokY->nTi iv!->nTvu->t oivHQ->
  lZ QAA X.A (setItem! kY iv! u) (λ_ s'=>∃H',f'XaIσH's'/\Q H') X.xe s
section
variable{X:n8}{b8:nV}
abbrev rZ QAu:TG:=λvσHQ=>Q QOUH
def XT(e:X.N.qg)(c:X.N[i]?<*x)(b:yJ X.fN.g8 x)(d:QA3>>>8):PGXQFK^rZi:=by
 intro a sgHvuQ Irh;show wpAny_assign_Name!^RTIecbr (λs'f=>(_,H,f,h)) d
abbrev gNil!:TGs!:=λvsσHQ=>vs=[]/\Qσ H
abbrev YB!(t:TG)(u:TGs!):TGs!:=λvsσHQ=>∃vr,vs=v::r/\tvσH λσ'H'=>urσ'H'Q
def HV:W6X [] gNil!:=by
 intro a sbHvsusQ Irh;let(e,h):=h;subst e;cases r;show assignInOrder_nil! (b,H,I,h)
def wM(h1:PGXet)(h2:W6Xdu)(j:((assignEach! (e::d) X.fN).Tx QBu=assign e X.fN::(assignEach! d X.fN).Tx QBu)>>>4):W6X (e::d)^YB! tu:=by
 intro a sfHvsusQ Irh;let(v,n,k,h):=h;subst k;cases r with
 |nF r i=>
  rw[j];show assignInOrder_cons! (nb (h1a sfH___ Irh) λ_gc=>?_);let(b,m,l,q1):=c;show h2agbm__Ql iq1
inductive Yw! QAw QCv(t:TGs!)(v:V)QCC QAH QNF:Prop
 |mk QVU (_:v=.ο a) (_:n'KHaxs) (_:xs.β=n) (_:txsσHQ)
def FM{k:χ}(q:X.TN=π)(h:W6Xdt)(m:((assignEach! d X.fN).β=n)>>>4)(eZ:((assignEach! d X.fN).findIdx? QBA=ε)>>>4):PGX (.Zv dkb8)^Yw! X.K nt:=by
 intro c sfHvuQ Ir hw;let(a,xs,w,l,p,hw):=hw;subst w;cases r;let(eE,g,j,hz):=I.Xp l;show assign_Tuple_tuple! (I.ok.hd q) j (by simp[m,<-p,g.β]) eZ λh'i=>?_;let x:f'XcfH {s with ρ:=h'}:=I.Zo (t':=s.mU) λboe=>iboQGse;show hc_fHxs_Qx (by simpa using g) hw
abbrev LC!(to cS:TE)(t:th!):TG:=λvσHQ=>to σH λoH1=>cSσH1 λibF=>t oivbF λbJ=>Qσ bJ
def XB!(q:mPXo to)(w:mPXij)(p:W7Xt)(z:(∀v,assign (.Subscript oib8) X.fN v=(do
   let b <-holding! [v] QRx
   let c <-holding! [v,b]^oFi X.fN
   standAt! b8
   holding! [v,b,c] (setItem! bcv)
   release! [v,b,c] []))>>>7):PGX (.Subscript oib8)^LC! to jt:=by
 intro a sdHvuQ Irh;rw[z];show lT (tO^nb (qa sdH_ Ih) λbkf=>?_);let(x,F,C,m,q1):=f;show lT (tO^nb (w akd F_Cq1) λc s2e=>?_);let(y,E,B,l,q2):=e;show lT (F9^lT^tO^nb (p a s2d Exyvbcu_Bmlrq2) λ_ Jg=>?_);let(D,A,n):=g;show wpAny_release! (d,D,A,n)
abbrev aR QRp(g:TG):oW:=λDσH=>eJσH λxH1=>g xσH1 D.pO
def GG(m:mPXef)(l:PGXbg)(k:(swapsWithSole! [b] e b8.Zm X.fN=pure ν)>>>4)(hw:(swappedStores! [b] e X.fN=pure ε)>>>4)(h1:((assignEach! [b] X.fN).Tx QBu=[assign b X.fN])>>>4):w0X (.Assign [b] eb8)^aRfg:=by
 intro a sdHD Ih;show wpAny_Assign_stores! (nb (ma sdH_ Ih) λvic=>?_) k hw;let(x,o,n,j,q1):=c;rw[h1];show nb (laidoxv_njq1) λ_ s2q=>q
def pw!(o:X.N.qg)(l:X.N[i]?<*x)(j:yJ X.fN.g8 x)(n:mPXef)(k:(Z'e (δ^.Ip xa) b8.Zm X.fN=pure ν)>>>4)(m:QA3>>>8):w0X (.Assign [.Ip xa] eb8)^aRf^rZi:=by
 intro b sdHD Ih;show wpAny_Assign_Name! (nb (n b sdH_ Ih) λvtc=>?_) k;let(y,r,q,g,q1):=c;show RTqoljg (λs2p=>(_,r,p,q1)) m
abbrev vo!(c:TT)(dE:oW):oW:=λDσH=>∃W:χ->St->m1->Prop,(∃m,WmσH)/\∀mσH,WmσH->
 c σ H λbH1=>if b=π then ∃N:St->m1->Prop,(∀σ'H',Nσ'H'->∃m',m'<m/\Wm'σ'H')/\dE {D with pO:=N,ct:=N,hU:=D.pO} σH1 else D.pO σH1
def W8 QPX(M:vIXch5)(O:tRXj F):w0X (.While cj [] b8)^vo! h5F:=by
 intro d s BHD Ih;let(W,(L,E),i):=h;show wpAny_While! (codeAny_whileLoop! (λn s'=>∃gH',f'XdgH's'/\WngH') ?_ L (B,H,I,E));rintro n J⟨e,z,P,C⟩;show P6b5 (nb (Md Jez_ P^i n ezC) λb s2r=>?_);let(y,x,q2):=r;cases b with
 |π=>
  let(N,u,q2):=q2;rw[mGζ];show P6b5 (nb (Od s2ey_xq2) λfQl=>?_);cases f with
  |next=>
   let(a,k,t,o):=l;let(p,q,m):=uako;show(p,q,a,k,t,m)
  |cont=>
   let(a,k,t,o):=l;let(p,q,m):=uako;show(p,q,a,k,t,m)
  |brk=>show l
  |ret v=>show l
 |ν=>
  rw[mF b9.UF];show YZ (e,y,x,q2)
end
structure zI where
 go:χ->m1->Prop
 yld!:χ->m1->V->m1->Prop
 lP:χ->m1->Prop
abbrev aY QDl QAK QAH QV1:Prop:=
 H b=ε/\b≠X.fN.hl/\b∉X.fs/\QCS/\QBl/\∀p∈X.pn++aI,p.1≠b
def f'.fpOk{f:St}QBG(I:f'XafH s)(d:s⁻¹≤b)(g:H'b=ε):aYXaH'b:=by
 show(g,IT^pP I.lt d,I.nofs d,.P2^n5 I.sz d,λxcez=>?_,λpb5z=>?_)
 .obtain ⟨v,q⟩:=I.aQ xce;show mW (pP q.lt^by rw[z];show d) QD_
 .exact mW (pP (oN (I.pin pb5).1)^by rw[z];show d) QD_
structure H2 QLB QBg QAw(dV:bI)(J:zI)QUT QRy(vV:χ->n3->Prop):Prop where
 mem:it∈bN
 obj:∀ih,vVih->∀b∈bN,∃o,h.Ξ b=δo/\∀v,o.mY≠.aQ v
 AP:∀ihh',vVih->(∀b∈bN,∀o,h.Ξ b<*o->h'.Ξ b<*o)->vVih'
 item:∀QDl,X.Ω=P->X.w=w->X.K=K->X.TN=π->∀QAuQAKQCDQCCQAHQBO,f'XaIσH s->QOV->vVi s.ρ->J.go iH->
  lZ (oPPw) X.A (BW^.ο it) (λr s1=>∃u,r=δu/\
   lZ (oPPw) X.A (letOwnedTupleGo! dV (.ο it) u) (λ_ s2=>∃xH',f'XaIσH's2/\nTxu/\J.yld iHxH'/\vV (i+1) s2.ρ/\∀b∈bN,H'b=ε) E s1) E s
 done:∀QDl,X.Ω=P->X.w=w->X.K=K->X.TN=π->∀QAuQAKQCDQCCQAHQBO,f'XaIσH s->QOV->vVi s.ρ->J.lP iH->
  lZ QBE X.A (BWQCb) (λr s1=>r=ε/\f'XaIσH s1) E s
 self:∀(A:o7)QAuQCDQE3QBO,vVi s.ρ->Q QCbs->lZQBEA (pyIter QCb) Q E s
@[reducible]def TI:=St->m1->(zI->m1->Prop)->Prop
inductive bX! QDl QAK QCC(dV:bI)QBn(itv!:η)(s2:Θ):Prop
 |mk QRy QUT (vV:χ->n3->Prop) (J:zI) QBe (_:itv!=.ο it) (_:f'XaIσH's2) (_:H2 X.Ω X.w X.K dVJbN it vV) (_:vV 0 s2.ρ) (_:(∀b∈bN,aYXaIH'b)) (_:R JH')
abbrev vZ QDl(dVqF:bI)(qJ:TI):Prop:=
 ∀QAKQCDQCCQAHQBn,f'XaIσH s->qJσH R->
  lZ QAA X.A (oFqF X.fN) (λv s1=>lZQAA X.A (pyIter v) (bX! XaIσdVR) X.xe s1) X.xe s
def NA{M:Model!}QRq(c:s.ρ.Ξ it<*o)(f:o.dM=.TB n)(e:o.mY=.xq vs)(d:["enumerate","zip","dict_itemiterator","dict_reverseitemiterator","odict_iterator","itertools.zip_longest","itertools.pairwise"].Hr n=ν)(a:Q () s):lZM A (letOwnedTupleGo! bQCbu) Q E s:=by
 unfold letOwnedTupleGo!;cases b<;>first
  |show mRa
  | (cases u<;>first
    |show mRa
    | (show lT (wpAny_load! c ?_)
       rw[f,e];change lZM A (if (["enumerate","zip","dict_itemiterator","dict_reverseitemiterator","odict_iterator","itertools.zip_longest","itertools.pairwise"].Hr n&&vs[0]?==δ^oV_)=π then _ else _) Q E s;rw[mF^by intro h;rw[d,b9.false_and]at h;cases h];show mRa))
abbrev FN QAw QCw:zI:=
 ⟨λiH=>∃xsx,pGKHaxs/\xs[i]?<*x,λiHxH'=>H'=H/\∀xs,pGKHaxs->xs[i]?<*x,λiH=>∃xs,pGKHaxs/\xs.β≤i⟩
abbrev O8 QAw QCw:zI:=
 ⟨λiH=>∃xsx,n'KHaxs/\xs[i]?<*x,λiHxH'=>H'=H/\∀xs,n'KHaxs->xs[i]?<*x,λiH=>∃xs,n'KHaxs/\xs.β≤i⟩
abbrev EO(lo:ω)QCv:zI:=(λi_=>i<n,λiHxH'=>H'=H/\x=.tV (lo+i),λi_=>n≤i)
def Er! QC1(a it:θ):H2PwK U (FNKa) [it] it (λih=>h.IsListIter it ai)  where
 mem:=by simp
 obj:=λih st bg=>by
  let e:b=it:=by simpa using g
  subst e;let(o,e,c,d):=st;show(o,e,λvz=>by rw[d]at z;cases z)
 AP:=λihh' st k=>st.at λoe=>k it (!1) oe
 item:=by
  intro Xt hw yLif s JH E Im st r;subst t hw y;let(xs,x,l,q):=r;let(eE,n,p,hz):=I.oh l;let(u,Q,N):=n.get q;let(F,D,R,C,B,A):=m it (!1);show wpAny_pyNext_list_item! st p.Xt (x:=u) QTC λh'j M=>?_;let T:f'Xf JH {s with ρ:=h'}:=I.T7 (t':=s.mU) QL6FDCB A;let(o,e,c,d):=id j;show(u,0,NA (s:={s with ρ:=h'}) ecd (!0) (x,H,T,N,(0,λysO=>by rw[I.list_inj Ol];show q),j,λbg=>(mbg).1))
 done:=by
  intro Xt hw yLif s JH E Im st r;subst t hw y;let(xs,l,q):=r;let(eE,n,p,hz):=I.oh l;let(F,D,R,C,B,A):=m it (!1);let W:=n.β;show wpAny_pyNext_list_end! (I.ok.hd L) st p.Xt (by simp;show L1Wq) λh'S=>(0,I.T7 (t':=s.mU) QPYFDCB A)
 self:=λ_____ st h=>wpAny_pyIter_listiter! st h
def bL! QC1(a it:θ):H2PwK U (O8Ka) [it] it (λih=>h.IsTupleIter it ai)  where
 mem:=by simp
 obj:=λih st bg=>by
  let e:b=it:=by simpa using g
  subst e;let(o,e,c,d):=st;show(o,e,λvz=>by rw[d]at z;cases z)
 AP:=λihh' st k=>st.at λoe=>k it (!1) oe
 item:=by
  intro Xt hw yLif s JH E Im st r;subst t hw y;let(xs,x,l,q):=r;let(eE,n,p,hz):=I.Xp l;let(u,Q,N):=n.get q;let(F,D,R,C,B,A):=m it (!1);show wpAny_pyNext_tuple_item! st (show s.ρ.Yn a eE.Λ from p) (x:=u) QTC λh'j M=>?_;let T:f'Xf JH {s with ρ:=h'}:=I.T7 (t':=s.mU) QL6FDCB A;let(o,e,c,d):=id j;show(u,0,NA (s:={s with ρ:=h'}) ecd (!0) (x,H,T,N,(0,λysO=>by rw[I.tuple_inj Ol];show q),j,λbg=>(mbg).1))
 done:=by
  intro Xt hw yLif s JH E Im st r;subst t hw y;let(xs,l,q):=r;let(eE,n,p,hz):=I.Xp l;let(F,D,R,C,B,A):=m it (!1);let W:=n.β;show wpAny_pyNext_tuple_end! (I.ok.hd L) st (show s.ρ.Yn a eE.Λ from p) (by simp;show L1Wq) λh'S=>(0,I.T7 (t':=s.mU) QPYFDCB A)
 self:=λ_____ st h=>wpAny_pyIter_tupleiter! st h
def Q7 QC1 QRy(lo:ω)QCv:H2PwK M (EO lo n) [it] it (λih=>IsRangeIter! h it (lo+(i:χ)*1) ((n:ω)-(i:χ)) 1)  where
 mem:=by simp
 obj:=λih st bc=>by
  let e:b=it:=by simpa using c
  subst e;show(_,st,λvz=>by
   let B:Data.xq _=Data.aQ v:=z;cases B)
 AP:=λihh' st k=>k it (!1) _ st
 item:=by
  intro Xl hw mjia syH E If st g;subst l hw m;let(x,u,F,r,q,p):=f it (!1);let W:=Walks.b_ (Ω:=X.Ω) (w:=X.w) QL7 it lo 1 n;show W.item i s__g st λvh'ADdC=>?_;let(t,ζ):=D;let L:f'XayH {s with ρ:=h',mU:=A}:=I.T7 (λboce=>CboQJFe) xurqp;show(2,NA (s:={s with ρ:=h',mU:=A}) (n:="range_iterator") dζζ (!0) (.tV (lo+i),H,L,(t,3),(0,0),d,λbc=>(fbc).1));rw[ω.mul_one]
 done:=by
  intro Xl hw mjia syH E If st g;subst l hw m;let(x,u,F,r,q,p):=f it (!1);show wpAny_pyNext_range_end! QL7 st (by have:n≤i:=g;show Gm! this) λh'J=>(0,I.T7 (t':=s.mU) (λboce=>Jboce) xurqp)
 self:=λ_____ st h=>wpAny_pyIter_rangeiter! st h
section
variable{X:n8}{dV:bI}
inductive WX! QAw QBn(x:V)QD4:Prop
 |mk (a:_) QEq (_:(∃xs,pGKH1axs)) (_:R (FNKa) H1)
abbrev LL! QAw(fS:TE):TI:=λσH R=>fSσH^WX! K R
inductive E_! QAw QBn(x:V)QD4:Prop
 |mk (a:_) QEq (_:(∃xs,n'KH1axs)) (_:R (O8Ka) H1)
abbrev LD! QAw(fS:TE):TI:=λσH R=>fSσH^E_! K R
def qz!(n:mPXlj):vZXdVl^LL! X.K j:=by
 intro c siH R Ih;show nb (nc siH_ Ih) λvdg=>?_;let(x,t,f,k,q1):=g;let(a,e,(xs,m),q):=q1;subst e;cases k;let(eE,u,p,hz):=f.oh m;show T9 p.Xt ?_;show(d⁻¹,[d⁻¹],7,t,0,f.Zo (t':=d.mU) λboe=>nN_e,Er! a_,QCO,λbr=>?_,q);let e:b=d⁻¹:=by simpa using r
 subst e;show f.fpOk QBFQOW
def DL!(n:mPXlj):vZXdVl^LD! X.K j:=by
 intro d siH R Ih;show nb (nd siH_ Ih) λvcg=>?_;let(x,t,f,k,q1):=g;let(a,e,(xs,m),q):=q1;subst e;cases k;let(eE,u,p,hz):=f.Xp m;show wpAny_pyIter_tuple! (show c.ρ.Yn a eE.Λ from p) ?_;show(c⁻¹,[c⁻¹],7,t,0,f.Zo (t':=c.mU) λboe=>nN_e,bL! a_,QCO,λbr=>?_,q);let e:b=c⁻¹:=by simpa using r
 subst e;show f.fpOk QBFQOW
def ml!{d:St}{lo a:ω}QLt(h1:-QP6≤lo)(h2:lo<2^62)(j:-QP6≤a)(i:a<2^62)(q:R (EO lo (a-lo).UD) H):lZQAA X.A (pyIter QAY) (bX! XcddVR) E {s with ρ:=s.ρ.Uu {dM:=.TB "range",mY:=.xq #[.tV lo t,.tV au,.tV 1 v]},mU:=g}:=by
 show wpAny_pyIter_range! (IsRange.new ..) (small_one! h1h2ji) ?_;let f:f'XcdH {s with ρ:=s.ρ.Uu {dM:=.TB "range",mY:=.xq #[.tV lo t,.tV au,.tV 1 v]},mU:=g}:=I.Zo λboe=>nN_e;show((s.ρ.Uu {dM:=.TB "range",mY:=.xq #[.tV lo t,.tV au,.tV 1 v]}).u_.fC,[(s.ρ.Uu {dM:=.TB "range",mY:=.xq #[.tV lo t,.tV au,.tV 1 v]}).u_.fC],7,H,0,
  f.Zo (t':=g) λboe=>nN_e,Q7 _ lo (a-lo).UD,3,λbh=>?_,q)
 .let l:lo+((0:χ):ω)*1=lo:=by simp
  let k:(((a-lo).UD:χ):ω)-((0:χ):ω)=Builtin.hh.rangeSize lo a 1:=by rw[rangeSize_one!];split<;>omega
  change IsRangeIter! __ (lo+((0:χ):ω)*1) ((((a-lo).UD:χ):ω)-((0:χ):ω)) 1;rw[l,k];show t8_ζ
 .let e:b=(s.ρ.Uu {dM:=.TB "range",mY:=.xq #[.tV lo t,.tV au,.tV 1 v]}).u_.fC:=by simpa using h
  subst e;show f.fpOk QBFQOW
inductive O_! QBn QAJ QD4:Prop
 |mk (j:ω) (_:vs=[.tV j]) (_:-QP6≤j) (_:j<2^62) (_:R (EO 0 j.UD) H1)
abbrev iK!(bW:w4):TI:=λσH R=>bWσH^O_! R
inductive ZX! QBn QAJ QD4:Prop
 |mk QOX (_:vs=[.tV i,.tV j]) (_:(-QP6≤i/\i<2^62/\-QP6≤j/\j<2^62)) (_:R (EOi (j-i).UD) H1)
abbrev Pa!(bW:w4):TI:=λσH R=>bWσH^ZX! R
def CN(m:pUX "range")(l:X.mg "range"=ε)(n:qTX [a] f)(k:QRz>>>4):vZXdV (.Wm (.Ip "range" p) [a] [] b8)^iK! f:=by
 intro b sdH R Ih;show Call_!^CJIml boot_range!^WC.Rows.Wx (nb (nb8b sdH_ Ih) λusuc=>?_) kζ;let(vs,v,o,i,q1):=c;let(j,e,q1,q2,q):=q1;subst e;cases i with
 |nF r g=>
  cases g;let(t,ζ):=r;show call_range_1! (ml! o Xj! Gu! q1q2^by simpa using q)
def JG QGn(x:pUX "range")(w:X.mg "range"=ε)(y:qTX [a,b] l)(v:(Ψ [a,b] X.fN=[QDB,(ν,oFb X.fN,)])>>>4)(d:(Ψ [b] X.fN=[(ν,oFb X.fN,)])>>>4):vZXdV (.Wm (.Ip "range" p) [a,b] [] b8)^Pa! l:=by
 intro c skH R Ih;show Call_! (CJIxw boot_range!^WC.Rows.Wx (nb (yb8c skH_ Ih) λusAg=>?_) (by rw[v,d])^by rw[d];rfl);let(vs,B,z,m,q1):=g;let(i,j,e,(q1,q2,u,o),q):=q1;subst e;cases m with
 |nF r f=>
  cases f with
  |nF n f=>
   cases f;let(t,ζ):=r;let(t',ζ):=n;show call_range_2!^ml! zq1q2uoq
abbrev Dn!(qJ:TI)(g:TG)(dE:oW):oW:=λDσH=>qJσH λJH1=>∃W:χ->χ->St->m1->Prop,(∃m,W 0 mσH1)/\∀imσH,WimσH->
 (J.lP iH/\D.pO σH)\/(J.go iH/\∃N:St->m1->Prop,(∀σ'H',Nσ'H'->∃m',m'<m/\W (i+1) m'σ'H')/\∀xH',J.yld iHxH'->g xσH' λσ2bF=>dE {D with pO:=N,ct:=N,hU:=D.pO} σ2bF)
abbrev Ys QUT QJx:γQA8:=bN.filterMap λb=>(h.Ξ b).Tx λo=>(b,o,)
def Ia!(a:b∈c)(e:h.Ξ b<*o):QN3∈Ysch:=γ.mem_filterMap.Ui (b,a,by rw[e];rfl)
def bz!(b5:p∈Ysch):p.1∈c/\h.Ξ p.1<*p.2:=by
 let(b,a,e):=γ.mem_filterMap.mp b5;cases q:h.Ξ b with
 |ε=>rw[q]at e;cases e
 |δ o=>
  rw[q]at e;let e':QN3=p:=ψ.δ.WZ e;subst e';show(a,q)
def f'.pinned{c:St}QMv(i:∀b∈g,aYXaHb)(h:∀b∈g,∃o,s.ρ.Ξ b=δo/\∀v,o.mY≠.aQ v):f'X (a++Ysg s.ρ) cH s:=
 I.pins_of λpb5=>(lp.mp b5).Q5 (λz=>I.pin p^F5_z) λz=>by
  let(f,e):=bz! z;let(l,k,j,_):=i p.1 f;let(o,e',d):=h p.1 f;rw[e]at e';cases e';show(e,l,k,j,d)
def f'.unpinned{b:St}(I:f'X (a++pl) bH s):f'XabH s:=I.pins_of λpb5=>I.pin p^F5_^XS_b5
def t6 QPX QUI(g6:vZXdVqFqJ)(gE:PGXdVg)(p:tRX MdE)(hs:QA7>>>7):w0X (.For dVqFM [] b8)^Dn! qJgdE:=by
 intro c sσHD Ih;show wpAny_For! (nb (g6c sσH_ Ih) λv s1h1=>nb h1 λeFs2h2=>?_) hs;let(it,L,vV,J,bF,e,jR,T,Q,f2,W,(m0,Uk!),B):=h2;subst e;let l:∀QFs,QJG->∀b∈L,aYXcH'b:=λg9bp=>(g9bp,(f2bp).2);show codeAny_forLoop_any! (λn s'=>∃ikH',f'XckH's'/\vVi s'.ρ/\QJG/\WinkH') ?_ m0 ((0),σ,bF,jR,Q,λbp=>(f2bp).1,Uk!);rintro n s3⟨i,j,O,zG,C,F,w3⟩;rcases Binj Ow3 with⟨lP,iA⟩|⟨go,N,JA,step⟩
 .refine P6b5 (nb (T.done Xζζζe8ic s3j O X.xe zG (l F) ClP) λr s4⟨S,iV⟩=>?_);subst S;show YZ (j,O,iV,iA)
 .refine P6b5 (nb (T.item Xζζζe8ic s3j O X.xe zG (l F) C go) λr s4⟨u,S,h4⟩=>?_);subst S;show P6b5 (nb h4 λ_ s5U=>?_);let(x,d8,I5,NU,y5,z,Z):=U;let ab:=I5.pinned (l Z)^T.obj __z;show P6b5 (nb (gE_ s5jd8xu_ ab NU^step xd8y5) λ_i9Y=>?_);let(P,e7,iW,yQ!):=Y;show P6b5 (nb (p_i9Pe7_iW yQ!) λf Ry=>?_);let again:∀{a:St}{t:m1},f'X (c++YsL s5.ρ) a t R->Nat->∃m,m<n/\∃ikH',f'XckH'R/\vVi R.ρ/\QJG/\WimkH':=λ{a t}q E=>by
   let(m',hm,ry!):=JAat E;show(m',hm,i+1,a,t,q.unpinned,T.AP ___z λbpoe=>(q.pin QN3QPZ).1,λbp=>?_,ry!);let(o,e,d):=T.obj __zbp;show(q.pin QN3QPZ).2.1
  cases f with
  |next=>let(a,t,q,E):=y;show again q E
  |cont=>let(a,t,q,E):=y;show again q E
  |brk=>let(a,t,q,y):=y;show(a,t,q.unpinned,y)
  |ret v=>let(yp,a,t,q,Ua!,y):=y;show(yp,a,t,q.unpinned,Ua!,y)
end
def Fn! QC1{g:TG}{k:oW}QHx QJC(u:c 0 bH)(r:∀ibH,i≤xs.β->cibH->pGKHaxs)(o:∀ixbH,xs[i]?<*x->cibH->g xbH λdj=>k {D with pO:=c (i+1),ct:=c (i+1),hU:=D.pO} dj)QKH:∃W:χ->χ->St->m1->Prop,QHB/\∀imbH,WimbH->
   ((FNKa).lP iH/\D.pO bH)\/((FNKa).go iH/\∃N:St->m1->Prop,QHC/\∀xH',(FNKa).yld iHxH'->g xbH' λdj=>k {D with pO:=N,ct:=N,hU:=D.pO} dj):=by
 show QEQ;rintro i m b H⟨rfl,s,p⟩;let q:=ribH s p;by_cases h:i<xs.β
 .refine .P2 ((xs,xs[i],q,by simp[h]),c (i+1),λfH'n=>(xs.β-(i+1),D'h,0,h,n),λxH'y=>?_);let(e,y):=y;subst e;show oixb_ (yxsq) p
 .let e:i=xs.β:=D7h s
  subst e;show .UR QP7
def HK! QC1{g:TG}{k:oW}QHx QJC(u:c 0 bH)(r:∀ibH,i≤xs.β->cibH->n'KHaxs)(o:∀ixbH,xs[i]?<*x->cibH->g xbH λdj=>k {D with pO:=c (i+1),ct:=c (i+1),hU:=D.pO} dj)QKH:∃W:χ->χ->St->m1->Prop,QHB/\∀imbH,WimbH->
   ((O8Ka).lP iH/\D.pO bH)\/((O8Ka).go iH/\∃N:St->m1->Prop,QHC/\∀xH',(O8Ka).yld iHxH'->g xbH' λdj=>k {D with pO:=N,ct:=N,hU:=D.pO} dj):=by
 show QEQ;rintro i m b H⟨rfl,s,p⟩;let q:=ribH s p;by_cases h:i<xs.β
 .refine .P2 ((xs,xs[i],q,by simp[h]),c (i+1),λfH'n=>(xs.β-(i+1),D'h,0,h,n),λxH'y=>?_);let(e,y):=y;subst e;show oixb_ (yxsq) p
 .let e:i=xs.β:=D7h s
  subst e;show .UR QP7
def zY{lo:ω}{g:TG}{j:oW}QHx QUU(r:f 0 aH)(o:∀iaH,i<n->fiaH->g (.tV (lo+i)) aH λbh=>j {D with pO:=f (i+1),ct:=f (i+1),hU:=D.pO} bh)(q:∀aH,f n aH->D.pO aH):∃W:χ->χ->St->m1->Prop,QEr/\∀imaH,WimaH->
   ((EO lo n).lP iH/\D.pO aH)\/((EO lo n).go iH/\∃N:St->m1->Prop,QHD/\∀xH',(EO lo n).yld iHxH'->g xaH' λbh=>j {D with pO:=N,ct:=N,hU:=D.pO} bh):=by
 show(λimaH=>m=n-i/\i≤n/\fiaH,(n,!1,pT_,r),3);rintro i m a H⟨rfl,s,p⟩;by_cases d:i<n
 .refine .P2 (d,f (i+1),λcH'l=>(n-(i+1),D'd,0,d,l),λxH'y=>?_);let(e,y):=y;subst e y;show oia_dp
 .let e:i=n:=D7d s
  subst e;show .UR (nZ_,qaHp)
def lr!(g:St->m1->Prop)(μ:St->m1->χ)(n:gaH)(k:∀aH,gaH->c aH λb e=>if b=π then i {D with pO:=λdH'=>gdH'/\μdH'<μaH,ct:=λdH'=>gdH'/\μdH'<μaH,hU:=D.pO} ae else D.pO ae)(f:∀aHQh,(∀b e,Qb e->hbe)->c aHQ->c aHh):vo! ciDaH:=by
 show(λmaH=>m=μaH/\gaH,(2,n),3);rintro m a H⟨rfl,p⟩;show faH__ (λb eq=>?_)^kaHp;cases b with
 |π=>show(_,λdH'⟨j,l⟩=>(_,l,0,j),q)
 |ν=>show q
@[reducible]def f5:=V->V->m1->oE->Prop
abbrev pM QDl(f:η->η->Sem η)(r:f5):Prop:=
 ∀QAKQCDQCCQAH QP8(vu:η)QAR,f'XaIσH s->nTxv->nTyu->rxyHQ->
  lZ QAA X.A (fvu) QC0 X.xe s
abbrev Vu! QDl(f:η->Sem η)QUV:Prop:=
 ∀QAKQCDQCC QAH(x:V)(v:η)QAR,f'XaIσH s->nTxv->rxHQ->
  lZ QAA X.A (fv) QC0 X.xe s
abbrev wN QDl(f:η)QR0:Prop:=
 ∀QAKQCDQCCQAHQCRQEYQAR,f'XaIσH s->oGxsus->rxsHQ->
  lZ QAA X.A (wGfus) QC0 X.xe s
abbrev MP(r:f5)QLD:TE:=λσHQ=>bWσH λxH1=>dEσH1 λybF=>rxybFQ
abbrev Pb! QUV(bW:TE):TE:=λσHQ=>bWσH λxH1=>rxH1Q
inductive M6(C:ω->ω->Prop)(g:ω->ω->V)(x:V)(y:V)QAH QAR:Prop
 |mk (ij:_) QNM (_:y=.tV j) (_:Cij) (_:Q QGtH)
inductive B9(g:ω->ω->V)(x:V)(y:V)QAH QAR:Prop
 |mk (ij:_) QNM (_:y=.tV j) (_:Q QGtH)
inductive YK!(g:ω->V)(x:V)QAH QAR:Prop
 |mk (i:_) QNM (_:Q (gi) H)
section
variable{X:n8}{a bc:bI}{bWdEh5:TE}{b8:nV}
def Ht!(t:mPXabW)(r:mPXbdE){e:St}{R:V->V->m1->Prop}(I:f'XdeH s)(h:bWeH λxm=>dEem λy g=>Rxyg){f:η->η->Sem η}(q:∀vu s2xyg,f'Xdeg s2->nTxv->nTyu->Rxyg->lZQAA X.A (fvu) Q X.xe s2):lZQAA X.A (oFa X.fN) (λvj=>lZQAA X.A (oFb X.fN) (λui=>lZQAA X.A (fvu) Q X.xe i) X.xe j) X.xe s:=by
 show nb (td seH_ Ih) λvnl=>?_;let(x,m,B,p,q1):=l;show nb (rdnem_Bq1) λu s2k=>?_;let(y,g,z,o,q2):=k;show qvu s2xygzpoq2
def mZ(j:pMX (XZi) r)(l:mPXabW)(k:mPXbdE):mPX (.BinOp aibb8) QKo:=by
 intro d seHQ Ih;show wpAny_BinOp! (Ht! l k Ih λvu s2xynmgfq=>jd s2enxyvuQm gfq)
def vh!(k:Vu! X (unaryOp! j) r)(l:mPXabW):mPX (.UnaryOp jab8)^Pb! rbW:=by
 intro d sfHQ Ih;show UnaryOp_! (nb (ld sfH_ Ih) λvge=>by let(x,n,m,i,q1):=e;show kdgfnxvQm iq1)
def WE{g:ω->ω->ω}(rule:∀QOX(tu:Tok)QCDQE3QBO,Cij->Q (.tV QGt s.mU) {s with mU:=s.mU+1}->lZQAA X.A QGuQ E s):pMXf (M6C λij=>.tV QGt):=by
 intro d smHxyvuQ Ikeh;let(i,j,ζ,ζ,l,q):=h;let(t,ζ):=k;let(t',ζ):=e;show rule ijtt's__lQM1
def lB{g:ω->ω->ω}(rule:∀QOX(tu:Tok)QCDQE3QBO,Q (.tV QGt s.mU) {s with mU:=s.mU+1}->lZQAA X.A QGuQ E s):pMXf (B9 λij=>.tV QGt):=by
 intro d slHxyvuQ Ikeh;let(i,j,ζ,ζ,q):=h;let(t,ζ):=k;let(t',ζ):=e;show rule ijtt's__QM1
def zQ{g:ω->ω->b9}(rule:∀QOX(tu:Tok)QCDQE3QBO,Q (.bC QGt) s->lZQAA X.A QGuQ E s):pMXf (B9 λij=>.dW QGt):=by
 intro d slHxyvuQ Ikeh;let(i,j,ζ,ζ,q):=h;let(t,ζ):=k;let(t',ζ):=e;show rule ijtt's__ (.dW QGt,H,I,0,q)
abbrev LH! QOX:Prop:=0<j/\j<1073741824
abbrev hQ! QOX:Prop:=0≤j/\j≤1000000/\i.natAbs<2^64
def lg! QGT:(0:ω)≤2^k:=by
 rw[two_pow_cast!];show ω.natCast_nonneg _
def pi!:pMXQP9QP_:=lB λ_______q=>add_int! q
def Pc!:pMX (XZ .Sub) QP':=lB λ_______q=>sub_int! q
def kf!:pMX (XZ .FloorDiv) (M6 LH! λij=>.tV (i/j)):=WE λij_____dq=>by
 let h1:(0:ω)<j:=d.1;let h2:j<1073741824:=d.2;show floordiv_int! (Hn! h1) (by rw[ω.fdiv_eq_ediv_of_nonneg i^Gk! h1];show q)^.UR^WC.noPylong_small (!2)
def L8:pMX (XZ .Mod) QI4:=WE λij_____dq=>by
 let h1:(0:ω)<j:=d;show mod_int'! (Hn! d) (by rw[ω.fmod_eq_emod_of_nonneg i^Gk! d];show q)
def PZ:pMX (XZ .LShift) (M6 hQ! λij=>.tV (i*2^j.UD)):=WE λ_______dq=>lshift_int_small! d.1 d.2.1 d.2.2 q
def U':pMX (XZ .RShift) (M6 (λ_j=>0≤j) λij=>.tV (i/2^j.UD)):=WE λij_____dq=>
 rshift_int! d (by rw[ω.fdiv_eq_ediv_of_nonneg i^lg! _];show q)
def MY:pMX (XZ .BitAnd) (B9 λij=>.tV^Builtin.bitAnd ij):=lB λ_______q=>and_int! q
def sN:pMX (XZ .BitOr) (B9 λij=>.tV^Builtin.bitOr ij):=lB λ_______q=>or_int! q
def Pd!{g:ω->ω}(rule:∀(i:ω)QIxQCDQE3QBO,Q (.tV (gi) s.mU) {s with mU:=s.mU+1}->lZQAA X.A (f^.tV i t) Q E s):Vu! Xf (YK! λi=>.tV^gi):=by
 intro d sjHxvQ Ieh;let(i,ζ,q):=h;let(t,ζ):=e;show rule i t s__ (.tV^gi,H,I.y4 _,(_,0),q)
def Hv!:Vu! X (unaryOp! .USub) (YK! λi=>.tV (-i)):=Pd! λ_____q=>neg_int! q
end
abbrev YC!:V->V->b9
 |.vS,.vS=>π|.vS,.tV _=>π|.tV _,.vS=>π|.vS,.dW _=>π|.dW _,.vS=>π|.vS,.uM _=>π|.uM _,.vS=>π
 |.tV _,.tV _=>π|.dW _,.dW _=>π|.uM _,.uM _=>π|.byt _,.byt _=>π
 |.tV _,.uM _=>π|.uM _,.tV _=>π|.dW _,.uM _=>π|.uM _,.dW _=>π
 |_,_=>ν
abbrev rEq!:f5:=λxyHQ=>YC! xy=π/\Q (.dW^decide (x=y)) H
abbrev rNe!:f5:=λxyHQ=>YC! xy=π/\Q (.dW (!decide (x=y))) H
def AB!:decide (V.tV i=V.tV j)=(i==j):=by
 rw[b9.Mc];simp
def yf!:decide (V.dW i=V.dW j)=(i==j):=by
 rw[b9.Mc];simp
def fL!:decide (V.uM i=V.uM j)=(i==j):=by
 rw[b9.Mc];simp
def Ux!:decide (V.byt i=V.byt j)=(i.Zh==j.Zh):=by
 rw[b9.Mc];cases i;cases j;simp
section
variable{X:n8}{a bc:bI}{bWdEh5:TE}{b8:nV}
def AJ{f:St}(I:f'XdfH s)(q:Q (.dW k) H)(e:k=k'):xWXdfQ (.bC k') s:=by
 subst e;show(.dW k,H,I,0,q)
def D8:pMX (x' .Eq) rEq!:=by
 intro g skHxyvuQ Ifdh;let(e,q):=h;cases x with
 |vS=>
  cases f;cases y with
  |vS=>cases d;show Δ.EqNone.eq_none_none QAj
  |dW j=>cases d;show Δ.EqNone.eq_none_bool QAj
  |tV j=>let(t',ζ):=d;show Δ.EqNone.eq_none_int QAj
  |uM j=>let(t',ζ):=d;show Δ.EqNone.eq_none_str QAj
  |_=>show mW (show ν=π from e) b9.UF
 |dW i=>
  cases f;cases y with
  |vS=>cases d;show Δ.EqNone.eq_bool_none QAj
  |dW j=>cases d;show eq_bool!^AJIq yf!
  |uM j=>let(t',ζ):=d;show Δ.EqMixed.eq_bool_str QAj
  |_=>show mW (show ν=π from e) b9.UF
 |tV i=>
  let(t,ζ):=f;cases y with
  |vS=>cases d;show Δ.EqNone.eq_int_none QAj
  |tV j=>let(t',ζ):=d;show eq_int!^AJIq AB!
  |uM j=>let(t',ζ):=d;show Δ.EqMixed.eq_int_str QAj
  |_=>show mW (show ν=π from e) b9.UF
 |uM i=>
  let(t,ζ):=f;cases y with
  |vS=>cases d;show Δ.EqNone.eq_str_none QAj
  |dW j=>cases d;show Δ.EqMixed.eq_str_bool QAj
  |tV j=>let(t',ζ):=d;show Δ.EqMixed.eq_str_int QAj
  |uM j=>let(t',ζ):=d;show eq_str!^AJIq fL!
  |_=>show mW (show ν=π from e) b9.UF
 |byt i=>
  let(t,ζ):=f;cases y with
  |byt j=>let(t',ζ):=d;show Δ.W.eq_bytes^AJIq Ux!
  |_=>show mW (show ν=π from e) b9.UF
 |_=>cases y<;>show mW (show ν=π from e) b9.UF
def wk!:pMX (x' .NotEq) rNe!:=by
 intro g skHxyvuQ Ifdh;let(e,q):=h;cases x with
 |vS=>
  cases f;cases y with
  |vS=>cases d;show Δ.EqNone.ne_none_none QAj
  |dW j=>cases d;show Δ.EqNone.ne_none_bool QAj
  |tV j=>let(t',ζ):=d;show Δ.EqNone.ne_none_int QAj
  |uM j=>let(t',ζ):=d;show Δ.EqNone.ne_none_str QAj
  |_=>show mW (show ν=π from e) b9.UF
 |dW i=>
  cases f;cases y with
  |vS=>cases d;show Δ.EqNone.ne_bool_none QAj
  |dW j=>cases d;show ne_bool!^AJIq^oR not yf!
  |uM j=>let(t',ζ):=d;show Δ.EqMixed.ne_bool_str QAj
  |_=>show mW (show ν=π from e) b9.UF
 |tV i=>
  let(t,ζ):=f;cases y with
  |vS=>cases d;show Δ.EqNone.ne_int_none QAj
  |tV j=>let(t',ζ):=d;show ne_int!^AJIq^oR not AB!
  |uM j=>let(t',ζ):=d;show Δ.EqMixed.ne_int_str QAj
  |_=>show mW (show ν=π from e) b9.UF
 |uM i=>
  let(t,ζ):=f;cases y with
  |vS=>cases d;show Δ.EqNone.ne_str_none QAj
  |dW j=>cases d;show Δ.EqMixed.ne_str_bool QAj
  |tV j=>let(t',ζ):=d;show Δ.EqMixed.ne_str_int QAj
  |uM j=>let(t',ζ):=d;show ne_str!^AJIq^oR not fL!
  |_=>show mW (show ν=π from e) b9.UF
 |byt i=>
  let(t,ζ):=f;cases y with
  |byt j=>let(t',ζ):=d;show Δ.W.ne_bytes^AJIq^oR not Ux!
  |_=>show mW (show ν=π from e) b9.UF
 |_=>cases y<;>show mW (show ν=π from e) b9.UF
def ME:pMX (x' .Lt) (B9 λij=>.dW^decide (i<j)):=zQ λ_______q=>lt_int! q
def sO:pMX (x' .LtE) (B9 λij=>.dW^decide (i≤j)):=zQ λ_______q=>le_int! q
def Ev:pMX (x' .Gt) (B9 λij=>.dW^decide (j<i)):=zQ λ_______q=>gt_int! q
def LE:pMX (x' .GtE) (B9 λij=>.dW^decide (j≤i)):=zQ λ_______q=>ge_int! q
def SI:pMX (x' .In) (λxyHQ=>∃ij,x=.uM i/\y=.uM j/\Q (.dW QJH) H):=by
 intro d sgHxyvuQ Ifeh;let(i,j,ζ,ζ,q):=h;let(t,ζ):=f;let(t',ζ):=e;show in_str!^AJIqζ
def Ew!:pMX (x' .Is) (λxyHQ=>y=.vS/\Q (.dW^decide (x=.vS)) H):=by
 intro e sgHxyvuQ Idfh;let(rfl,q):=h;cases f;show is_none_gen! (AJIq ?_);cases x<;>first
  |(cases d;rfl)
  |(let(t,ζ):=d;rfl)
def h_!:pMX (x' .IsNot) (λxyHQ=>y=.vS/\Q (.dW (!decide (x=.vS))) H):=by
 intro e sgHxyvuQ Idfh;let(rfl,q):=h;cases f;show isnot_none_gen! (AJIq ?_);cases x<;>first
  |(cases d;rfl)
  |(let(t,ζ):=d;rfl)
def Fl!:pMXQR1 (λxyHQ=>∃ij,x=.uM i/\y=.uM j/\Q (.dW (! QJH)) H):=by
 intro d sgHxyvuQ Ifeh;let(i,j,ζ,ζ,q):=h;let(t,ζ):=f;let(t',ζ):=e;show notIn_str!^AJIqζ
def ym!(b:bI)(h:(d≠.In)>>>0)(h2:(d≠.NotIn)>>>0):behindInMarks! db=ν:=by
 let f:(d==CmpOp.In)=ν:=by cases d<;>first|rfl|show mWζh
 let e:(d==CmpOp.NotIn)=ν:=by cases d<;>first|rfl|show mWζh2
 cases b<;>first|rfl|(show(_&&(d==CmpOp.In||d==CmpOp.NotIn)&&_)=ν;rw[f,e,b9.w7,b9.and_false,b9.false_and])
def xP(j:pMX (x'e) r)QRo(l:mPXbdE)(k:behindInMarks! eb=ν):mPX (.Compare a [e] [b] b8) QKo:=by
 intro d sfHQ Ih;show wpAny_Compare1! (Ht! ml Ih λvu s2xyonigq=>jd s2foxyvuQn igq) k
abbrev UM(t:TE):TT:=λσHQ=>tσH^S6Q
def q7(o:pMX (x'i) r)(t:mPXabW)(q:mPXbdE)(p:behindInMarks! ib=ν):vIX (.Compare a [i] [b] b8)^UMQKo:=by
 intro d sfHQ Ih;show wpAny_isTrue_Compare1! (nb (td sfH_ Ih) λvjh0=>h0.jW λx EBnq1=>nb (qdjf E_Bq1) λu s2h0=>h0.jW λyD Amq2=>
  nb (od s2fDxyvu_ Anmq2) λc Fh0=>h0.jW λzCwlg=>?_) p
 let(k,e,g):=S6.gT g;subst e;cases l;show LM (C,w,g)
abbrev Pe!(rr':f5)(bWdEh5:TE):TE:=λσHQ=>bWσH λxH1=>dEσH1 λybF=>rxybF λzbJ=>∃k,z=.dW k/\
 (if k=π then h5σbJ λw'cM=>r'yw'cMQ else Q QTBbJ)
def mo!(N:pMX (x'o) r)(j:pMX (x' op'!) L)(S:mPXabW)(R:mPXbdE)(P:mPXch5)(O:(lastMarks! [o,op'!] [b,c]=ν)>>>9):vIX (.Compare a [o,op'!] [b,c] b8)^UM^Pe! rLbWdEh5:=by
 intro f sgHQ Ih;show isTrue_chain! (nb (Sf sgH_ Ih) λvCh0=>h0.jW λxH1Z Jq1=>test_link!^nb (RfCgH1_ Zq1) λu s2h0=>h0.jW λybFYmq2=>
  nb (Nf s2gbFxyvu_ Y Jmq2) λdB⟨z,q,p,F,k,e,n⟩=>?_) O
 subst e;cases F;show LM ?_;cases k with
 |ν=>
  show ite_ff! (q,p,n)
 |π=>
  show ite_tt! (test_last!^nb (PfBgq_pn) λw Ah0=>h0.jW λtcMW E M=>nb (jf AgcMytuw_ Wm E M) λd's5l=>?_);let(z2,d8,U,D,i):=l;let(k2,T,i):=S6.gT i;subst T;cases D;show LM (d8,U,i)
def R0:(Φ:χ)<2^63:=by rw[w9];decide
def uI:pMXQP9 (λxyHQ=>∃ij,x=.uM i/\y=.uM j/\i.β+j.β≤Φ/\Q (.uM (i++j)) H):=by
 intro d sgHxyvuQ Ifeh;let(i,j,ζ,ζ,hz,q):=h;let(t,ζ):=f;let(t',ζ):=e;show add_str! (λt'k=>(.uM (i++j),H,I.y4 _,(_,0),q)) hz
def x5(r:oG [x] us):∃u,us=[u]/\nTxu:=by
 cases r with
 |nF e d=>cases d;show(2,e)
def IY(r:oG [x,y] us):∃ud,us=[u,d]/\nTxu/\nTyd:=by
 cases r with
 |nF h g=>
  cases g with
  |nF f e=>cases e;show(1,h,f)
end
structure sV QJx(x dx C:θ)(mA:bE->ψη):Prop where
 obj:h.Ξ x<*instObj! C dx
 ns:h.Ns1 dx mA
 ne:dx≠x
def cm!{h:n3}(n:h.Ns1 dx f):∃c,h.Ξ dx=δc/\∀cJ,Δ.W.lookIn cJc<*fcJ:=by
 let(o,d,p,i,l,k,_,j):=n;show(o,i,λcJ=>?_);let e:=jcJ;unfold nsFind! findBy! at e;rw[<-pV.find?_toList]at e;unfold Δ.W.lookIn;rw[l];dsimp only;split
 .rename_i y q;rw[q]at e;show oRδe
 .rename_i q;rw[q]at e;let a:d.Zh.I9 QR2=ν:=by
   rw[γ.any_eq_false];intro y g;let(z,t,b):=ky^pV.mem_toList_iff.mp g;simp[DictEntry.refKey,b]
  let m:¬ d.Zh.I9 QR2=π:=by rw[a];show b9.UF
  rw[mFm];show oRδe
def sV.look(I:sVhx dx Cb):∃a,Δ.W.InstAt hx (instObj! C dx) C^δa/\∀cJ,Δ.W.lookIn cJa<*bcJ:=
 let(a,c,d):=cm! I.ns
 (a,(I.obj,5,c),d)
section
variable{Ω:nA}{w:o4}{A:o7}{E:η->Θ->Prop}{s:Θ}{K:qI}{x dx Cf:θ}{mA:bE->ψη}{cJ:bE}{v:η}
def Pf! QDQ QIy(e:plainGet! KCcJ=π)(d:Δ.W.hasDictIn KC=π)(g:Δ.W.Xu KQAkcJ<*ε)(b:mAcJ<*v)(a:Δ.W.handedIn v=π)(h:Qv {s with mU:=s.mU+1}):lZQASA (getAttr! QCdcJ expr!) Q E s:=by
 let(i,J,c):=I.look;show Δ.W.get_value X J (Δ.W.plainGet_of e).1 (Δ.W.findObj_own dgζ^by rw[c,b]) ah
def xK! QDQ QIy(a:plainGet! KCcJ=π)(g:Δ.W.Xu KQAkcJ<*δQAr)(d:isFn KQAr=π)(c:mAcJ=ε)(h:Q (.ο f,[.ο x],) s):lZQASA (getMethod! QCdcJ pl) Q E s:=by
 let(b,J,e):=I.look;show Δ.W.method_fn X J (Δ.W.plainGet_of a).1 (Δ.W.plainGet_of a).2 g (T8.mp d) (by change (Δ.W.lookIn cJb).Tx (·.BC)<*ν;rw[e,c];rfl) h
def zo! QDQ QIy(m:Δ.W.Xu KQAk "__setattr__"<*δ^.Rm "object.__setattr__")(b5:Δ.W.plainOver KC=π)QQA(n:Δ.W.hasDictIn KC=π)QTD(hsz:ns.β≤Φ)(h:∀h',sVh'x dx CQI5->zN dx s.ρ h'->Q () {s with ρ:=h',mU:=s.mU+2}):lZQASAQJIQ E s:=by
 let(t,J,z):=I.look;show set_plain! X Jm (Δ.W.osa_open (s:={s with mU:=s.mU+1}) (r:=ε) X Jb5l λb=>?_);let(B,o,i):=any_some! n;let k:s.ρ.Ξ x<*(.ο C,δ dx,.plain,#[]):=I.obj;show lT^mR^lT^lT^wpAny_loadPart! k^lT (Δ.W.Looks.here (s:={s with mU:=s.mU+1}) (looks_clsIn! Xo) ?_);rw[i];show mR (a:=δ dx)^lT^mRQDr;show wpAny_nsSet1! (s:={s with mU:=s.mU+1}) I.ns λh'dc=>?_;let(u,p,q,e,g,j):=d.count QPa;show lT (wpAny_lookBehind! e (by rw[g];show pastItsLine_dict!^n5j^by rw[oY];show FG hsz) ?_);show mR^h_ ((c.2 _^Ne.UH I.ne).ξ I.obj,d,I.ne) c
def GC!(X:K.In s.ρ)(b:makesIn! KC=π)(c:Δ.W.Xu K (.ο C) "__init__"<*δ^.ο f)(e:Δ.W.typeIn K^.ο f<*.TB "function")(h:wI (oPΩw) (A.under^.Rm "type.__call__" (.ο C::vs,kw)) (.wG (.ο f) (.ο (s⁻¹+1)::vs,kw)) (Δ.W.InitBack (s⁻¹+1) R)
   {s with ρ:=(s.ρ.Uu IS).Uu^instObj! C s⁻¹}):wI (oPΩw) A (.wG (.ο C) (vs,kw)) R s:=by
 let(i,g,d,t,os):=s;show Δ.W.make_core QR3 (Δ.W.Y1 Xc) (λa=>Δ.W.bind_fn Xae) QAvh
def tX!(X:K.In s.ρ)(b:makesIn! KC=π)(c:Δ.W.Xu K (.ο C) "__init__"<*δ^.Rm "object.__init__")(e:∀a,Δ.W.Looks (oPΩw) s.ρ (bindSpecial! (.Rm "object.__init__") a) (.Rm "object.__init__",[a],))(h:wI (oPΩw) (A.under^.Rm "type.__call__" ([.ο C],[])) (.wG (.Rm "object.__init__") ([.ο (s⁻¹+1)],[])) (Δ.W.InitBack (s⁻¹+1) R)
   {s with ρ:=(s.ρ.Uu IS).Uu^instObj! C s⁻¹}):wI (oPΩw) A (.wG (.ο C) ([],[])) R s:=by
 let(i,g,d,t,os):=s;show Δ.W.make_core QR3 (Δ.W.Y1 Xc) e (.P2 (0,0)) h
end
abbrev am QRA(v:V):γQDa->γQDa
 |[]=>[(f,v,)]
 |(g,x)::r=>if g=f then(g,v,)::r else(g,x,)::am fvr
def wO(fg:bE)(v:V):∀fs:γQDa,(am fvfs).ς g=if g=f then δv else fs.ς g
 |[]=>by
  change γ.ς g [(f,v,)]=_;by_cases h:g=f
  .let a:(g==f)=π:=T8.Ui h;simp only[γ.ς,a,mGh]
  .let a:(g==f)=ν:=Ul.Ui h;simp only[γ.ς,a,mFh]
 |(k,x)::r=>by
  let c:=wOfgvr;rw[show am fvQR4=(if k=f then(k,v,)::r else(k,x,)::am fvr)from ζ];by_cases b:k=f
  .rw [mGb];by_cases h:g=k
   .let a:(g==k)=π:=T8.Ui h;simp only[γ.ς,a,mG^h.ξ b]
   .let a:(g==k)=ν:=Ul.Ui h;simp only[γ.ς,a,mF (λe:g=f=>h^e.ξ b.UH)]
  .rw [mFb];by_cases h:g=k
   .let a:(g==k)=π:=T8.Ui h;simp only[γ.ς,a,mF (λe:g=f=>b^h.UH.ξ e)]
   .let a:(g==k)=ν:=Ul.Ui h;simp only[γ.ς,a];show c
def JI QRA(v:V):∀fs:γQDa,f∈(am fvfs).Tx QBA/\∀g,g∈fs.Tx QBA->g∈(am fvfs).Tx QBA
 |[]=>(cG,λgh=>nomatch h)
 |(k,x)::r=>by
  let(i1,i2):=JIfvr;rw[show am fvQR4=(if k=f then(k,v,)::r else(k,x,)::am fvr)from ζ];by_cases a:k=f
  .rw [mGa];subst a;show(!1,λgh=>by simpa using h)
  .rw [mFa];show(3,λgh=>?_)
   .rw [y3];show qO_i1
   .rw [y3]at h⊢;rcases u3.mp h with e|e
    .exact u3.Ui^.UR e
    .exact qO_^i2ge
def Bc! QRA(v:V):∀fs:γQDa,(am fvfs).β≤fs.β+1
 |[]=>nZ_
 |(k,x)::r=>by
  let b:=Bc! fvr;rw[show am fvQR4=(if k=f then(k,v,)::r else(k,x,)::am fvr)from ζ];by_cases a:k=f
  .rw [mGa,oY,oY];lia
  .rw [mFa,oY,oY];lia
def aE.some_of(r:aEQFqo):∃u,o=δu/\nTvu:=by
 cases o with
 |ε=>show(show oA from r).Q5
 |δ u=>show(u,0,r)
def aE.none_of(r:aEεo):o=ε:=by
 cases o with
 |ε=>rfl
 |δ u=>show(show oA from r).Q5
def ju! QI2:Δ.W.handedIn u=π:=by
 cases v with
 |vS=>cases(show u=η.ε from r);rfl
 |dW b=>cases(show u=η.bC b from r);rfl
 |tV i=>let(t,e):=(show ∃t,u=η.tV i t from r);cases e;rfl
 |uM x=>let(t,e):=(show ∃t,u=η.uM xt from r);cases e;rfl
 |byt b=>let(t,e):=(show ∃t,u=η.bytes bt from r);cases e;rfl
 |flt! b=>let(t,e):=(show ∃t,u=η.float bt from r);cases e;rfl
 |ο a=>cases(show u=η.ο a from r);rfl
 |ty n=>cases(show u=η.TB n from r);rfl
section
variable{P:nA}{w:o4}{HH':m1}{hh':n3}{aC dx:θ}{fs fs'!:γQDa}
def TS(c:y'PwHh)QD5:∃b,sVha dx Cb/\(∀f,aE (fs.ς f)^bf)/\Δ.Within bQRu/\fs.β≤1000/\H dx<*.own a:=by
 let(d,z,i,g,b,n,r,q):=(show qNPwHha (.TM C dx fs)from c a_e);show(b,(g,n,i),r,q,z,d)
end
structure zV QAw QGE:Prop where
 E6:plainGet! KC bE.X7=π
 hd:Δ.W.hasDictIn KC=π
 po!:Δ.W.plainOver KC=π
 sa!:Δ.W.Xu KQAk "__setattr__"<*δ^.Rm "object.__setattr__"
def zV.get QC1(c:zVKC)QRA:plainGet! KCf=π:=c.E6
abbrev u6 QAw QGE QRA:Prop:=Δ.W.Xu KQAkf<*ε
def u6.taker QC1(n:u6KCf):takerIn! KCf<*ε:=by
 unfold takerIn!;rw[show Δ.W.Xu KQAkf<*ε from n];rfl
structure M3 QAw QGE(m:bE)QFO:Prop where
 at_!:Δ.W.Xu KQAkm<*δQAr
 fn:isFn KQAr=π
 C9:Y7KQAr=π
section
variable{X:n8}{aI:γQA8}{σ:St}{H:m1}{s:Θ}{aC dx:θ}{fs:γQDa}{f:bE}{v:V}{A:o7}{E:η->Θ->Prop}
def hn! QAB QD5(c:zV X.K C)QI6(l:fs.ς f<*v)(h:∀u s',f'XaIσH s'->nTvu->Qu s'):lZQAAA (getAttr! QAefb) Q E s:=by
 let(g,O,r,_,_,_):=TS I.rv e;let(u,i,d):=aE.some_of (v:=v) (o:=gf) (by rw[<-l];show rf);show Pf! I.kIn O (c.get f) c.hd ni (ju! d)^hu_QOYd
def Hw! QAB QD5(c:zV X.K C)(k:M3 X.K Cmg)(l:fs.ς m=ε)(h:Q (.ο g,[.ο a],) s):lZQAAA (getMethod! QAem pl) Q E s:=by
 let(b,O,r,_,_,_):=TS I.rv e;let d:b m=ε:=aE.none_of (by rw[<-l];show rm);show xK! I.kIn O (c.get m) k.at_ k.fn dh
def oQ! QAB QD5(c:zV X.K C)QI6(D:fs.β<1000)(m:nTyu)(h:∀s',f'XaIσ (mEHaQPb) s'->Q () s'):lZQAAAQKIQ E s:=by
 let(j,O,r,i,_,k):=TS I.rv e;let hz:(fs.Tx QBA).β≤Φ:=by rw[j',w9];show Gi! D
 show zo! I.kIn O c.sa c.po n.taker c.hd i hz λh'dl=>h_ ?_;let t:∃o,h'.Ξ dx<*o:=(by let(o,_,_,e',_):=d.ns;show (o,e'));show I.write (x:=a) (e:=dx) (by rw[e];show vN.Vw) (.P2 k) (λbqBz=>(l.2 bB).ξ z) t ?_;show(by rw[a' O.ne];show k,3,O.ne,d.obj,_,d.ns,λg=>?_,λgp=>?_)
 .have:=Bc! fyfs;lia
 .change aEQTE (if g=f then δu else jg);rw[wO];by_cases q:g=f
  .rw [mGq,mGq];show m
  .rw [mFq,mFq];show r g
 .by_cases q:g=f
  .rw [q];show(JIfyfs).1
  .refine (JIfyfs).2 g (ig λz=>p ?_);change (if g=f then δu else jg)=ε;rw[mFq];show z
def f'.made QAB:f'XaIσ (mE (mEH s⁻¹^.own QBP) QBP^.TM C s⁻¹ [])
  {s with ρ:=(s.ρ.Uu IS).Uu QTF}:=by
 let d:(s.ρ.Uu IS).Ξ s⁻¹<*IS:=t8 s.ρ ζ;let j:((s.ρ.Uu IS).Uu QTF).Ξ QBP<*instObj! C s⁻¹:=by
  have:=t8 (s.ρ.Uu IS) (o:=instObj! C s⁻¹) ζ
  rwa [yW]at this
 let i:(s.ρ.Uu IS).Ns s⁻¹ QL8:=(IS,#[],_,d,0,(λeh=>mWh (!1)),λ_=>rfl);let k:=I.laid (a:=s⁻¹) (o:=.own QBP) (h':=s.ρ.Uu IS) (t':=s.mU) QUWQBF (_,d);show k.laid (a:=s⁻¹+1) (o:=.TM C s⁻¹ []) (t':=s.mU) QUW (G'^yW__) ?_;let c:s⁻¹≠s⁻¹+1:=p8^A6_;show(by rw[a'c,hJ],pT_,c,j,λ_=>ε,(n3.Ns1.of_empty i).at λoq=>nN_q,λ_=>vN.Vw,λy g=>mWζg)
def Da!(c:I8effN^oFefN=oFefN)(h:lZQASA (oFefN) (λob=>lZQASA (getAttr! ofπ) Q Eb) E s):lZQASA (oFQHefN) Q E s:=
 Attribute_any_! h (by rw[arm_eval_Attribute!,c])
end
inductive Pg! QAw QRA QAR(x:V)QD4:Prop
 |mk (aC dx fsv:_) QEq (_:H1a<*.TM C dx fs) QLW QRr (_:fs.ς f<*v) (_:Qv H1)
abbrev nD! QAw(bW:TE)QRA:TE:=λσHQ=>bWσH^Pg! KfQ
inductive Ph! QAw QRA QM0 QCC(y:V)(x:V)(bF:m1):Prop
 |mk (aC dx fs:_) QEq (_:bFa<*.TM C dx fs) QLW QRr (_:fs.β<1000) (_:D.pO σ^mEbFaQPb)
abbrev LK! QAw(bWgG:TE)QRA:oW:=λDσH=>gGσH λyH1=>bWσH1^Ph! KfDσy
section
variable{X:n8}{oe value!:bI}{f:bE}{b8 pos'! tpos!:nV}{bWgG:TE}
def vA(k:mPXebW)(m:I8ef X.fN QFN=oFe X.fN):mPXQHe^nD! X.K bWf:=by
 intro b sgHQ Ih;show Da! m (nb (kb sgH_ Ih) λu Ad=>?_);let(x,y,w,i,a,C,dx,fs,v,p,r,c,n,l,q):=d;subst p;obtain ζ:u=η.ο a:=i;show hn! w rcnl λz s2tj=>(v,y,t,j,q)
def HU(t:mPXobW)(p:mPX value! gG)(r:Z' value! (δ^.Za of pos'!) b8.Zm X.fN=pure ν):w0X (.Assign [.Za of pos'!] value! b8)^LK! X.K bWgGf:=by
 intro b sdHD Ih;show plainObj_wpAny_Assign_Attribute! (nb (pb sdH_ Ih) λuih0=>h0.jW λy EBjq=>nb (tbid E_Bq) λm s2g=>?_) r;let(x,J,A,k,a,C,dx,fs,v,w,c,n,l,q2):=g;subst v;obtain ζ:m=η.ο a:=k;show oQ! Awcnlj λFz=>(d,_,z,q2)
end
section
variable{X:n8}{aI:γQA8}{σ:St}{H:m1}{s:Θ}{A:o7}{E:η->Θ->Prop}{Q:η->Θ->Prop}{c:η}{b:b9}
inductive yZ QAw QAH:V->η->Prop where
 |vS:yZKH .vS^.TB "NoneType"
 |dW (x:b9):yZKH (.dW x)^.TB "bool"
 |tV (i:ω):yZKHQKG^.TB "int"
 |uM QFJ:yZKHQHd^.TB "str"
 |flt! (x:UInt64!):yZKH (.flt x)^.TB "float"
 |P' QJB QBm (e:Ha<*.P' xs):yZKHQAe^.TB "list"
 |frz QJB {o:pZ} QBm (e:Ha<*.frz oQEh):yZKHQAe^.TB "list"
 |iT QJB QBm (e:Ha<*.iT xs):yZKHQAe^.TB "tuple"
 |r6 QJB {bZ:γQHc} (e:Ha<*.r6 bZ):yZKHQAe^.TB "dict"
 |dT QJB {bZ:γ (γf9×V)} (e:Ha<*.dT bZ):yZKHQAe^.TB "dict"
 |TM {aC dx:θ} {fs:γQDa} QD5 (cl:zVKC) (eM:Δ.W.Xu KQAk "__class__"<*δ^.Rm "object.__class__")
   (g9:Δ.W.specialIn K (.Rm "object.__class__") "__get__"<*δ^.Rm "getset_descriptor.__get__") (htk!:Δ.W.takesIn K^.Rm "object.__class__"<*π)
   (hm:Δ.W.mroIn KC^.TB "object"<*π):yZKHQAeQAk
def jr! QAB(d:nTxu)(ty:yZ X.K Hxt)(e:Δ.W.Kq X.K tc<*b)(h:∀k,Q (.bC b) {s with mU:=k}):lZQAAA (wG (.Rm "isinstance") [u,c]) Q E s:=by
 cases ty with
 |vS=>cases(show u=η.ε from d);show Δ.W.kia_one Δ.W.kitx_none I.kIn vN.Vw eQA9h
 |dW y=>cases(show u=η.bC y from d);show Δ.W.kia_one Δ.W.kitx_bool I.kIn vN.Vw eQA9h
 |tV i=>let(t,q):=(show ∃t,u=η.tV i t from d);cases q;show Δ.W.kia_one Δ.W.kitx_int I.kIn vN.Vw eQA9h
 |uM y=>let(t,q):=(show ∃t,u=η.uM yt from d);cases q;show Δ.W.kia_one Δ.W.kitx_str I.kIn vN.Vw eQA9h
 |flt! y=>let(t,q):=(show ∃t,u=η.float yt from d);cases q;show Δ.W.kia_one Δ.W.kitx_float I.kIn vN.Vw eQA9h
 |@P' a xs f=>
  cases(show u=η.ο a from d);let(_,_,n,_,h1):=(show qN X.Ω X.w H s.ρ aQEh from I.rv a_f);show Δ.W.kia_one Δ.W.kitx_list I.kIn (_,h1,0) eQA9h
 |@frz a l xs f=>
  cases(show u=η.ο a from d);let(_,_,_,n,_,h1):=(show qN X.Ω X.w H s.ρ a (.frz lQEh)from I.rv a_f);show Δ.W.kia_one Δ.W.kitx_list I.kIn (_,h1,0) eQA9h
 |@iT a xs f=>
  cases(show u=η.ο a from d);let(_,_,_,p):=(show qN X.Ω X.w H s.ρ aQFL from I.rv a_f);let(o,h1,h2,_):=p;show Δ.W.kia_one Δ.W.kitx_tuple I.kIn QQBeQA9h
 |@r6 a bZ f=>
  cases(show u=η.ο a from d);let(_,_,vs,_,p):=(show qN X.Ω X.w H s.ρ a (.r6 bZ)from I.rv a_f);let(o,B,D,h1,h2,_):=p;show Δ.W.kia_one Δ.W.kitx_dict I.kIn (o,h1,h2.1) eQA9h
 |@dT a bZ f=>
  cases(show u=η.ο a from d);let(_,_,xs,_,o,B,D,h1,h2,_):=(show qN X.Ω X.w H s.ρ a (.dT bZ)from I.rv a_f);show Δ.W.kia_one Δ.W.kitx_dict I.kIn (o,h1,h2.1) eQA9h
 |@TM a C dx fs f j v m g r=>
  cases(show u=η.ο a from d);let(L,O,_):=TS I.rv f;let(F,J,_):=O.look;show Δ.W.kia_one (Δ.W.kitx_own (j.get _) j.hd vmgr) I.kIn JeQA9h
end
structure q4 QGT(A:o7):Prop where
 hd:A.T6=ε
 kE:A.depth+3*k+5<recursionLimit!
 un:A.Wb+16*k+200<r4
def q4.Hu QTG(h:j≤k):q4j A:=(r.hd,by have:=r.kE;lia,by have:=r.un;lia)
def q4.jq(r:q4 (k+1) A)(fN:Env):q4k^A.jq fN:=
 (r.hd,by have:=r.kE;change A.depth+1+3*k+5<_;show Jk! this,by have:=r.un;change A.Wb+3+16*k+200<_;lia)
def gj! QRq:(A.under^.Rm "type.__call__" QIN).depth=A.depth+1:=by
 first|rfl|simp[o7.under,Code.weight,Code.isCreation,Code.isGuard,Code.isCaller,Code.Xe,Code.isFrame,guardIds!]
def fa! QRq:(A.under^.Rm "type.__call__" QIN).Wb=A.Wb+1:=by
 first|rfl|simp[o7.under,Code.cUnits,Code.Xe,Code.isFrame]
def q4.make(r:q4 (k+1) A)QGE QEY(kw:γQTH):q4k^A.under^.Rm "type.__call__" QIN:=
 (r.hd,by have:=r.kE;rw[gj!];show Jk! this,by have:=r.un;rw[fa!];lia)
def q4.depth QTG:A.depth<recursionLimit!:=by have:=r.kE;lia
def q4.Wb QTG:A.Wb+64<r4:=by have:=r.un;lia
def q4.units0 QTG:A.Wb<r4:=by have:=r.un;lia
abbrev tNil:w4:=λ_HQ=>Q [] H
abbrev pS(bW:TE)(tr!:w4):w4:=λσHQ=>bWσH λxH1=>tr! σH1 λxsbF=>Q (x::xs) bF
section
variable{X:n8}{e:bI}{es:γbI}{eJ:TE}{t:w4}{b8:nV}
def jY:qTX [] tNil:=λ____HQ Ih=>YL.spliced_nil ([],H,I,.nS,h)
def rN(l:mPXeeJ)(k:qTXest)(j:QBV>>>4):qTXQKJ^pSeJt:=by
 intro b8a sdHQ Ih;rw[j];change lZ__ (spliced! (QAh::pNb8QFr)) __ s;show YL.spliced_cons (nb (la sdH_ Ih) λufc=>?_);let(x,p,n,i,q1):=c;show nb (kb8afdp_nq1) λuss2b=>by let(xs,o,m,g,q2):=b;show(x::xs,o,m,.nF ig,q2)
abbrev ar! QHR:TE:=λσHQ=>tσH λxsH1=>xs.β≤Φ/\∀p,H1p=ε->Q QAl^mEH1pQFL
abbrev GH! QHR:TE:=λσHQ=>tσH λxsH1=>xs.β≤Φ/\∀p,H1p=ε->Q QAl^mEH1pQEh
def p0{i}(h:qTXest):mPX (.Zv esib8)^ar! t:=by
 intro a sgHQ Ij;show wpAny_Tuple_spliced! (nb (hb8a sgH_ Ij) λusc⟨xs,f,d,r,z,q⟩=>(by rw[<-r.β];show z,3));let k:f c⁻¹=ε:=d.rv.ax QBF;show(.ο c⁻¹,mEf c⁻¹ QFL,d.laid (t':=c.mU) QUXQBF ?_,0,q_k);show(z,us,r,(_,t8_ζ,0,2))
def AV(h:qTXest):mPX (.γ esb8)^GH! t:=by
 intro a sgHQ Ii;show wpAny_List_spliced! (nb (hb8a sgH_ Ii) λusc⟨xs,f,d,r,z,q⟩=>(by rw[<-r.β];show z,3));let j:f c⁻¹=ε:=d.rv.ax QBF;show(.ο c⁻¹,mEf c⁻¹ QEh,d.laid (t':=c.mU) QUXQBF ?_,0,q_j);show(z,us,(0),r,t8_ζ)
end
@[reducible]def wY:=List V->m1->oE->r3->Prop
@[reducible]def CXT:=List Env->m1->Shared->r3->Value->Shared->Prop
structure AZ QLB QBg QAw QAy QRH(A:o7)QER QCD QAH:Prop where
 Xe!:A.Xe<*b7
 mod!:Mod K mg υ
 bs:∀bo,υ.Ξ b<*o->s.ρ.Ξ b=δo/\Hb=ε
 bsz!:υ.u_.fC≤s⁻¹
 funs!:s.ρ.V_ υb7
 frf!:∀b∈oJb7,Hb=ε
 rv!:y'PwH s.ρ
 pH!:AllBare! s.PF
inductive CE QER QLB QBg QAH QCD QAR QVK QLV:Prop
 |mk (vH':_) (_:s'.os=s.os) QVV QJz QTI (_:nTvu) (_:Qv H')
abbrev rr!(r0:CXT)QER QLB QBg QAH QCD QAR QE4(r:Result!)QLV:Prop:=
 match r with
 |.ok (.ret u)=>CEb7PwH sQu s'
 |.ok _=>oA
 |.G2 e=>r0b7H s Ee s'
structure mT QLB QBg QAw QAy QRH(r0:CXT)QGT QFO(fd:uP)QGU QPc:Prop where
 eN:∀vsHQ E,sp vsHQ E->vs.β=ps.β
 n6:∀(A:o7)QERQCD QAH(args:Args!)QEYQAJQARQE4,q4k A->AZPwK mg υ Ab7sH->BindsTo! s fd args QFP->oGvsus->sp vsHQ E->
  wI QBE A (.wG QAr args) (rr! r0b7PwH sQ E) s
def mT.Hu{P:nA}QGa QC1(F:mTPwK mg υejfdpsb)(h:j≤k):mTPwK mg υekfdpsb:=(F.eN,λAb7sHausvsQ Ec=>F.n6 Ab7sHausvsQ E^c.Hu h)
def AZ.make QC1(e:AZPwK mg υ Ab7sH)QGE QEY(kw:γQTH):AZPwK mg υ (A.under^.Rm "type.__call__" QIN) b7sH:=(by first|show e.Xe|(simpa[o7.under,Code.envs,Code.isFrame,pushEnvs!]using e.Xe),e.mod,e.bs,e.bsz,e.funs,e.frf,e.rv,e.pH)
section
variable{X:n8}{aI:γQA8}{σ:St}{H:m1}{s s':Θ}
def f'.env0 QAB:AZ X.Ω X.w X.K X.mg X.υ X.A X.US sH:=
 (I.ok.Xe,I.ok.mod,I.bs,n5 I.ok.bsz I.sz,I.US,I.stkFree,I.rv,I.pH)
def f'.after QAB(h:CE X.US X.Ω X.w H sQu s'):xWXaIσQu s':=by
 let(v,H',os,a,un,e,r,q):=h;let(f,g,d,t,c):=s';obtain ζ:c=s.os:=os;show(v,H',I.wG (h':=f) (g':=g) (d':=d) (t':=t) (ch:=[]) un ea^λbz=>mWz (!1),r,q)
end
abbrev vY QPc(dvs:γ V)QE4 QHR:TE:=λσHQ=>tσH λvsH1=>sp QEiH1Q E
abbrev vu! QGE QPc(dvs:γ V)QE4 QHR:TE:=λσHQ=>tσH λvsH1=>∀x dx,H1x=ε->H1 dx=ε->dx≠x->
 sp (.ο x::QEi) (mE (mEH1 dx^.own x) x^.TM C dx []) (λvbF=>v=.vS/\Q QCdbF) E
abbrev p6 QAw(fd:uP)QGU(ds:γη):Prop:=
 ∀QCDQEY,K.In s.ρ->(us++ds).β=ps.β->BindsTo! s fd QL9^ps.zip QLa
def p6.u7 QC1(h:∀us:γη,us.β=ps.β->bindArgs! bQL9=pure QFP):p6Kbps []:=λsus_a=>by
 rw[vP]at a⊢;show .of_eq^husa
abbrev AO(r0:CXT)QDl QE4:Prop:=∀QAKQCCQAH QCD(e:η)QLV,f'XaIσH s->r0 X.US H s Ee s'->X.xe e s'
section
variable{X:n8}{r0:CXT}{k:χ}{fC:θ}{fd:uP}{ps:γbE}{sp:wY}{dvs:γ V}{ds:γη}{E:r3}{xm:bE}{pb8 apos:nV}{eo:bI}{es:γbI}{bW:TE}{t:w4}
def oX!{c:St}QAa(i:q4k X.A)(n:p6 X.K fd psds)(l:oG dvs ds)(g:AOr0X E)QMv QGb(h:sp QEiHQ E):lZQAA X.A (wGQArus) (xWXacQ) X.xe s:=by
 let d:oGQEiQLa:=r.append l;let j:(us++ds).β=ps.β:=by rw[<-d.β];show F.eN ____h
 show zO (BS (F.n6 X.A X.US sHQL9QLaQEiQ Ei I.env0 (n sus I.kIn j) dh) λr s'b=>?_);cases r with
 |G2 e=>show gacH se s'Ib
 |ok q=>
  cases q with
  |ret u=>show I.after b
  |next=>show oA.Q5 b
  |brk=>show oA.Q5 b
  |cont=>show oA.Q5 b
def Wp! QAa(j:q4k X.A)(u:pUXx)(l:X.mg x<*.ο f)(n:Y7 X.K QAr=π)(z:p6 X.K fd psds)(y:oG dvs ds)(i:AOr0X E)(B:qTXQKJt)(c:((x==("__debug__":bE))=ν)>>>0)(v:QBV>>>4)QBo:mPXQD'^vY sp dvs Et:=by
 intro a sgHQ Ih;show y0 (CGIul ?_ c);show callWith_K! (h₀:=X.υ) I.ok.mod.kin n (nb (Bb8a sgH_ Ih) λusDh0=>h0.jW λvsJdrq=>(d.kIn,3)) vb;show oX! Fjzyidrq
structure D5 QAw(Cf:θ):Prop where
 makes!:makesIn! KC=π
 init!:Δ.W.Xu KQAk "__init__"<*δQAr
 fn:isFn KQAr=π
 C9:Y7KQAk=π
def Ch!{d:St}QS7 QAa(q:q4 (k+1) X.A)(B:p6 X.K fd psds)(z:oG dvs ds)(n:AOr0X E)(I:f'XbdH s)QGb(h:∀x dx,Hx=ε->H dx=ε->dx≠x->sp (.ο x::QEi) QN4 (λv N=>v=.vS/\Q QCdN) E):lZQAA X.A QL_ (xWXbdQ) X.xe s:=by
 let i:=hQBP s⁻¹ (I.rv.ax QIe) QEAQR5;let c:=f'.made (C:=C) I;let g:oG (V.ο QBP::QEi) (η.ο QBP::QLa):=.nF ζ^r.append z;let y:(η.ο QBP::us++ds).β=ps.β:=by
  let e:=g.β;rw[F.eN ____i]at e;show e.UH
 show zO (GC! (f:=f) I.kIn M.makes M.init (T8.mp M.fn)^BS (F.n6 _ X.US __ (η.ο (s⁻¹+1)::us,[]) (η.ο (s⁻¹+1)::(us++ds)) __ E (q.make Cus [])
  (c.env0.make Cus []) (B_ (η.ο (s⁻¹+1)::us) c.kIn y) g i) λr s'a=>?_)
 cases r with
 |G2 e=>show n b d__e s'ca
 |ok D=>
  cases D with
  |ret u=>
   let(v,H',L,j,J,l):=c.after a;subst J;show(j,(V.ο QBP,H',L,0,l))
  |next=>show oA.Q5 a
  |brk=>show oA.Q5 a
  |cont=>show oA.Q5 a
def FO QS7 QAa(j:q4 (k+1) X.A)(n:pUXx)(l:X.mg x<*.ο C)(y:p6 X.K fd psds)(v:oG dvs ds)(i:AOr0X E)(z:qTXQKJt)(c:((x==("__debug__":bE))=ν)>>>0)(u:QBV>>>4)QBo:mPXQD'^vu! C sp dvs Et:=by
 intro a sgHQ Ih;show y0 (CGInl ?_ c);show callWith_K! (h₀:=X.υ) I.ok.mod.kin M.C9 (nb (zb8a sgH_ Ih) λusBh0=>h0.jW λvsDdrq=>(d.kIn,3)) ub;show Ch! M Fjyvidrq
def wb! QS7 QAa(d:q4 (k+1) X.A)(i:pUXx)(g:X.mg x<*.ο C)(l:p6 X.K fd psds)(j:oG dvs ds)(c:AOr0X E)(a:((x==("__debug__":bE))=ν)>>>0):mPXQTJ^vu! C sp dvs E tNil:=by
 intro b s nHQ Ih;show y0 (CGIig ?_ a);show Δ.W.callWith_K0 I.kIn M.C9^Ch! (us:=[]) M Fdljc I .nS h
end
section
variable{X:n8}{r0:CXT}{k:χ}{fC:θ}{fd:uP}{psks:γbE}{sp:wY}{E:r3}{xm:bE}{pb8 apos kpos!:nV}{eo:bI}{es:γbI}{kws!:γ Keyword}{eJbW:TE}{tj8:w4}{nm:ψbE}
variable{g:γη->γη->γη}{Vp!:γ V->γ V->γ V}
end
structure n9(N P:γbE)QKm:Prop where
 XA:sc.XA=.XH
 co:sc.isCoroutine=ν
 gen!:sc.isGenerator=ν
 eR:N.qg
 pre:N.Uj P.β=P
 par!:∀x∈P,sc.TW.ς x<*.local\/sc.TW.ς x<*.aQ
 nofree!:∀y∈sc.TW,y.2≠.VC
def jC! QKp{x:bE}:∀{a:γQTH}QH',QUY->bindL F6amx=mx
 |[],_,_=>rfl
 |(n,v)::r,m,h=>by
  unfold bindL;rw[jC! λw hw=>h w^qO_ hw];split
  .have:x≠n:=by rintro ζ;show hvcG
   simp[this]
  .rfl
def BL! QKp{x:bE}:∀{a:γQTH}QH',QUY->bindC F6amx=mx
 |[],_,_=>rfl
 |(n,v)::r,m,h=>by
  unfold bindC;rw[BL! λw hw=>h w^qO_ hw];split
  .rfl
  .have:x≠n:=by rintro ζ;show hvcG
   simp[this]
def Ad! QKp{x:bE}{v:η}:∀{P:γbE}QTKQEgQH',P.qg->P[i]?<*x->vs[i]?<*v->F6x<*.local->
  bindL F6 (P.zip vs) m x<*v
 |[],_,_,_,_,h,_,_=>by simp at h
 |_::_,[],_,_,_,_,h,_=>by simp at h
 |p::P,w::vs,0,m,a,h1,h2,b=>by
  simp at h1 h2;subst h1;subst h2;change bindL F6QFump=_;unfold bindL;rw[jC! λvc=>(ZL.mp a).1 (of_mem_zip! c).1,mGb];simp
 |p::P,w::vs,i+1,m,a,h1,h2,b=>by
  change bindL F6QFumx=_;unfold bindL;show Ad! (i:=i) (ZL.mp a).2 QR6QR7b
def jD! QKp{x:bE}{v:η}:∀{P:γbE}QTKQEgQH',P.qg->P[i]?<*x->vs[i]?<*v->F6x≠δ .local->
  bindC F6 (P.zip vs) m x<*v
 |[],_,_,_,_,h,_,_=>by simp at h
 |_::_,[],_,_,_,_,h,_=>by simp at h
 |p::P,w::vs,0,m,a,h1,h2,b=>by
  simp at h1 h2;subst h1;subst h2;change bindC F6QFump=_;unfold bindC;rw[BL! λvc=>(ZL.mp a).1 (of_mem_zip! c).1,mFb];simp
 |p::P,w::vs,i+1,m,a,h1,h2,b=>by
  change bindC F6QFumx=_;unfold bindC;show jD! (i:=i) (ZL.mp a).2 QR6QR7b
abbrev ZR QN5 QAJ:St:=vs.Tx δ++nM (N.β-vs.β) ε
abbrev aW(r0:CXT)QLB QBg QAw QAy QRH QN5(bA:bE)(g8:qA)QFO(cd:η)(A:o7)QER QCD QAH QE4:n8 where
 Ω:=P
 w:=w
 K:=K
 mg:=mg
 υ:=υ
 A:=A.jq QFj
 N:=N
 Xy!:=s
 H₀!:=H
 fN:=envOfC bAg8 s⁻¹ f cd
 b7:=b7
 US:=envOfC bAg8 s⁻¹ f cd::b7
 ex:=[]
 TN:=π
 fn:=λ_=>π
 pn!:=[]
 xe:=λe s'=>lZQBE (A.jq QFj) (ZGQFje) QLbQKqs'
def Ci!{sc:qA}(h:sc.TW.ς x<*.aQ):∃c,(cellsFrom! n sc.TW []).ς x<*c:=by
 let q:=Δ.W.cellsFrom_some sc.TW n []^.UR h;show ψ.isSome_iff_exists.mp q
def H_!{F:CXT}{P:nA}QGa QC1 QEN{υ:n3}{Nps:γbE}{bA:bE}{d:qA}{f:θ}{t:η}QRq{b7:γ Env}{s B:Θ}QGr{E:r3}QCE{vs:γ V}(S:n9Npsd)(L:A.T6=ε)(g:AZPwK mg υ Ab7sH)(Q:vs.β=ps.β)QGb(x:InCallC! s s⁻¹ (bindL (envOfC bAd s⁻¹ ft).F6 QFP λ_=>ε) (cellsFrom! QBP d.TW []) (bindC (envOfC bAd s⁻¹ ft).F6 QFP λ_=>ε) B):f' (aWF PwK mg υ NbAdft Ab7sH E) [] QL'HB:=by
 let J:ps.β≤N.β:=by have:=oR γ.β S.pre;rw[rS]at this;lia
 let(h1,O,ζ,D):=x.done;let j:∀b:θ,b∉(aWF PwK mg υ NbAdft Ab7sH E).ex:=λbz=>mW (show b∈([]:γθ)from z) (!1);show((g.mod,S.XA,5,nZ_,λyzch1h2=>?_,λy l=>?_,λyc_h=>?_,λ_=>L,o7.frames_deeper g.Xe,.P2 (0,0),λbz=>mWz^jb,g.bs,g.bsz,λb__=>jb,λbz=>mWz^jb,g.funs,g.frf),
  rfl,g.pH,rJ.Zo D,(_,x.toInCall.ns,λiyvh1h2R=>?_),λych=>(_,x.aQ ych),g.rv.ax^nZ_,λych=>?_,λpb5=>mW (show p∈([]:γ (θ×pZ))from b5) (!1),g.rv.Zo D,3)
 .exact name_of_addr! x.apart (Δ.Vm h1)^Δ.Vm h2
 .let l:d.TW.ς y<*.aQ\/d.TW.ς y<*.VC:=l;rcases l with l|l
  .exact Ci! l
  .exact mWζ^S.nofree _^Δ.Vm l
 .exact XsQOZ
 .let o:i<vs.β:=by
   unfold ZR at h2;by_cases o:i<vs.β
   .exact o
   .rw [w5QTL]at h2;rw[γ.getElem?_replicate]at h2;split at h2<;>cases h2
  let M:vs[i]?<*v:=by
   unfold ZR at h2;rw[u1QTL,na]at h2;cases e:vs[i]? with
   |ε=>rw[e]at h2;cases h2
   |δ a=>rw[e]at h2;cases h2;rfl
  let(u,C,I):=r.get M;let b5:ps[i]?<*y:=by
   rw[<-S.pre,γ.getElem?_take_of_lt^EJoQ];show h1
  let m:ps.qg:=by rw[<-S.pre];show S.eR.sublist QQC
  show(u,I,3);rcases S.par y (v7b5)with k|k
  .exact .UR (k,Ad! mb5Ck)
  .obtain ⟨c,e⟩:=Ci! (n:=s⁻¹+1) k;show .P2 (.UR k,c,e,3);let q:=x.aQ yce;rw[jD! mb5C^by change d.TW.ς y≠_;rw[k];decide]at q;show q
 .exact g.rv.ax^XsQOZ
 .unfold ZR;change _=N.β;rw[o9,j',r9];lia
def V0{z:CXT}{P:nA}{w:o4}{K:qI}{mg:bE->ψη}{υ:n3}{k:χ}{f:θ}{cJbA:bE}{c:zR}{d:γcZ}{a:qA}{TkVcR pm bY ct Z:η}{an Y:ψθ}{D:pV^ψη}{Nps:γbE}{B:wY}(lk:K.ς f<*(Z,Y,.YN^q3cJbAcda TkVcR pm an bY ct,D))(M:t9KbYbA=π)(S:n9Npsa)(eN:∀vsHQ E,BvsHQ E->vs.β=ps.β)(i:∀(A:o7)(b7:γ Env)(s:Θ)(H:m1)(vs:γ V)(Q:oE)(E:r3),q4k^A.jq^envOfC bAa s⁻¹ fbY->BvsHQ E->
   ∃t,tR (aWz PwK mg υ NbAafbYAb7sH E) dt/\t {pO:=λ_H'=>Q .vS H',CF:=Q} (ZRNvs) H):mTPwK mg υz (k+1) f (q3cJbAcda TkVcR pm an bY ct) psB:=by
 show(eN,λAb7sH UusvsQ ELpcYrl=>?_);let eG:=eN____l;let X:K.In s.ρ:=p.mod.kin.hL λboe=>(p.bs boe).1;let F:s.ρ.NoLimit:=p.mod.nolimit.hL λboe=>(p.bs boe).1;let h:∀y∈ps.zip us,a.TW.ς y.1<*.local\/(a.TW.ς y.1=δ .aQ/\((cellsFrom! QBP a.TW []).ς y.1).BC=π):=λOd7=>by
  let(n,v):=O;rcases S.par n (of_mem_zip! d7).1 with q|q
  .exact .UR q
  .exact .P2 QIB
 show eC! L.depth (X__ lk) ζ S.co S.gen ζ (Δ.W.codeRec_of X M) QFQ;show wpAny_newFunctionEnv_cells! S.XA h λfN he Rx=>?_;subst he;show(F.hL x.toInCall.AP,codeAny_func! ?_);let(t,fP,e9):=i Ab7sHvsQ E (L.jq _) l;let I:f'QHJ [] QL'H R:=H_! S L.hd peGrx;show pW (fP [] RQL'H_ Ie9) (λj6s'j=>?_) λe s'j=>j;let m:∀{g:St}QFs{v:V}{u:η},f'QHJ [] gH's'->nTvu->Qv H'->CEb7PwH sQu s':=
  λ{gH'vu}JCq=>(v,H',J.os,J.pH,J.υ,J.rv,C,q)
 cases j6 with
 |ret u=>
  let(v,g,H',J,C,q):=j;show m JCq
 |next=>
  let(g,H',J,q):=j;show m (v:=V.vS) (u:=η.ε) Jζq
 |brk=>
  let(_,_,_,q):=j;show oA.Q5 q
 |cont=>
  let(_,_,_,q):=j;show oA.Q5 q
section
variable{X:n8}{x:bE}{pb8:nV}{e:bI}{es:γbI}{t:w4}{id T:String}{r:γ V->m1->oE->Prop}
abbrev rO QR0 QHR:TE:=λσHQ=>tσH λvsH1=>rvsH1Q
def wW(o:wNXQOar)(m:pUXx)(l:X.mg x=ε)(j:Y2x<*.Rm id)(q:qTXQKJt)(k:(x≠"__name__")>>>0)(c:((x==("__debug__":bE))=ν)>>>0)(n:QBV>>>4)QBo:mPXQD'^rOrt:=by
 intro a sfHQ Ih;show y0QR8;show WC.Rows.callWith_builtin1 (nb QRO λusgd=>by let(vs,v,u,i,q1):=d;show oagfvvsusQu iq1) n b
def D9(o:wNX (.TB T) r)(m:pUXx)(l:X.mg x=ε)(j:Y2x<*.TB T)(q:qTXQKJt)(k:(x≠"__name__")>>>0)(c:((x==("__debug__":bE))=ν)>>>0)(n:QBV>>>4)QBo:mPXQD'^rOrt:=by
 intro a sfHQ Ih;show y0QR8;show WC.Rows.Wx (nb QRO λusgd=>by let(vs,v,u,i,q1):=d;show oagfvvsusQu iq1) n b
end
end _F
namespace ZC
open PyProof.Rows
section
open PySem.SeqAt
open PySem.AutoSeq1 (wpAny_loadPart')
open PySem.MeetsSeq PySem.MeetsSeq2 PySem.MeetsSeq3
end
section
variable{Ω:nA}{w:o4}{A:o7}{E:η->Θ->Prop}{s:Θ}
abbrev uA(nd:χ):ψω->χ
 |ε=>d
 |δ v=>if v<0 then(v+(n:ω)).UD else min v.UD n
def Cj!(nd:χ):uAndε=d:=ζ
def Db!(ndk:χ):uAnd^δ (k:ω)=min kn:=by
 change (if (k:ω)<0 then((k:ω)+(n:ω)).UD else min (k:ω).UD n)=min kn;rw[mF Hk!,DM]
def Pi!(nd:χ)(b:d≤n)(o:ψω):uAndo≤n:=by
 cases o with
 |ε=>show b
 |δ v=>
  change (if v<0 then(v+(n:ω)).UD else min v.UD n)≤n;by_cases a:v<0
  .rw [mGa];lia
  .rw [mFa];show χ.min_le_right __
def rL!(v:ω)(nd:χ):(if v<0 then max (v+(n:ω)) 0 else min v (n:ω))=((uAndQFq:χ):ω):=by
 change (if v<0 then max (v+(n:ω)) 0 else min v (n:ω))=(((if v<0 then(v+(n:ω)).UD else min v.UD n):χ):ω);by_cases a:v<0
 .simp only[mGa];lia
 .simp only[mFa];lia
def qd! QV2 QCv:Builtin.Slice.sliceAdjust lo a 1 (n:ω)=(((uAn 0 lo:χ):ω),((uAnna:χ):ω),):=by
 let h1:¬ ((1:ω)<0):=by lia
 unfold Builtin.Slice.sliceAdjust;simp only[h1,if_false!];show Prod.ext ?_ ?_
 .cases lo with
  |ε=>rfl
  |δ v=>show rL! vn 0
 .cases a with
  |ε=>rfl
  |δ v=>show rL! vnn
def pb! QS4:Builtin.Slice.slicePlaces (i:ω) (j:ω) 1=j-i:=by
 unfold Builtin.Slice.slicePlaces;let h1:(1:ω)>0:=by lia
 simp only[h1,if_true!,ω.ediv_one];split<;>lia
def Bu!(p:IsPart! vo)(h:Qo s):lZQASA (Builtin.Slice.slicePartIndex v) Q E s:=by
 cases p with
 |ε=>show slicePart_none! h
 |tV i t=>show slicePart_int! h
def Pk!{lo b:ψω}QLU(f:s.ρ.IsSliceOf deTz6 .ε)QVW(e:IsPart! z6b)(h:Q (((uAn 0 lo:χ):ω),1,uAnnb-uAn 0 lo,) s):lZQASA (Builtin.Slice.sliceApplied QDC^pure (n:ω)) Q E s:=by
 let(os,a,g,c):=id f;unfold Builtin.Slice.sliceApplied Builtin.Slice.sliceFields;show lT^lT^qUac (x:=eT) ζ^lT^qUac (x:=z6) ζ^lT^qUac (x:=.ε) ζQBp;show lT (slicePart_none! ?_);change lZ__ (if ((1:ω)==0)=π then _ else _) __ s;rw[mF (!0)];show lT^Bu! pl^lT^Bu! e^lTQBp;change lZ__ (match Builtin.Slice.sliceAdjust lo b 1 (n:ω)with|(lo,b)=>pure (lo,(1:ω),Builtin.Slice.slicePlaces lo b 1,)) __ s;rw[qd! lo b n];change lZ__ (pure (((uAn 0 lo:χ):ω),(1:ω),Builtin.Slice.slicePlaces ((uAn 0 lo:χ):ω) ((uAnnb:χ):ω) 1,)) __ s;rw[pb!];show mRh
def JH!(xs:pVη)(ik:χ):((γ.b_ k).filterMap λ(m:χ)=>xs[((i:ω)+(m:ω)*1).UD]?).Λ=((xs.Zh.Gd i).Uj k).Λ:=by
 let e:(λ(m:χ)=>xs[((i:ω)+(m:ω)*1).UD]?)=λm=>xs[i+m]?:=by
  funext m;have:((i:ω)+(m:ω)*1).UD=i+m:=by lia
  rw[this]
 rw[e];have:=pick_run! xsik;rw[γ.filterMap_map]at this;let a:((λx=>xs[x]?)∘λx=>i+x)=λm=>xs[i+m]?:=ζ;rw[a]at this;rw[this]
def GX!{lo c:ψω}(d:IsTup! s.ρ ta)(k:s.ρ.IsSliceOf jeTz6 .ε)QVW(l:IsPart! z6c)(hw:¬ (uA a.fC 0 lo=0/\uA a.fC a.fC c=a.fC))(h:Q QAY {s with ρ:=s.ρ.Uu {dM:=.TB "tuple",mY:=.Yv ((a.Zh.Gd QNN).Uj QEs).Λ} })(hsz:a.fC≤Φ):lZQASA (getItem! QFR^.ο j) Q E s:=by
 let b:sizeOk!^.Yv ((a.Zh.Gd QNN).Uj QEs).Λ:=by
  change ((a.Zh.Gd QNN).Uj QEs).Λ.fC≤Φ;rw[q9,rS,zM,IF];omega
 let o:uA a.fC a.fC c≤a.fC:=Pi! __QBFc;let(os,e,g,n):=id k;let i:s.Yf (.ο j) "slice":=(os,e,g);unfold getItem!;try with_reducible show tO ?_
 first|show lTQBp|skip
 show lT (wpAny_sequenceKey! d.YQ (!0) ?_);show lT^LJ (cJ:=bE.WK "__getitem__") d.YQ WC.Rows.slot_tuple_getitem
  (DI WC.Rows.slot_tuple_getitem d.YQ entry_tuple_getitem! ?_^args_tuple_getitem! __)
 change lZ__ (Builtin.Zv.tupleItemsOf QFR>>=_) __ s;show lT (tupleItemsOf_! d ?_);show lT (wpAny_typeOf! i ?_);rw[mG (!0)];show lT (Pk! k pl l ?_);let f:¬ (QDD=π):=by
  intro q;rw[xI,xI]at q;let q1:((uA a.fC 0 lo:χ):ω)=0:=ZZ q.1.1;let q2:uA a.fC a.fC c-uA a.fC 0 lo=a.fC:=ZZ q.2;show hw (Jo! q1,9)
 change lZ__ (if QDD=π then _ else _) __ s;rw[mFf,JH!];first
  |show lT (m:=Builtin.Zv.tupleExact _)^I3QJJb
  |show lT (m:=Builtin.Zv.tupleExact _)^I3 (lT^mRQJJ) b
  |show lT^lT (m:=Builtin.Zv.tupleExact _)^I3 (mRQJJ) b
  |show lT^lT (m:=Builtin.Zv.tupleExact _)^I3QJJb
end
end ZC
namespace _F
open PySem.Spec PyProof.Rows
@[reducible]def fG:=St->m1->(Option Int->m1->Prop)->Prop
abbrev PO QDl(e:ψbI)(t:fG):Prop:=
 ∀QAKQCDQCCQAHQVX,f'XaIσH s->tσHQ->
  lZ QAA X.A (evalPart! e X.fN) (λu s'=>∃oH',f'XaIσH's'/\IsPart! uo/\Qo H') X.xe s
abbrev tNoPart!:fG:=λ_HQ=>Qε H
inductive Pl! QVX(x:V)QD4:Prop
 |mk (i:_) QNM (_:Q (δi) H1)
abbrev Pm!(t:TE):fG:=λσHQ=>tσH^Pl! Q
section
variable{X:n8}{e:bI}{eJ:TE}{lo g6:ψbI}{fSH9:fG}{b8p2:nV}
def z8:POXε tNoPart!:=by
 intro a sbHQ Ih;rw[evalPart_none!];show mR (ε,H,I,.ε,h)
def CS QFv:POX (δe)^Pm! eJ:=by
 intro a s cHQ I hw;rw[evalPart_some!];show nb (ha s cH _ I hw) λujb=>?_;let(x,g,f,d,q1):=b;let(i,ζ,q):=q1;let(t,ζ):=d;show(δi,g,f,.tV i t,q)
abbrev KA QDl QKr:Prop:=
 ∀QAKQCDQCC QAH(x:V)(veTz6:η)QLc(vU:θ)QAR,f'XaIσH s->nTxv->s.ρ.IsSliceOf vUeTz6 .ε->IsPart! eT lo->IsPart! z6g6->rx lo g6HQ->
  ∃T id,typeLookup! (.TB T) "__getitem__"=pure^δQOa/\s.Yf v T/\lZQAA X.A (getItem! v^.ο vU) QC0 X.xe s
abbrev Pn! QKr QRp(fSH9:fG):TE:=λσHQ=>eJσH λxH1=>fSσH1 λlbF=>H9σbF λubJ=>rxlubJQ
def yI(t:KAXr)(B:mPXeeJ)(y:POX lo fS)(o:POXg6H9):mPX (.Subscript eQRPb8)^Pn! reJfSH9:=by
 intro a sdHQ Ih;show Subscript_! (nb (Ba sdH_ Ih) λvjg=>?_);let(x,M,J,k,q1):=g;show wpAny_Slice! (nb (yajd M_ Jq1) λeTs2⟨l,L,F,pl,q2⟩=>nb (oa s2dL_ Fq2) λz6cf=>?_);let(u,i,E,n,m):=f;rw[evalPart_none!];show mR ?_;let D:f'Xadi {c with ρ:=c.ρ.Uu {dM:=.TB "slice",mY:=.xq #[eT,z6,.ε]} }:=E.Zo (t':=c.mU) λb Nq=>nN_q;let(T,id,C,p,z):=ta {c with ρ:=c.ρ.Uu {dM:=.TB "slice",mY:=.xq #[eT,z6,.ε]} } dixveTz6lu c⁻¹ QD k (n3.IsSliceOf.new ..) pl n m;change lZQAA X.A (subscriptTail! eQRPv^.ο c⁻¹) (xWXadQ) X.xe {c with ρ:=c.ρ.Uu {dM:=.TB "slice",mY:=.xq #[eT,z6,.ε]} };show tail_any! (ops!:=[.ο c⁻¹,v]) pCzQAN
abbrev yA QCR QLc:γ V:=(xs.Gd QJK).Uj QHf
def di! QCR QLc:(yAxs lo g6).β≤xs.β:=by
 unfold yA;rw[rS,zM];show UC!
inductive dm! QAw(x:V)QV3(g6:ψω)QAH QAR:Prop
 |mk QVU QEq (_:n'KHaxs) (_:¬ (ZC.uA xs.β 0 lo=0/\ZC.uA xs.β xs.β g6=xs.β)) (_:∀p,Hp=ε->Q QAl^mEHp^.iT QOb)
def hj!:KAX^dm! X.K:=by
 intro d slHxveTz6 lo g6mQ Igk pl ih;let(a,xs,ζ,j,hw,q):=h;cases g;let(eE,r,f,hz):=I.Xp j;let c:eE.Λ.fC=xs.β:=by rw[q9];show r.β.UH
 show("tuple",_,WC.Rows.slot_tuple_getitem.ς,f.YQ,3);show ZC.GX fk pl i (by rw[c];show hw) ?_ (by rw[c];show hz);rw[c];show(.ο s⁻¹,_,I.laid (t':=s.mU) (o:=.iT QOb) QUZQBF ?_,0,q_QEA);show(n5 (di! xs lo g6) hz,_,(r.Gd QJK).Uj QHf,IsTup.new __)
end
abbrev D3 QCv(i:ω):ψχ:=if 0≤i then(if i<n then δ i.UD else ε)else if -(n:ω)≤i then δ (i+n).UD else ε
abbrev qZ{α:Type}(xs:γα)(i:ω):ψα:=(D3 xs.β i).bind λj=>xs[j]?
def rx!(h:D3ni<*j):seqIndex?! i n=δj/\j<n/\-(n:ω)≤i/\i<n:=by
 unfold D3 at h;by_cases a:0≤i
 .rw [mGa]at h;by_cases h1:i<n
  .rw [mGh1]at h;let e:i.UD=j:=ψ.δ.WZ h;show(by rw[seqIndex_of! ah1,e],9,9,h1)
  .rw [mFh1]at h;cases h
 .rw [mFa]at h;by_cases h1:-(n:ω)≤i
  .rw [mGh1]at h;let e:(i+n).UD=j:=ψ.δ.WZ h;show(by rw[seqIndex_neg! (S2a) h1,e],9,h1,9)
  .rw [mFh1]at h;cases h
def wi!{xs:γa}{v:a}(h:qZxsi<*v):∃j,seqIndex?! i xs.β=δj/\xs[j]?=δv/\j<xs.β/\-(xs.β:ω)≤i/\i<xs.β:=by
 unfold qZ at h;cases e:D3 xs.β i with
 |ε=>rw[e]at h;cases h
 |δ j=>
  rw[e]at h;let(h1,h2,c,b):=rx! e;show(j,h1,h,h2,c,b)
def r8{xs:γa}QMw{v:a}(h:xs[j]?<*v):qZxs (j:ω)<*v:=by
 let b:j<xs.β:=(m9h).1;let e:D3 xs.β (j:ω)<*j:=by
  unfold D3;rw[mGh6,mG^nv! b];simp
 unfold qZ;rw[e];show h
def tw!(xs:γa)(v:a):qZ (xs++[v]) (-1)<*v:=by
 let b:(xs++[v]).β=xs.β+1:=by simp
 let e:D3 (xs++[v]).β (-1)<*xs.β:=by
  unfold D3;rw[b,mF (!0),mG (!6)];congr 1;lia
 unfold qZ;rw[e];change (xs++[v])[xs.β]?<*v;simp
abbrev lh!(b:bI):Prop:=∀oi,subscripted! bνoi=operate! [o,i]^getItem! oi
abbrev yP QDl(r:f5):Prop:=
 ∀(value! Zf!:bI)QAKQCDQCCQAH QP8(vu:η)QAR,f'XaIσH s->nTxv->nTyu->rxyHQ->
  subscripted! Zf! ν v u=operate! [v,u]^getItem! vu->lZQAA X.A (subscriptTail! value! Zf! vu) QC0 X.xe s
abbrev JJ QDl(id:String)QDs:Prop:=
 ∀QAKQCDQCC QAH(x:V)QCR(v:η)QEYQAR,f'XaIσH s->nTxv->oGxsus->rxxsHQ->
  lZ QAA X.A QVY QC0 X.xe s
section
variable{X:n8}{a b:bI}{bWdE:TE}{b8:nV}
def yP.or(h:yPXr)(h':yPXk):yPX (λxyHQ=>rxyHQ\/kxyHQ):=by
 intro c de sfHxyvuQ Iigqj;rcases q with q|q
 .exact hcde sfHxyvuQ Iigqj
 .exact h'cde sfHxyvuQ Iigqj
def mM(i:yPXr)(k:mPXabW)(j:mPXbdE)(g:lh! b):mPXQIfQKo:=by
 intro c sdHQ Ih;show Subscript_! (Ht! kj Ih λvu s2xymlfeq=>iabc s2dmxyvuQl feq^g__)
inductive V8 QAw(x:V)(y:V)QAH QAR:Prop
 |mk (pxsiv:_) QJu QNO (_:pGKHpxs) (_:qZxsi<*v) QKs
inductive RG QAw(x:V)(y:V)QAH QAR:Prop
 |mk (pxsiv:_) QJu QNO (_:n'KHpxs) (_:qZxsi<*v) QKs
inductive rIxS!(x:V)(y:V)QAH QAR:Prop
 |mk (zic:_) QUJ QNO (_:z.β≤Φ) (_:qZ z.Ym.Zh i<*c) (_:Q QDmH)
def Bq!:yPX^V8 X.K:=by
 intro efc slHxyvuQ IB Ahm;let(p,xs,i,z,ζ,ζ,C,E,q):=h;cases B;let(t,ζ):=A;let(eE,r,pl,hz):=I.oh C;let(j,h1,h2,M,J,F):=wi! E;let(w,o,g):=r.get h2;let D:=r.β;let L:=R0;let d:xWXclQw s:=(z,H,I,g,q);by_cases n:0≤i
 .let k:i.UD=j:=by
   rw[seqIndex_of! n F]at h1;show ψ.δ.WZ h1
  show item_listR! pl.Xt n (Hb! L F hz) (by rw[k];simpa using o) dm
 .let k:(i+(eE.Λ.fC:ω)).UD=j:=by
   rw[seqIndex_neg! (S2n) J]at h1;rw[q9,<-D];show ψ.δ.WZ h1
  show subscriptTail_builtinR! (x:=w) pl.Xt.YQ slot_list_getitem.ς
   (wpAny_getItem_list_neg! (Q:=λr s'=>r=w/\xWXclQr s') pl.Xt (S2n) (by rw[q9]<;>lia) (Hi! L J hz) (by rw[k];simpa using o) (0,d)) m
def YU:yPX^RG X.K:=by
 intro dec skHxyvuQ Imlhn;let(p,xs,i,z,ζ,ζ,o,B,q):=h;cases m;let(t,ζ):=l;let(eE,r,pl,hz):=I.Xp o;let(j,h1,h2,J,F,E):=wi! B;let(w,C,f):=r.get h2;let A:=r.β;let D:=R0;let g:xWXckQw s:=(z,H,I,f,q);show subscriptTail_builtinR! (x:=w) pl.YQ slot_tuple_getitem.ς
  (getItem_tuple! (j:=j) (Q:=λr s'=>r=w/\xWXckQr s') pl (Hi! D F hz) (Hb! D E hz) (by rw[q9,<-A];show h1) (by simpa using C) (0,g)) n
def EP:yPX rIxS!:=by
 intro de f s AHxyvuQ Ikghl;let(z,i,c,ζ,ζ,hz,n,q):=h;let(t,ζ):=k;let(t',ζ):=g;let(j,h1,h2,C,p,o):=wi! n;let m:z.Ym.Zh.β=z.β:=by simp[β]
 rw[m]at h1 p o;let B:=R0;show tail_any! (typeIs_str! szt) slot_str_getitem.ς (getItem_str! (c:=c) (by
  let w:decide (i < -(2^63:ω))=ν:=pI (!6);let r:decide (i≥2^63)=ν:=pI (!6);rw[w,r,b9.w7]) (by rw[h1];simpa using h2) (.uM ⟨#[c]⟩,H,I.y4 _,(_,0),q)) l
abbrev Po! QAw:f5:=λxyHQ=>V8KxyHQ\/RGKxyHQ\/rIxS! xyHQ
def xr!:yPX^Po! X.K:=Bq.or^YU.or EP
def pD! QR9(nj:χ)QVK:Y6 (·.Um j u) {dM:=.TB "list",mY:=.Yv eE.Λ n}={dM:=.TB "list",mY:=.Yv (eE.X6 ju).Λ n}:=by
 simp[Y6]
def f'.P'{d:St}QLt QPR:∃(eE:γη)(n:χ),oGxseE/\s.ρ.Ξ p=δ {dM:=.TB "list",mY:=.Yv eE.Λ n}/\xs.β≤Φ:=by
 let(z,eE,n,r,e):=I.rv p_h;show(eE,n,r,e,z)
def f'.lstUpd{d:St}{eE its':γη}QLt QPR(j:s.ρ.Ξ p<*{dM:=.TB "list",mY:=.Yv eE.Λ n})(i:f {dM:=.TB "list",mY:=.Yv eE.Λ n}={dM:=.TB "list",mY:=.Yv its'.Λ g})(r:oGys its')QNG(t:χ):f'Xcd (mEHpQBc) {s with ρ:=s.ρ.ei pf,mU:=t}:=by
 let e:(s.ρ.ei pf).Ξ p<*{dM:=.TB "list",mY:=.Yv its'.Λ g}:=by
  rw[xFfj^by rw[i]<;>rfl,i]
 show I.write (x:=p) (e:=p) (by rw[h];trivial) QAv (λbukq=>(y1__^Ne.UH k).ξ q) (_,e) ?_;show(hz,its',g,r,e)
inductive rSetL!(o:V)(i:V)(v:V)QAH QNL:Prop
 |mk (pxskj:_) (_:o=.ο p) (_:i=.tV k) (_:Hp<*.P' xs) (_:D3 xs.β k<*j) (_:Q QM2)
def vH!:W7X rSetL!:=by
 intro c sxHoivCDuQ Iz Ayh;let(p,xs,k,j,ζ,ζ,b5,B,q):=h;cases z;let(t,ζ):=A;let(eE,n,r,d,hz):=I.P' b5;let(h1,h2,l,g):=rx! B;let e:=r.β;let E:=R0;let w:f'XcxQM2 {s with ρ:=s.ρ.ei p (Y6 (·.Um j u))}:=
  I.lstUpd b5 d (pD! eEnju) (r.X6 yj) (by rw[γ.length_set];show hz) s.mU
 by_cases m:0≤k
 .let f:k.UD=j:=by
   rw[seqIndex_of! m g]at h1;show ψ.δ.WZ h1
  show Δ.W.ki_setAt dm (Hb! Eg hz) (by rw[q9,<-e];show g) (by rw[f];show(_,w,q))
 .let f:(k+(eE.Λ.fC:ω)).UD=j:=by
   rw[seqIndex_neg! (S2m) l]at h1;rw[q9,<-e];show ψ.δ.WZ h1
  show Δ.W.ki_setBack d (S2m) (by rw[q9,<-e];show l) (Hi! El hz) (by rw[f];show(_,w,q))
def Hp!(lo c:ψω)QCv:(sliceBounds! lo cεn).1=((ZC.uA n 0 lo:χ):ω)/\(sliceBounds! lo cεn).2.1=((ZC.uA nnc:χ):ω)/\(sliceBounds! lo cεn).2.2=1:=by
 show(3,3,0)
 .cases lo with
  |ε=>simp[sliceBounds!,ZC.uA]
  |δ i=>
   simp only[sliceBounds!,ZC.uA,ψ.getD_none,show(1:ω)>0 by decide,if_true!];by_cases h:i<0
   .simp only[h,if_true!]<;>show I_! h
   .simp only[h,if_false!]<;>show IN
 .cases c with
  |ε=>simp[sliceBounds!,ZC.uA]
  |δ i=>
   simp only[sliceBounds!,ZC.uA,ψ.getD_none,show(1:ω)>0 by decide,if_true!];by_cases h:i<0
   .simp only[h,if_true!]<;>show I_! h
   .simp only[h,if_false!]<;>show IN
def im! QR9(lo c:ψω):slicePick! eE.Λ lo cε=((eE.Gd^ZC.uA eE.β 0 lo).Uj (ZC.uA eE.β eE.β c-ZC.uA eE.β 0 lo)).Λ:=by
 let(h1,h2,d):=Hp! lo c eE.Λ.fC;unfold slicePick!;rw[h1,h2,d];simp only[sliceRange_one!,pick_run!,q9]<;>rfl
inductive LQ! QAw(x:V)QV3(g6:ψω)QAH QAR:Prop
 |mk QVU QEq (_:pGKHaxs) (_:∀p,Hp=ε->Q QAl^mEHp^.P' QOb)
def SA:KAX^LQ! X.K:=by
 intro e slHxveTz6 lo dmQ Igk pl ih;let(a,xs,ζ,j,q):=h;cases g;let(eE,r,f,hz):=I.oh j;let c:=r.β;show("list",_,slot_list_getitem.ς,f.Xt.YQ,3);show wpAny_getItem_list_slice! f.Xt k pl i .ε (!1) ?_ (by rw[q9]<;>show L1c hz);rw[im!,<-c];show(.ο s⁻¹,_,I.laid (t':=s.mU) (o:=.P'^yAxs lo d) QUZQBF ?_,0,q_QEA);show(n5 (di! xs lo d) hz,_,(0),(r.Gd QJK).Uj (ZC.uA xs.β xs.β d-ZC.uA xs.β 0 lo),t8_ζ)
abbrev BE:V->b9
 |.vS=>π
 |.dW _=>π
 |.tV _=>π
 |.uM _=>π
 |_=>ν
abbrev D4:V->V->b9
 |.vS,.vS=>π
 |.dW a,.dW b=>a==b
 |.dW a,.tV b=>(if a then 1 else 0)==b
 |.tV a,.dW b=>a==(if b then 1 else 0)
 |.tV a,.tV b=>a==b
 |.uM a,.uM b=>a==b
 |_,_=>ν
def bq!(d:nTyu)(c:nTxv)(f:BEy=π)(e:BEx=π):Wj.sf A suv^D4yx:=by
 cases y with
 |vS=>
  cases d;cases x with
  |vS=>cases c;show Wj.sf.Ki _
  |dW b=>cases c;show Wj.sf.none_bool b
  |tV b=>let(t,ζ):=c;show Wj.sf.none_int bt
  |uM b=>let(t,ζ):=c;show Wj.sf.none_str bt
  |_=>show mW (show ν=π from e) b9.UF
 |dW a=>
  cases d;cases x with
  |vS=>cases c;show Wj.sf.bool_none a
  |dW b=>cases c;show Wj.sf.bool_bool a b
  |tV b=>let(t,ζ):=c;show Wj.sf.bool_int a bt
  |uM b=>let(t,ζ):=c;show Wj.sf.bool_str a bt
  |_=>show mW (show ν=π from e) b9.UF
 |tV a=>
  let(t',ζ):=d;cases x with
  |vS=>cases c;show Wj.sf.int_none at'
  |dW b=>cases c;show Wj.sf.int_bool at'b
  |tV b=>let(t,ζ):=c;show Wj.sf.int_int at'bt
  |uM b=>let(t,ζ):=c;show Wj.sf.int_str at'bt
  |_=>show mW (show ν=π from e) b9.UF
 |uM a=>
  let(t',ζ):=d;cases x with
  |vS=>cases c;show Wj.sf.str_none at'
  |dW b=>cases c;show Wj.sf.str_bool at'b
  |tV b=>let(t,ζ):=c;show Wj.sf.str_int at'bt
  |uM b=>let(t,ζ):=c;show Wj.sf.str_str at'bt
  |_=>show mW (show ν=π from e) b9.UF
 |_=>show mW (show ν=π from f) b9.UF
abbrev CK!(x:V)QVK:b9:=match u with
 |.ε=>D4 .vS x
 |.bC b=>D4QGIx
 |.tV i _=>D4QKGx
 |.uM z _=>D4 (.uM z) x
 |_=>ν
def EB!(r:nTyu)(f:BEy=π):CK! xu=D4yx:=by
 cases y with
 |vS=>cases r;rfl
 |dW b=>cases r;rfl
 |tV i=>let(t,ζ):=r;rfl
 |uM z=>let(t,ζ):=r;rfl
 |_=>show mW (show ν=π from f) b9.UF
def lf!{x:V}QBm QCE QHQ(f:xs.u7 BE=π):us.I9 QQD=xs.I9 λy=>D4yx:=by
 induction h with
 |nS=>rfl
 |nF r t i=>rw[γ.all_cons,xI]at f;rw[γ.any_cons,γ.any_cons,EB! r f.1,i f.2]
def Cm! QRq{s:Θ}{x:V}{v:η}(d:nTxv)(e:BEx=π)QBm QCE QHQ(f:xs.u7 BE=π):∀u∈us,Wj.sf A suv^CK! xu:=by
 induction h with
 |nS=>show λuc=>by cases c
 |nF r t i=>
  intro gc;rw[γ.all_cons,xI]at f;rcases u3.mp c with ζ|c
  .rw [EB! r f.1];show bq! rd f.1 e
  .exact i f.2 gc
abbrev A2(x:V)QCR:b9:=xs.I9 λy=>D4yx
inductive Vz! QAw(neg!:b9)(x:V)(y:V)QAH QAR:Prop
 |mk (pxs:_) (_:y=.ο p) (_:(pGKHpxs\/n'KHpxs)) (_:BEx=π) (_:xs.u7 BE=π) (_:Q (.dW^if neg! then !A2xxs else A2xxs) H)
def SJ:pMX (x' .In)^Vz! X.K ν:=by
 intro e siHxyvuQ Idgh;let(p,xs,ζ,c,f,fs,q):=h;cases g;rcases c with c|c
 .obtain ⟨eE,r,pl,hz⟩:=I.oh c;show Wj.in_listAt QQD pl.Xt QMAQHg;rw[show eE.Λ.I9 QQD=eE.I9 QQD by simp,lf! rfs];show q
 .obtain ⟨eE,r,pl,hz⟩:=I.Xp c;show Wj.in_tupleAt QQD pl QMAQHg;rw[show eE.Λ.I9 QQD=eE.I9 QQD by simp,lf! rfs];show q
def VV:wNX (.Rm "len") QC4:=by
 intro f siHxsusQ Irh;let(p,ys,ζ,d,q):=h;let(u,ζ,g):=x5r;cases g;let j:=R0;rcases d with d|d
 .obtain ⟨eE,e,pl,hz⟩:=I.oh d;let c:=e.β;show YL.call_len_list pl.Xt (by simp only[q9]<;>show Jr! jc hz) (.tV ys.β,H,I.y4 _,(s.mU+1,by rw[q9,c]),q)
 .obtain ⟨eE,e,pl,hz⟩:=I.Xp d;let c:=e.β;show len_tuple! pl (by simp only[q9]<;>show Jr! jc hz) (.tV ys.β,H,I.y4 _,(s.mU+1,by rw[q9,c]),q)
def bw!:wNX (.Rm "len") QE5:=by
 intro c sdHxsusQ Irh;let(z,ζ,hz,q):=h;let(u,ζ,t,ζ):=x5r;let e:=R0;show len_str! (!6) (.tV z.β,H,I.y4 _,(_,0),q)
def cK!:wNX (.TB "list") (λxsHQ=>∃pys,xs=[.ο p]/\(pG X.K Hpys\/n' X.K Hpys)/\∀l,Hl=ε->Q QGv^mEHlQBc):=by
 intro f syHxsusQ Irh;let(p,ys,ζ,i,q):=h;let(u,ζ,z):=x5r;cases z;let k:∀QR9,oGyseE->ys.β≤Φ->∀QM3(d:χ),(∀bx,s.ρ.Ξ b<*x->h'.Ξ b<*x)->
   h'.Ξ s⁻¹<*{dM:=.TB "list",wF:=ε,mY:=.Yv eE.Λ d,slots:=#[]}->xWXfyQ QAY {s with ρ:=h'}:=λeEc hz h'dge=>
  (.ο s⁻¹,_,I.laid (t':=s.mU) gQBF^show qN X.Ω X.w _h'_QBc from(hz,eE,d,c,e),0,q_QEA)
 rcases i with i|i
 .obtain ⟨eE,c,pl,hz⟩:=I.oh i;let j:=c.β;let(o,m,v,n,t):=pl.Xt;show call_list_seq! pQAvmvtQJ0 (by simp only[q9]<;>show L1j hz)
 .obtain ⟨eE,c,pl,hz⟩:=I.Xp i;let j:=c.β;let(o,m,v,n,t):=pl;show call_list_seq! pQJLmvtQJ0 (by simp only[q9]<;>show L1j hz)
def GI:wNX (.TB "tuple") (λxsHQ=>∃pys,xs=[.ο p]/\((pG X.K Hpys/\∀l,Hl=ε->Q QGv^mEHlQUa)\/(n' X.K Hpys/\Q QAlH))):=by
 intro c sgHxsusQ Irh;let(p,ys,ζ,h):=h;let(u,ζ,k):=x5r;cases k;rcases h with⟨f,q⟩|⟨f,q⟩
 .obtain ⟨eE,d,pl,hz⟩:=I.oh f;let i:=d.β;show call_tuple_list! pl.Xt (λh'm=>?_) (by simp only[q9]<;>show L1i hz);let j:f'XcgH {s with ρ:=h'}:=I.Zo (t':=s.mU) m;let n:f'Xcg (mEH h'.u_.fC QUa) {s with ρ:=h'.Uu {dM:=.TB "tuple",mY:=.Yv eE.Λ} }:=
   j.laid (t':=s.mU) (λboe=>nN_e) QBF (show qN X.Ω X.w ___QUa from(hz,eE,d,IsTup.new __))
  show(.ο h'.u_.fC,_,n,0,q_^j.rv.ax QBF)
 .obtain ⟨eE,d,pl,hz⟩:=I.Xp f;show call_tuple_same! pl (.ο p,H,I,0,q)
abbrev cy! QAw(T:String)(x:V)QAH:Prop:=match x with
 |.uM _=>T="str"
 |.tV _=>T="int"
 |.ο p=>(T="list"/\∃xs,pGKHpxs)\/(T="tuple"/\∃o,K.ς p=δo/\o.dM=.TB "tuple"/\o.wF=ε) \/
   (T="dict"/\((∃bZ,Hp<*.r6 bZ)\/∃bZ,Hp<*.dT bZ))\/(T="set"/\∃Sn,Hp<*.X6 Sn)
 |_=>oA
def vc!{l:St}(I:f'XjlH s)(r:nTxv)(ty:cy! X.K TxH):s.Yf v T/\∀a,v=.ο a->∃k,s.ρ.Ξ a=δk/\k.wF=ε:=by
 cases x with
 |uM z=>
  let(t,ζ):=r;cases(show T="str" from ty);show(typeIs_str! szt,λ_e=>nomatch e)
 |tV i=>
  let(t,ζ):=r;cases(show T="int" from ty);show(typeIs_int! sit,λ_e=>nomatch e)
 |ο p=>
  cases r;rcases ty with⟨rfl,xs,m⟩|⟨rfl,o,d,q,g⟩|⟨rfl,d⟩|⟨rfl,S,n,d⟩
  .obtain ⟨eE,_,pl,_⟩:=I.oh m;show(pl.Xt.YQ,λae=>?_);cases e;let(o,n,e,c,g,_):=pl;show(o,e,g)
  .refine ((o,I.kIn pod,q),λae=>?_);cases e;show(o,I.kIn _od,g)
  .let z:∃o,s.ρ.Ξ p=δo/\o.ExactDict:=by
    rcases d with⟨bZ,d⟩|⟨bZ,d⟩
    .obtain ⟨_,_,_,_,o,_,_,e,f,_⟩:=I.rv p_d;show(o,e,f)
    .obtain ⟨_,_,_,_,o,_,_,e,f,_⟩:=I.rv p_d;show(o,e,f)
   let(o,e,f):=z;show QR_;cases h;show(o,e,f.2.1)
  .obtain ⟨o,_,_,_,e,f,_⟩:=I.rv p_d;show QR_;cases h;show(o,e,f.2.1)
 |_=>show oA.Q5 ty
abbrev yh! QAw(T:String)QDs(to:TE):TE:=λσHQ=>to σH λxH1=>cy! K TxH1/\rx [] H1Q
abbrev vF QAw(T:String)QDs(to:TE)QHR:TE:=λσHQ=>to σH λxH1=>cy! K TxH1/\tσH1 λxsbF=>rxxsbFQ
variable{oe:bI}{es:γbI}{to:TE}{t:w4}{cJ:bE}{apos cpos:nV}{T id:String}{r:V->γ V->m1->oE->Prop}
def O9(pa:PlainAttrs! T)(g:Slot TcJ id)(i:typeOf! QOa=pure^.TB "method_descriptor")(q:JJX id r)(p:mPXo to)(f:(I8ocJ X.fN QRx=oFo X.fN)>>>4)(d:((apos.endLine==cpos.Zm)=π)>>>4):mPX (.Wm (.Za ocJ apos) [] [] cpos)^yh! X.K Tr to:=by
 intro c skHQ Ih;show wpAny_Call_method0_late! f d (nb (p c skH_ Ih) λvnj=>?_);let(x,u,m,l,ty,q1):=j;let(h1,h2):=vc! ml ty;show(T,id,pa,g,i,h1,h2,YL.callWith_builtin ζ^Δ.evalArgs_none^qcnkux [] v [] Qm l .nS q1)
def LU(pa:PlainAttrs! T)(i:Slot TcJ id)(l:typeOf!^.Rm id=pure^.TB "method_descriptor")(B:JJX id r)(A:mPXo to)(C:qTX (e::es) t)(g:(I8ocJ X.fN^oFo X.fN=oFo X.fN)>>>4)(j:(((pN cpos^Ψ (e::es) X.fN).u7 (λx=>!x.1)&&(backToKw! cpos^ZW [] X.fN).u7 (λx=>x.1.BC)
   && decide ((e::es).β+([]:γ Keyword).β+(if ([]:γ Keyword).Yj then 0 else 1)<30))=π)>>>4)(f:((apos.endLine==cpos.Zm)=π)>>>4)(z:(Ψ (e::es) X.fN=(ν,oFe X.fN,)::Ψes X.fN)>>>4)(d:((pN cpos^Ψes X.fN).I9 (·.1)=ν)>>>4):mPX (.Wm (.Za ocJ apos) (e::es) [] cpos)^vF X.K Tr to t:=by
 intro c skHQ Ih;show wpAny_Call_method_late! gjfζ (nb (Ac skH_ Ih) λvwn=>?_);let(x,F,u,p,ty,q1):=n;let(h1,h2):=vc! u p ty;show(T,id,pa,i,l,h1,h2,3);let q:=C cpos cwk F_uq1;rw[z]at q⊢;show YL.callWith_builtin (by change QM4=ν;rw[d]<;>rfl) QUb;show nb q λuss2m=>by let(vs,E,D,y,q2):=m;show Bc s2k ExvsvusQD p yq2
end
abbrev SM QDl(id:String)QDs:Prop:=
 ∀QAKQCDQCC QAH(x:V)QCR(v:η)QEYQAR,f'XaIσH s->nTxv->oGxsus->rxxsHQ->
  lZ QAA X.A QVY QC0 X.xe s
def oG.uR{x:V}QCE(h:oG [x] us):∃u,us=[u]/\nTxu:=by
 cases h with|nF r t=>cases t;show(2,r)
def oG.qW:∀QCE,oG [] us->us=[]
 |_,.nS=>rfl
def oG.FD QHQ:oG xs.FD us.FD:=by
 induction h with
 |nS=>show .nS
 |nF r t a=>
  cases t with
  |nS=>show .nS
  |nF q t'=>show .nF ra
def oG.rep QBm QCE QHQ:∀k:χ,oG (nMkxs).XQ (nMkus).XQ
 |0=>.nS
 |k+1=>by
  rw[FP,FP,PI,PI];show oG.append h^oG.rep hk
def bj!{c:Type}(l:γc):l.eraseIdx (l.β-1)=l.FD:=by
 induction l with
 |nS=>rfl
 |nF a r d=>
  cases r with
  |nS=>rfl
  |nF b r=>
   let e:(a::b::r).β-1=((b::r).β-1)+1:=by
    let h1:(a::b::r).β=r.β+2:=ζ;let h2:(b::r).β=r.β+1:=ζ;lia
   rw[e,γ.eraseIdx_cons_succ,d];all_goals rfl
def jw! QR9:∀QGT(a:γη),
  γ.foldl (λcb=>c++b) a.Λ (nMk eE.Λ)=(a++(nMkeE).XQ).Λ
 |0,a=>by simp
 |k+1,a=>by
  let e:a.Λ++eE.Λ=(a++eE).Λ:=by simp
  let d:(a++eE)++(nMkeE).XQ=a++(nM (k+1) eE).XQ:=by
   rw[FP,PI,u4]
  rw[<-d,<-jw! eEk (a++eE),<-e,FP,γ.foldl_cons]
section
variable{X:n8}{aI:γQA8}{σ:St}{H:m1}{s:Θ}{lb:θ}{xsyszs:γ V}
def f'.lset{eE its':γη}QAB(h:Hl<*.P' xs)(e:s.ρ.Ξ l<*{dM:=.TB "list",mY:=.Yv eE.Λ n})(d:f eE.Λ=its'.Λ)(a:oGys its')QNG:f'XaIσ (mEHlQBc) {s with ρ:=s.ρ.ei l^Y6f,mU:=t'}:=by
 let q:=Δ.IsL.ei ef;rw[d]at q;show I.write (x:=l) (e:=l) (by rw[h];show trivial) QAv (λiugc=>(y1 s.ρ (Y6f)^Ne.UH g).ξ c) (_,q) ?_;show(hz,its',_,a,q)
def f'.lnew QAB(a:oGyseE)QNG:f'XaIσ (mEH s⁻¹ QBc) {s with ρ:=s.ρ.Uu {dM:=.TB "list",mY:=.Yv eE.Λ},mU:=t'}:=
 I.laid QUc QBF (hz,eE,(0),a,t8_ζ)
def f'.ax QAB:H s⁻¹=ε:=I.rv.ax QBF
def f'.lstM QAB(a:Hl<*.P' xs):xs.β≤Φ/\∃(eE:γη)(n:χ),oGxseE/\xs.β=eE.β/\s.ρ.Ξ l<*{dM:=.TB "list",mY:=.Yv eE.Λ n}:=by
 let(z,eE,n,r,e):=I.rv l_a;show(z,eE,n,r,r.β,e)
def jt!(h:n≤Φ):Builtin.γ.listTooLong n=ν:=by
 unfold Builtin.γ.listTooLong;show pI^Ga! h
end
section
variable{X:n8}
inductive rAppend!(x:V)QAJ QAH QAR:Prop
 |mk (lxsy:_) QGF (_:vs=[y]) QFp (_:xs.β<Φ) (_:Q .vS^mEHl^.P' (xs++[y]))
def jn!:SMX "list.append" rAppend!:=by
 intro a sgHxvsvusQ Icdh;let(l,xs,y,ζ,ζ,b,hz,q):=h;cases c;let(u,ζ,f):=d.uR;let(z,eE,n,r,i,e):=I.lstM b;show call_meets! F.slot_list_append QKK F.entry_list_append (F.args_list_append_2 __) (Δ.list_append l eE.Λ nu^by rw[q9];lia) (e,3);show(.vS,_,I.lset (its':=eE++[u]) b e (!1) (r.append^.nF f .nS) ?_,0,q);rw[o9,γ.length_singleton];show Hf! hz
inductive rPop!(x:V)QAJ QAH QAR:Prop
 |mk (lxsy:_) QGF (_:vs=[]) QFp (_:xs[xs.β-1]?<*y) (_:Qy^mEHl^.P' xs.FD)
def YT:SMX "list.pop" rPop!:=by
 intro c soHxvsvusQ Ifgh;let(l,xs,y,ζ,ζ,d,j,q):=h;cases f;let b:=g.qW;subst b;let(z,eE,n,r,m,e):=I.lstM d;let(u,k,i):=r.get j;let a:eE.Λ[eE.Λ.fC-1]?<*u:=by
  change eE.Λ[eE.β-1]?<*u;rw[<-X0,<-m];show k
 show call_meets! F.slot_list_pop QKK F.entry_list_pop (F.args_list_pop_1 _) (MeetsSeq.list_pop_last l eE.Λ nua^by rw[q9];show L1mz) (e,3);show(y,_,I.lset (its':=eE.FD) de ?_ r.FD ?_,i,q)
 .change eE.Λ.eraseIdxIfInBounds (eE.Λ.fC-1)=eE.FD.Λ;rw[q9,γ.eraseIdxIfInBounds_toArray,bj!]
 .rw [γ.length_dropLast];lia
inductive rClear!(x:V)QAJ QAH QAR:Prop
 |mk (lxs:_) QGF (_:vs=[]) QFp (_:Q .vS^mEHlQB3)
def Uv!:SMX "list.clear" rClear!:=by
 intro b sgHxvsvusQ Idfh;let(l,xs,ζ,ζ,c,q):=h;cases d;let a:=f.qW;subst a;let(z,eE,n,r,i,e):=I.lstM c;show call_meets! F.slot_list_clear QKK F.entry_list_clear (F.args_list_clear_1 _) (AutoSeq1.list_clear_list_0 l eE.Λ n^by rw[q9];show L1iz) (e,3);show(.vS,_,I.lset (its':=[]) (ys:=[]) c eζ .nS QDx,0,q)
inductive rCat!(x:V)(y:V)QAH QAR:Prop
 |mk (lbxszs:_) QGF (_:y=.ο b) QFp (_:Hb<*.P' zs) (_:xs.β+zs.β≤Φ) (_:∀p,Hp=ε->Q QAl^mEHp^.P' (xs++zs))
def U1:pMXQP9 rCat!:=by
 intro c s pHxyvuQ Ifdh;let(l,b,xs,zs,ζ,ζ,j,k,hz,q):=h;cases f;cases d;let(z,eE,n,r,A,e):=I.lstM j;let(t,a,w,g,i,o):=I.lstM k;show Δ.P.add_list eo ?_ (by rw[q9,q9];lia);let m:eE.Λ++a.Λ=(eE++a).Λ:=by simp
 rw[m];show(.ο _,_,I.lnew (t':=s.mU) (r.append g)^by rw[o9];omega,0,q_ I.ax)
inductive rRep!(x:V)(y:V)QAH QAR:Prop
 |mk (l kxs:_) QGF (_:y=.tV k) QFp (_:-(2^63)≤k) (_:k<2^63) (_:xs.β*k.UD≤Φ) (_:∀p,Hp=ε->Q QAl^mEHp^.P' (nM k.UD xs).XQ)
def Pp! QGo(xs:γa)QGT:(nMkxs).XQ.β=k*xs.β:=by
 induction k with
 |qW=>simp
 |qV k b=>rw[FP,PI,o9,b,χ.succ_mul,χ.add_comm]
def U0:pMX (XZ .Mult) rRep!:=by
 intro o sDHxyvuQ Iwph;let(l,k,xs,ζ,ζ,B,h1,h2,hz,q):=h;cases w;let(t,ζ):=p;let(z,eE,n,r,A,e):=I.lstM B;let d:eE.Λ.fC*k.UD≤Φ:=by rw[q9,<-A];show hz
 let g:¬ eE.Λ.fC*k.UD>(2^63-1)/8:=by
  have:(Φ:χ)≤(2^63-1)/8:=by decide
  lia
 let f:¬ (!Builtin.γ.listFitsIndex k)=π:=by
  rw[fitsIndex_both! h1h2];show b9.UF
 let b:¬ Builtin.γ.listTooLong (eE.Λ.fC*k.UD)=π:=by
  rw[jt! d];show b9.UF
 let c:γ.foldl (λji=>j++i) #[] (nM (if eE.Λ.Yj=π then 0 else k.UD) eE.Λ)=(nM k.UD eE).XQ.Λ:=by
  let C:∀m:χ,γ.foldl (λji=>j++i) #[] (nMm eE.Λ)=(nMmeE).XQ.Λ:=λm=>by
   have:=jw! eEm [];rw[nil_append!]at this;show this
  rw[C];cases eE with
  |nS=>simp
  |nF a E=>rw[mF (!1)]
 show wpAny_binaryOp_repeat_ref! (T:="list") (U:="int") (!0) QKK (λs'=>typeIs_int! s'kt) noFill_list_mul! F.fills_int_mul F.slot_int_rmul repeat_list! F.slot_int_index.ς
  (call_meets! F.slot_int_rmul (typeIs_int! skt) F.entry_int_rmul (F.args_int_rmul_2 __) (int___rmul___int_list! k tl eE.Λ n)
   (e,0,(_,e,0),call_meets! F.slot_list_mul (_,e,0) F.entry_list_mul (F.args_list_mul_2 __) (AutoListH.list___mul___list_int_3 l eE.Λ nktfgb) (e,3)))
 rw[c];show(.ο _,_,I.lnew (t':=s.mU) (r.rep k.UD) (by rw[Pp!,χ.mul_comm];show hz),0,q_ I.ax)
end
section
variable{Ω:nA}{w:o4}{A:o7}{E:η->Θ->Prop}{s:Θ}
end
section
variable{X:n8}
end
end _F
namespace Att
open PySem.W PySem.Calls PyProof.Rows
def Wn!:∀QDnQQE,WellAll! PhvsQVZ->IntsAre vsns:=by
 intro ns;induction ns with
 |nS=>
  intro vsw;rw[γ.map_nil]at w;cases w;show .nS
 |nF n ns c=>
  intro vsw;rw[y3]at w;cases w with
  |nF a b=>
   cases a;show .nF __^c_b
def sC!{l:OpenLaw!}(v:l.most<*n)(c:l.row.toRowW.claim.pre b=π)(k:WellAll! Pheb):∃avsns,e=[η.ο a]/\b=[WData.oh QVZ]/\h.Ξ a=δ {dM:=.TB "list",mY:=.Yv vs.Λ}/\IntsAre vsns/\ns.β≤n:=by
 let m:WShape.hasAll [] b [.oh .tV]=π:=(pre_splitW! c).1;let o:l.pre.holds [] {args:=b}=π:=(pre_splitW! c).2;let(d,r,ζ,h1,h2):=hasAllW_cons! m;obtain ζ:=hasAllW_nil! h2;let(xs,ζ,w):=hasW_list! h1;let(ns,ζ):=items_int! w;let f:ns.β≤n:=by
  unfold OpenLaw.pre at o;let j:(WTm.not^.lt (.lit^.tV (n:ω))^.eN^.arg 0).holds [] {args:=[.oh^ns.Tx .tV]}=π:=by
   let j:=(holds_andW! o).1;rw[v]at j;show j
  let i:=condW_of! j^w_not!^w_lt! w_lit!^w_len_list!^w_arg! ζ;rw[j']at i;show xG λq=>?_;let t:(n:ω)<((ns.β:χ):ω):=nv! q
  first
   |(rw[uOt]at i;show mWi (!0))
   |(simp at i;omega)
 cases k with
 |nF s p=>
  cases p;cases s with
  |oh! u g=>show(7,ns,5,u,Wn! ns_g,f)
def gf!(l:OpenLaw!)(a:γ WData!):l.row.toRowW.claim.post aQTMa=π:=
 postW_of! (r:=l.row.toRowW) (X:=(π==π))
  (show WShape.A7 [] QTM .bC=π by first|rfl|decide|simp[WShape.A7,WShape.arms,WShape.armsAll])
  (show(WTm.eq .res^.lit QTM).value [] {args:=a,res!:=δQTM,after!:=a}<*.bC (π==π)from w_eq_bool! (w_res! ζ) w_lit!) ζ
def Cn!{l:OpenLaw!}(C:l.most<*n)(s:d.BP.defaults=[])(wG:∀(w:o4)(cb:Θ)(mg k:bE->ψη)(g0:θ)(o:pZ)(pm jcR:η)(a:θ)(vs:γη)(ns:γω),
   Ground! q loose! [] Lk! w c mg k b.ρ->tk! w b.ρ->
   b.ρ.Ξ g0<*o->o.mY=.YN^docDef! d.cJ d.BP d.body d.g8 pm jcR->b.ρ.Vt j d.cJ->mg d.cJ<*.ο g0->
   b.ρ.Ξ a<*{dM:=.TB "list",mY:=.Yv vs.Λ}->IntsAre vsns->ns.β≤n->b.PF=#[]->
   wI (oP l.Ω w) callerA! (.wG (.ο g0) ([.ο a],[])) (λr s'=>r=.ok^.ret^.bC π/\OldK! b.ρ s'.ρ/\s'.os=b.os/\AllBare! s'.PF) b):WalkO! q loose! Lk! tk! l.row.toRowW d [] (λf vs=>Δ.wG f vs):=by
 intro wcb mg k G Yg0o pm jcRLkVBHtxp Fyu Mgvzm E;obtain ζ:L=.ε:=Dflts.ε x s;obtain ζ:kV=.ε:=Dflts.noKw x;let(a,vs,ns,ζ,ζ,h,e,i):=sC! Cgm;show enter_call! (BS (wGwcb mg kg0o pm jcRavsnsG YB (fd_plain! H) tphei F) λr s'A=>?_);let(rfl,h2,J,I):=A;show(.UR (.bC π,.bC π,[],0,λ_=>rfl,.bC π,gf! l_,λ_=>(γ.Pairwise.nS,λ_D=>(nomatch D))),h2,J,I)
section
variable{Ω:nA}{w:o4}{A:o7}{E:η->Θ->Prop}{s:Θ}{K:qI}
end
end Att
namespace _F
open PySem.Spec PyProof.Rows
def e_e! QTK QMx(h:IntsAre vsns):oGQBIvs:=by
 induction h with
 |nS=>show .nS
 |nF n t h i=>show .nF (t,0) i
abbrev x7(s:cZ)QIL:cZ:=match s with
 |.ClassDef _ _ _ body _ _ _ _ _ _ _=>body.TC jQBU
 |_=>.Pass QAL
abbrev p'(s:cZ):zR:=match s with
 |.FunctionDef _ a _ _ _ _ _ _ _ _=>a
 |_=>{posonlyargs!:=[],args:=[],vararg!:=ε,kwonlyargs!:=[],kw_defaults!:=[],kwarg!:=ε,defaults!:=[]}
abbrev nR(s:cZ):γcZ:=match s with
 |.FunctionDef _ _ b _ _ _ _ _ _ _=>b
 |_=>[]
abbrev hY(s:cZ):qA:=match s with
 |.FunctionDef _ _ _ _ _ _ sc _ _ _=>sc
 |_=>{XA:=.XH,TW:=[],isGenerator!:=ν,isCoroutine!:=ν}
instance ms:CXT:=λ______=>oA
instance fA:r3:=λ___=>oA
def iF:AOmsXfA:=λ_______h=>h.Q5
structure nE QAw(xbA:bE)QTA QFO(fd:uP):Prop where
 ex:∃(uF:η)(z5:ψθ)(kVcR pm:η)(an:ψθ)(bY ct:η)(osl!:pVQMB),
  fd=q3xbAQR'QSAQIg .ε kVcR pm an bY ct/\K.ς f=δQTN/\t9KbYbA=π
 C9:Y7KQAr=π
section
variable{P:nA}{w:o4}{K:qI}{mg:bE->ψη}{υ:n3}
def nE.ok{st:cZ}(F:nEKxbA st fi)(S:n9Nps^hY st)(eN:∀vsHQ E,d vsHQ E->vs.β=ps.β)(a:∀(bY:η)(A:o7)(b7:γ Env)(s:Θ)(H:m1)(vs:γ V)(Q:oE)(E:r3),q4k^A.jq^envOfC bA (hY st) s⁻¹ fbY->d vsHQ E->
   ∃t,tR (aWmsPwK mg υ NbA (hY st) fbYAb7sH E).nox (nR st) t/\t {pO:=λ_H'=>Q .vS H',CF:=Q} (ZRNvs) H):mTPwK mg υms (k+1) fipsd:=by
 let(l,j,kV,cR,pm,an,bY,ct,e,ζ,lk,c):=F.ex;show V0 lk c SeN λAb7sHvsQ Egb=>?_;let(t,h,q):=abYAb7sHvsQ Egb;show(t,h.nox,q)
def nE.binds{st:cZ}(F:nEKxbA st fc)(h:∀QFe QLE(bY ct:η)QEY,us.β=ps.β->bindArgs! QByQL9=pure QFP):p6Kcps []:=by
 let(e,d,kV,cR,pm,an,bY,ct,a,ζ,lk,b):=F.ex;show .u7^hkVcR pm an bY ct
def DA{st:cZ}{kVcR pm bY ct:η}(l:K.ς f<*(d,b,.YN QBy,a))(c:t9KbYbA=π)(k:Y7KQAr=π):nEKxbA st fQBy:=((d,b,kV,cR,pm,an,bY,ct,a,0,l,c),k)
end
def HY(h:n≤1000):n<Φ:=VMh (!0)
section
variable{X:n8}
def cN QAu{b8:nV}(d:QKt>>>4)(b:Hs X.fN.g8 x>>>8)(c:((x==("__debug__":bE))=ν)>>>0)(a:((x==("__classdict__":bE))=ν)>>>0):mPXQFKQP5:=dz! dbca
end
def CO QTO(h:B):if ν=π then A else B:=by
 rw[mF b9.UF];show h
def C3 QTO(h:A):if π=π then A else B:=by
 rw[mGζ];show h
def zE QKA[Decidable! c](a:c)(h:B):if (!decide c)=π then A else B:=by
 rw[uOa];show COh
abbrev mI QIA:Prop:=∀bo,Hb<*o->H'b<*o
def mI.Kx QAH:mIHH:=λ__h=>h
def mI.ξ(a:mIHe)(b:mIed):mIHd:=λc oh=>bco^a c oh
def mI.VC(e:mIHH')(h:H'l=ψ.ε):Hl=ψ.ε:=by
 cases q:Hl with
 |ε=>rfl
 |δ o=>
  rw[eloq]at h;cases h
def mI.Yv QC1(e:mIHH')QNr:pGKH'axs:=by
 rcases h with(h|⟨o,h⟩)|h
 .exact .UR^.UR^e__h
 .exact .UR^.P2 (o,e__h)
 .exact .P2 h
end _F
set_option Elab.async false
set_option maxRecDepth 100000
set_option maxHeartbeats 4000000
namespace _b
open _F
end _b
namespace _F
open PySem.Spec PyProof.Rows
abbrev ET QFJ:zI:=(λi_=>i<x.β,λiHvH'=>H'=H/\∃c,x.Ym[i]?=δc/\v=.uM ⟨#[c]⟩,λi_=>x.β≤i)
def sd! QC1 QFJ QIx QRy:H2PwK M (ETx) [it] it (λih=>h.IsStrIter it "str_ascii_iterator" xti)  where
 mem:=by simp
 obj:=λih st bg=>by
  let e:b=it:=by simpa using g
  subst e;let(o,e,c,d):=st;show(o,e,λvz=>by rw[d]at z;cases z)
 AP:=λihh' st k=>by
  let(o,e,r):=st;show QUd
 item:=by
  intro Xm hw n Cia s BH E Il st f;subst m hw n;let f:i<x.Ym.fC:=f;let(A,y,F,u,q,p):=l it (!1);show wpAny_pyNext_ascii_item! st (c:=x.Ym[i]) (by simp[f]) λh'jD=>?_;let L:f'XaBH {s with ρ:=h',mU:=s.mU+1}:=I.T7 (t':=s.mU+1) QMCAyuqp;let(o,e,c,d):=id j;show(2,NA (s:={s with ρ:=h',mU:=s.mU+1}) ecd (!0) (.uM ⟨#[x.Ym[i]]⟩,H,L,(_,0),(0,_,by simp[f],0),j,λbg=>(lbg).1))
 done:=by
  intro Xm hw n Cia s BH E Il st f;subst m hw n;let f:x.Ym.fC≤i:=f;let(A,y,F,u,q,p):=l it (!1);show wpAny_pyNext_ascii_end! QSB st (by simp[f]) λh'J=>(0,I.T7 (t':=s.mU) QPdAyuqp)
 self:=λ_____ st h=>wpAny_pyIter_striter_ascii! st h
def Vd! QC1 QFJ QIx QRy:H2PwK M (ETx) [it] it (λih=>h.IsStrIter it "str_iterator" xti)  where
 mem:=by simp
 obj:=λih st bg=>by
  let e:b=it:=by simpa using g
  subst e;let(o,e,c,d):=st;show(o,e,λvz=>by rw[d]at z;cases z)
 AP:=λihh' st k=>by
  let(o,e,r):=st;show QUd
 item:=by
  intro Xm hw n Cia s BH E Il st f;subst m hw n;let f:i<x.Ym.fC:=f;let(A,y,F,u,q,p):=l it (!1);show wpAny_pyNext_wide_item! st (c:=x.Ym[i]) (by simp[f]) λh'jD=>?_;let L:f'XaBH {s with ρ:=h',mU:=s.mU+1}:=I.T7 (t':=s.mU+1) QMCAyuqp;let(o,e,c,d):=id j;show(2,NA (s:={s with ρ:=h',mU:=s.mU+1}) ecd (!0) (.uM ⟨#[x.Ym[i]]⟩,H,L,(_,0),(0,_,by simp[f],0),j,λbg=>(lbg).1))
 done:=by
  intro Xm hw n Cia s BH E Il st f;subst m hw n;let f:x.Ym.fC≤i:=f;let(A,y,F,u,q,p):=l it (!1);show wpAny_pyNext_wide_end! QSB st (by simp[f]) λh'J=>(0,I.T7 (t':=s.mU) QPdAyuqp)
 self:=λ_____ st h=>wpAny_pyIter_striter_wide! st h
inductive Pq! QBn(v:V)QD4:Prop
 |mk (x:_) (_:v=.uM x) (_:R (ETx) H1)
abbrev KB(fS:TE):TI:=λσH R=>fSσH^Pq! R
def cb!(p:mPXlm):vZXrl^KB m:=by
 intro d skH R Ih;show nb (pd skH_ Ih) λv ag=>?_;let(y,j,c,n,q1):=g;let(x,ζ,q):=q1;let(t,ζ):=n;cases i:x.Ym.u7 QLF
 .refine wpAny_pyIter_wide! i ?_;show(a⁻¹,[a⁻¹],7,j,0,c.Zo (t':=a.mU) λboe=>nN_e,Vd! xt_,QCO,λbf=>?_,q);let e:b=a⁻¹:=by simpa using f
  subst e;show c.fpOk QBF^c.rv.ax QBF
 .refine wpAny_pyIter_ascii! i ?_;show(a⁻¹,[a⁻¹],7,j,0,c.Zo (t':=a.mU) λboe=>nN_e,sd! xt_,QCO,λbf=>?_,q);let e:b=a⁻¹:=by simpa using f
  subst e;show c.fpOk QBF^c.rv.ax QBF
def rc!{g:TG}{k:oW}QHx QUU(t:f 0 aH)(o:∀icaH,x.Ym[i]?<*c->fiaH->gQDmaH λbj=>k {D with pO:=f (i+1),ct:=f (i+1),hU:=D.pO} bj)(r:∀aH,f x.β aH->D.pO aH):∃W:χ->χ->St->m1->Prop,QEr/\∀imaH,WimaH->
   ((ETx).lP iH/\D.pO aH)\/((ETx).go iH/\∃N:St->m1->Prop,(∀dH',NdH'->∃l,l<m/\W (i+1) ldH')/\∀yH',(ETx).yld iHyH'->gyaH' λbj=>k {D with pO:=N,ct:=N,hU:=D.pO} bj):=by
 show(λimaH=>m=x.β-i/\i≤x.β/\fiaH,(x.β,!1,pT_,t),3);rintro i m a H⟨rfl,v,p⟩;by_cases h:i<x.β
 .refine .P2 (h,f (i+1),λdH'n=>(x.β-(i+1),D'h,0,h,n),λyH'q=>?_);let(e,c,s,u):=q;subst e u;show oica_ s p
 .let e:i=x.β:=D7hv
  subst e;show .UR (nZ_,raHp)
section
variable{X:n8}
inductive rSlS!(x:V)QV3(g6:ψω)QAH QAR:Prop
 |mk (z:_) QUJ (_:z.β≤Φ) (_:Q (.uM^jL.Zf z lo g6) H)
def L2:KAX rSlS!:=by
 intro b sgHxveTz6 lo p rQ Imn pl f h;let(z,ζ,hz,q):=h;let(t,ζ):=m;show("str",_,Δ.F.slot_str_getitem.ς,typeIs_str! ___,3);let a:∀t'k,xWXbgQ (.uM (jL.Zf z lo p) t') {s with mU:=k}:=λt'k=>(.uM _,H,I.y4 k,(t',0),q);let(o,c,e,d):=n;cases pl with
 |ε=>
  cases f with
  |ε=>show ZQ! (l:=ε) (u:=ε) (st:=ε) QQFζQA1
  |tV j uj!=>show ZQ! (l:=ε) (u:=δ (j,uj!,)) (st:=ε) QQFζQA1
 |tV i ui!=>
  cases f with
  |ε=>show ZQ! (l:=δ (i,ui!,)) (u:=ε) (st:=ε) QQFζQA1
  |tV j uj!=>show ZQ! (l:=δ (i,ui!,)) (u:=δ (j,uj!,)) (st:=ε) QQFζQA1
def Pr!:JJX "str.find" (λxxsHQ=>∃zy,x=.uM z/\xs=[.uM y]/\Q (.tV^jL.find zy) H):=by
 intro a sdHxxsvusQ Ibch;let(z,y,ζ,ζ,q):=h;let(t,ζ):=b;let(u,ζ,t',ζ):=x5c;show SC.find QDy
def ZK!:JJX "str.count" (λxxsHQ=>∃zy,x=.uM z/\xs=[.uM y]/\Q (.tV^jL.count zy) H):=by
 intro a sdHxxsvusQ Ibch;let(z,y,ζ,ζ,q):=h;let(t,ζ):=b;let(u,ζ,t',ζ):=x5c;show SC.count QDy
def Cc!:∀{ys:γbE}QCE,oG (ys.Tx V.uM) us->StrsAre! usys
 |[],_,r=>by cases r;show .nS
 |y::ys,_,r=>by
  cases r with
  |nF a b=>
   let(t,ζ):=a;show .nF yt^Cc! b
inductive Ps QAw(x:V)QCR QAH QAR:Prop
 |mk (zpys:_) QUJ (_:xs=[.ο p]) (_:pGKHp^ys.Tx V.uM) (_:(ys.Tx (·.β)).sum+ys.β*z.β≤16777216) (_:Q (.uM^jL.join zys) H)
def qK!:JJX "str.join"^Ps X.K:=by
 intro a sfHxxsvusQ Ibdh;let(z,p,ys,ζ,ζ,b5,hz,q):=h;let(t,ζ):=b;let(u,ζ,e):=x5d;cases e;let(eE,c,pl,_):=I.oh b5;show join_list! pl.Xt (by simpa using Cc! c) hz λt'k=>(.uM _,H,I.y4 k,(t',0),q)
def pf!:pMX (XZ .Mult) (λxyHQ=>∃zn,x=.uM z/\y=.tV n/\MulOk! zn/\Q (.uM^jL.mul zn) H):=by
 intro a seHxyvuQ Icbh;let(z,n,ζ,ζ,d,q):=h;let(t,ζ):=c;let(t',ζ):=b;show SB.mul d λt'k=>(.uM _,H,I.y4 k,(t',0),q)
def jj!:pMX (x' .LtE) (λxyHQ=>∃ij,x=.uM i/\y=.uM j/\Q (.dW (!decide (j.Ym.Zh<i.Ym.Zh))) H):=by
 intro a sdHxyvuQ Icbh;let(i,j,ζ,ζ,q):=h;let(t,ζ):=c;let(t',ζ):=b;show Δ.P.le_str (.dW _,H,I,0,q)
def dw!:wNX (.Rm "isinstance") (λxsHQ=>∃xt,xs=[x,.ty T]/\yZ X.K Hxt/\Δ.W.Kq X.K t^.TB T=δb/\Q QGIH):=by
 intro a sgHxsusQ Irh;let(x,t,ζ,ty,e,q):=h;let(u,i,ζ,f,d):=IYr;cases d;show jr! If ty e λc=>(.dW b,H,I.y4 c,0,q)
end
abbrev rF QDl QFJ QKm(cl:γQBH)QGE QUT QCD QAH:n8 where
 Ω:=X.Ω
 w:=X.w
 K:=X.K
 mg:=X.mg
 υ:=X.υ
 A:=X.A
 N:=x::X.N
 Xy!:=s
 H₀!:=H
 fN:=compEnvC! sc cl C X.fN
 b7:=X.US
 US:=X.US
 ex:=bN
 fn:=λ_=>ν
 TN:=X.TN
 pn!:=[]
 xe:=λ__=>oA
abbrev FR QDl(ifs:γbI)(t:TT):Prop:=
 ∀QAKQCDQCCQAHQGD,f'XaIσH s->tσHQ->
  lZ QAA X.A (forIn ifs π λc r=>if r=π then do let ok <-isTrue! c X.fN^oFc X.fN;pure (ForInStep.yield ok)else pure QIh) QNJ X.xe s
abbrev tAlways!:TT:=λ_HQ=>Qπ H
def hI{AB:m1->Prop}(h:AH):tAlways! cH (λba=>if b=π then Aa else Ba):=C3 (A:=AH) (B:=BH) h
def t7:FRX [] tAlways!:=λ___H_ Ih=>wpAny_tests_nil! (H,I,h)
def XR(h:vIXct):FRX [c] t:=λa sbHQ I hw=>wpAny_tests_one!^ha sbHQ I hw
abbrev EF(qJ:TI)(tt:TT)QRp:TE:=λσHQ=>qJσH λJH1=>∀D,H1D=ε->∃W:χ->χ->γ V->m1->Prop,
 (∃m,W 0 m []^mEH1D^.P' [])/\∀imysbF,WimysbF->bFD=δ^.P' ys/\((J.lP ibF/\Q (.ο D) bF)\/(J.go ibF/\ys.β<Φ/\∀xbJ,J.yld ibFxbJ->
  tt (δx::σ) bJ λbcM=>if b=π then eJ (δx::σ) cM λyd8=>d8D=δQBc/\∃m',m'<m/\W (i+1) m'QBq (mEd8DQAP)
   else ∃m',m'<m/\W (i+1) m'yscM))
def VZ QAs(h:a≠b):(show θ from a)≠(show θ from b):=h
def lb!(z:∀y∈sc.TW,y.2=.VC->∃c,fN.XL.ς y.1<*c):∃f,closureFor! sc fN=pure f/\(∀yc,f.ς y<*c->fN.XL.ς y<*c)/\∀y∈sc.TW,y.2=.VC->∃c,f.ς y.1<*c:=by
 let B:∀(l:γ (bE×lE))(b:γQBH),(∀y∈l,y.2=.VC->∃c,fN.XL.ς y.1<*c)->(∀yc,b.ς y<*c->fN.XL.ς y<*c)->
   ∃f,(forIn lb λ(p:bE×lE)r=>if (p.2==.VC)=π then do let a <-cellOf! fN p.1;pure QLG else pure QIh:Sem^γQBH)=pure f/\
    (∀yc,f.ς y<*c->fN.XL.ς y<*c)/\(∀yc,b.ς y<*c->∃g,f.ς y<*g)/\∀y∈l,y.2=.VC->∃c,f.ς y.1<*c:=by
  intro l;induction l with
  |nS=>intro b_o;show(b,0,o,λyce=>(c,e),λyd=>by simp at d)
  |nF p r w=>
   intro bto;let(n,k):=p;by_cases u:k=.VC
   .subst u;let(c,x):=t (n,.VC,) cGζ;let C:cellOf! fNn=pure c:=by unfold cellOf!;rw[x]
    let v:∀y g,((n,c,)::b).ς y<*g->fN.XL.ς y<*g:=λy ge=>by
     by_cases d:(y==n)=π
     .rw [zJ,d]at e;cases e;rw[ZZd];show x
     .rw [zJ,eq_false_iff.Ui d]at e;show oyge
    let(f,h1,h2,q,m):=w ((n,c,)::b) QQGv;let j:∀y g,b.ς y<*g->∃i,((n,c,)::b).ς y<*i:=λy ge=>by
     by_cases d:(y==n)=π
     .exact (c,by rw[zJ,d])
     .exact (g,by rw[zJ,eq_false_iff.Ui d];show e)
    show(f,3,h2,λy ge=>?_,λydh=>?_)
    .rw [DR];simp only[YJ,if_true!,C,pure_bind!];show h1
    .obtain ⟨i,e'⟩:=jyge;show qyie'
    .rcases u3.mp d with ζ|d
     .exact qnc (by rw[zJ,YJ])
     .exact mydh
   .let A:(k==lE.VC)=ν:=by simpa using u
    let(f,h1,h2,q,m):=wbQQGo;show(f,3,h2,q,λydh=>?_)
    .rw [DR];simp only[A,b9.false_eq_true,if_false!,pure_bind!];show h1
    .rcases u3.mp d with ζ|d
     .exact mWhu
     .exact mydh
 let(f,h1,h2,_,m):=B sc.TW [] z (λyce=>by simp at e);show(f,3,h2,m);change ((forIn sc.TW [] λ(p:bE×lE)r=>if (p.2==.VC)=π then do let a <-cellOf! fN p.1;pure QLG else pure QIh:Sem^γQBH)>>=λs=>pure s)=pure f;rw[bind_pure!,h1]
def V3(h:(relabel! sc fN).TW.ς y<*k):sc.TW.ς y<*k\/(k=.aQ/\sc.TW.ς y=δ .VC/\fN.F6 y<*.aQ):=by
 let f:∀(l:γ (bE×lE)),(l.Tx λ(n,k)=>if (k==.VC&&fN.g8.XA==.XH&&fN.F6 n==δ .aQ)then(n,lE.aQ,)else(n,k,)).ς y<*k->
   l.ς y<*k\/(k=.aQ/\l.ς y=δ .VC/\fN.F6 y<*.aQ):=by
  intro l;induction l with
  |nS=>intro h;simp at h
  |nF p r d=>
   let(n,c):=p;intro h;simp only[y3]at h;by_cases b:(c==lE.VC&&fN.g8.XA==.XH&&fN.F6 n==δ .aQ)=π
   .rw [mGb]at h;rw[zJ]at h⊢;cases a:y==n with
    |π=>
     rw[a]at h;let e:k=.aQ:=(ψ.δ.WZ h).UH;let i:c=.VC:=by
      have:=(b9.and_eq_true_iff.mp (b9.and_eq_true_iff.mp b).1).1;simpa using this
     let g:fN.F6 n<*.aQ:=by
      have:=(b9.and_eq_true_iff.mp b).2;simpa using this
     rw[ZZa];show .P2 (e,by rw[i],g)
    |ν=>
     rw[a]at h;show dh
   .rw [mFb]at h;rw[zJ]at h⊢;cases a:y==n with
    |π=>rw[a]at h;show .UR h
    |ν=>rw[a]at h;show dh
 show f sc.TW h
section
variable{X:n8}{elt qF:bI}{x:bE}{g4b8:nV}{ifs:γbI}{sc:qA}{qJ:TI}{tt:TT}{eJ:TE}
end
def pG.new QC1 QNr(n:HD=ε):pGK (mEHDo) axs:=by
 rcases h with(h|⟨u,h⟩)|h
 .exact .UR (.UR^by rw[a'^oZhn];show h)
 .exact .UR^.P2 (u,by rw[a'^oZhn];show h)
 .exact .P2 h
def uD! QC1{l:TE}{h:St}{Q:oE}(f:V->V)(t:pGKHaxs)QIC(u:∀QAu(x:V)QBe(R:oE),xs[i]?<*x->mIHH'->R (fx) H'->l (δx::h) H'R)(s:∀D,HD=ε->Q QA0QN6):∀D,HD=ε->∃W:χ->χ->γ V->m1->Prop,
 (∃m,W 0 m []^mEHD^.P' [])/\∀imysc,Wimysc->cD=δ^.P' ys/\(((FNKa).lP ic/\Q (.ο D) c)\/((FNKa).go ic/\ys.β<Φ/\∀xk,(FNKa).yld icxk->
  tAlways! (δx::h) k λbr=>if b=π then l (δx::h) r λy p=>pD=δQBc/\∃d,d<m/\W (i+1) dQBq (mEpDQAP)
   else ∃d,d<m/\W (i+1) dysr)):=by
 intro Dj;show(λimysc=>m=xs.β-i/\i≤xs.β/\ys=(xs.Uj i).Tx f/\c=mEHDQBc,(xs.β,!1,pT_,!1,0),3);rintro i m ys c⟨rfl,v,ζ,ζ⟩;let q:pGK (mEHD^.P'^(xs.Uj i).Tx f) axs:=t.new j;show(hJ,3);by_cases g:i<xs.β
 .refine .P2 ((xs,xs[i],q,by simp[g]),by rw[j',rS];lia,λxky=>?_);let(e,y):=y;subst e;let n:=yxsq;show hI (uix__n (λboe=>by rw[a'^oZej];show e) (hJ,xs.β-(i+1),D'g,0,g,3,3))
  .rw [FW,n,pY];rfl
  .rw [MW]
 .let e:i=xs.β:=D7gv
  subst e;show .UR ((xs,q,nZ_),3);rw[XF];show sDj
def mw!{tt:TT}{h:St}{Q:oE}QSC QOP(o:∀QAuQFfQBeQNs,x.Ym[i]?<*c->R (p c) H'->tt (δQDm::h) H'R)(r:∀D,HD=ε->Q QA0^mEHDQCY):∀D,HD=ε->∃W:χ->χ->γ V->m1->Prop,
 (∃m,W 0 m []^mEHD^.P' [])/\∀imysa,Wimysa->aD=δ^.P' ys/\(((ETx).lP ia/\Q (.ο D) a)\/((ETx).go ia/\ys.β<Φ/\∀yj,(ETx).yld iayj->
  tt (δy::h) j λb n=>if b=π then aG 0 (δy::h) n λzl=>l D=δQBc/\∃f,f<m/\W (i+1) f (ys++[z]) (mElD^.P' (ys++[z]))
   else ∃f,f<m/\W (i+1) fysn)):=by
 intro D s;show(λimysa=>m=x.β-i/\i≤x.β/\ys=((x.Ym.Zh.Uj i).Wo p).Tx (λc=>V.uM ⟨#[c]⟩)/\a=mEHDQBc,(x.β,!1,pT_,!1,0),3);rintro i m ys a⟨rfl,u,ζ,ζ⟩;show(hJ,3);by_cases d:i<x.β
 .refine .P2 (d,3,λyjq=>?_)
  .rw [j'];have:=γ.length_filter_le p^x.Ym.Zh.Uj i;rw[rS]at this;lia
  .obtain ⟨e,c,k,t⟩:=q;subst e t;let g:x.Ym.Zh[i]?<*c:=by simpa using k
   show oic__k ?_;cases b5:p c with
   |π=>
    show C3 (hJ,x.β-(i+1),D'd,0,d,3,3)
    .rw [FW,g,γ.filter_append,pY];simp[b5]
    .rw [MW]
   |ν=>
    show CO (x.β-(i+1),D'd,0,d,3,0);rw[FW,g,γ.filter_append,pY];simp[b5]
 .let e:i=x.β:=D7du
  subst e;show .UR (nZ_,3);rw[show x.β=x.Ym.Zh.β by simp[β],XF];show rD s
def qa! QC1{b:St}(f:V->V)(e:b[j]?<*δQAe)(c:pGKHaxs)QIC(h:∀QAu(x:V)QBe(R:oE),xs[i]?<*x->mIHH'->R (fx) H'->d (δx::b) H'R)(g:∀D,HD=ε->Q QA0QN6):EF (LL! K^aGj) tAlways! dbHQ:=
 .of e (a,0,(_,c),uD! fc hz hg)
def bf!{a:St}QSC(b:a[j]?<*δQHd)QOP(d:∀QAuQFfQBeQNs,x.Ym[i]?<*c->R (p c) H'->tt (δQDm::a) H'R)(e:∀D,HD=ε->Q QA0^mEHDQCY):EF (KB^aGj) tt (aG 0) aHQ:=.of b (x,0,mw! p hz de)
abbrev n4 QLB QBg QAw QAy QRH QFJ QGT QGU QPc:Prop:=
 ∃(f:θ)(fd:uP),mg x=δQAr/\Y7KQAr=π/\p6K fd ps []/\mTPwK mg υmskf fd ps sp
def m5 QGn(D:n4 X.Ω X.w X.K X.mg X.υ xkpsd)(g:q4k X.A)QVa(h:pUXx>>>4)(c:((x==("__debug__":bE))=ν)>>>0)(i:QEa>>>4)QH1:mPXQPe^vYd [] fAt:=by
 let(f,m,h1,h2,l,F):=D;show Wp! Fghh1h2l .nS iFjcib
def rT QKA[Decidable! c](a:c)(h:A):if decide c=π then A else B:=by
 rw[uOa];show C3h
def nI QKA[Decidable! c](a:¬ c)(h:B):if decide c=π then A else B:=by
 rw[pIa];show COh
def M0 QTO(h1:c=π->A)(h2:c=ν->B):if c=π then A else B:=by
 cases c
 .exact CO^h2ζ
 .exact C3^h1ζ
def p9 QKA[Decidable! c](h1:c->A)(h2:¬ c->B):if decide c=π then A else B:=by
 by_cases h:c
 .exact rTh^h1h
 .exact nIh^h2h
def mI.mE(n:HD=ε):mIH^mEHDo:=λbue=>by rw[a'^oZen];show e
def m6(h:n≤16777216):n≤Φ:=by rw[w9];show h
def ZU{xs:γc}{i:ω}(b:0≤i)(h1:i<xs.β):∃v,qZxsi=δv/\xs[i.UD]?<*v:=by
 let(j,ζ):=ω.eq_ofNat_of_zero_le b;let a:j<xs.β:=Hd! h1
 show(xs[j],r8^by simp[a],by simp[a])
abbrev t_!(tu:oW):oW:=λDσH=>∃M:St->m1->Prop,t {D with pO:=M} σH/\∀σ'H',Mσ'H'->uDσ'H'
def EU{st:cZ}QPw(h2:tRXf6u):tRX (st::f6)^t_! tu:=by
 intro a s cHD Ih;let(M,h,e):=h;show Z8 (nb (h1a s cH {D with pO:=M} Ih) λf dq=>?_);cases f with
 |next=>
  let(b,H',g,q):=q;show h2adbH'Dg^ebH'q
 |ret v=>show q
 |brk=>show q
 |cont=>show q
abbrev VF QDn QLc:γω:=(ns.Gd^ZC.uA ns.β 0 lo).Uj (ZC.uA ns.β ns.β g6-ZC.uA ns.β 0 lo)
def cB! QDn QV2:yAQBI lo a=(VFns lo a).Tx V.tV:=by
 unfold yA VF;rw[j',map_take!,γ.map_drop]
def dj! QDn QV2:(VFns lo a).β≤ns.β:=by
 unfold VF;rw[rS,zM];show UC!
section
variable{X:n8}
def M8:pMX (XZ .Mod) QI4:=L8
def O1:pMX (XZ .FloorDiv) (M6 (λ_j=>0<j/\j<1073741824) λij=>.tV (i/j)):=kf!
def aZ:pMXQP9QP_:=pi!
def NT:pMX (XZ .Sub) QP':=Pc!
end
section
variable{X:n8}
def JM:pMX (XZ .Mod) (λxyHQ=>∃ij,x=.tV i/\y=.tV j/\0<j/\∀r,0≤r->r<j->Q (.tV r) H):=by
 intro a s cHxyvuQ Iedh;let(i,j,g,f,b,q):=h;show L8a s cHxyvuQ Ied (i,j,g,f,b,q_ (N1_^Hn! b)^ω.Zu _b)
end
def p5 QS9(n:Hb=ε):mEHbua<*o:=by
 rw[a'^oZhn];show h
def E1 QS9(n:Hb<*v)(d:o≠v):mEHbua<*o:=by
 rw[a'^qShnd];show h
def pK! QAw:Δ.W.Kq K (.TB "int")^.TB "bool"<*ν:=by kernel_rfl
def Iu! QAw:Δ.W.Kq K (.TB "int")^.TB "int"<*π:=by with_unfolding_all rfl
def Hy! QAw:Δ.W.Kq K (.TB "bool")^.TB "bool"<*π:=by with_unfolding_all rfl
def mq! QAw:Δ.W.Kq K (.TB "str")^.TB "str"<*π:=by with_unfolding_all rfl
section
variable{X:n8}
end
end _F
namespace _F
inductive E2{a0a1:Type}(p:a0->a1->Prop):Prop
 |mk QVL QVM (h:px0x1)
inductive E3{a0a1a2:Type}(p:a0->a1->a2->Prop):Prop
 |mk QVL QVM (x2:a2) (h:px0x1x2)
inductive E4{a0a1a2a3:Type}(p:a0->a1->a2->a3->Prop):Prop
 |mk QVL QVM (x2:a2) (x3:a3) (h:px0x1x2x3)
inductive E5{a0a1a2a3a4:Type}(p:a0->a1->a2->a3->a4->Prop):Prop
 |mk QVL QVM (x2:a2) (x3:a3) (NY:a4) (h:px0x1x2x3NY)
inductive IK!{a0a1a2a3a4a5:Type}(p:a0->a1->a2->a3->a4->a5->Prop):Prop
 |mk QVL QVM (x2:a2) (x3:a3) (NY:a4) (V9:a5) (h:px0x1x2x3NYV9)
inductive vE(a0a1a2:Prop):Prop
 |mk (_:a0) (_:a1) (_:a2)
inductive hC!(a0a1a2a3:Prop):Prop
 |mk (_:a0) (_:a1) (_:a2) (_:a3)
inductive A5(a0a1a2a3a4:Prop):Prop
 |mk (_:a0) (_:a1) (_:a2) (_:a3) (_:a4)
inductive eu!(a0a1a2a3a4a5:Prop):Prop
 |mk (_:a0) (_:a1) (_:a2) (_:a3) (_:a4) (_:a5)
inductive cj!(a0a1a2a3a4a5a6:Prop):Prop
 |mk (_:a0) (_:a1) (_:a2) (_:a3) (_:a4) (_:a5) (_:a6)
inductive Fw!(a0a1a2a3a4a5a6a7a8:Prop):Prop
 |mk (_:a0) (_:a1) (_:a2) (_:a3) (_:a4) (_:a5) (_:a6) (_:a7) (_:a8)
def fQ! QLU(a:0≤k)(h1:k<(n:ω)):D3nk<*k.UD:=by
 unfold D3;simp[a,h1]
end _F
namespace _b
end _b
namespace _b
open PySem.StrLaws Builtin Builtin.Str
abbrev lY QJM:bE:=⟨l.Λ⟩
def tI QJM:(lYl).Ym.Zh=l:=by simp[lY]
def nJ QJM:(lYl).β=l.β:=by simp[lY,β]
def yE(a b:lU):lYa++lYb=lY (a++b):=by
 apply bE.ext';change a.Λ++b.Λ=(a++b).Λ;simp
def Z2(h:lYa=lYb):a=b:=by
 have:=oR (λs:bE=>s.Ym.Zh) h;simpa[lY]using this
def Z3 QJM QAu:(lYl).Ym[i]?=l[i]?:=by simp[lY]
def A8 QJM(ci:χ):At! QEj ⟨#[c]⟩ (lYl).β i↔l[i]?<*c:=by
 let h:=subAt_one! QEjci;rw[tI]at h;show h
def oo! QJM QFf:jL.Hr QEj ⟨#[c]⟩=decide (c∈l):=by
 let h:=found_one! QEjc;rw[tI]at h;show h
def gH!:∀{l:lU}{ci:χ},l[i]?<*c->l.UL c≤i
 |[],_,_,h=>by simp at h
 |a::l,c,0,h=>by
  let e:a=c:=by simpa using h
  subst e;simp
 |a::l,c,i+1,h=>by
  rw[idxOf_cons!];cases e:a==c with
  |π=>simp
  |ν=>
   have:=gH! (l:=l) (c:=c) (i:=i) QFw;simp;omega
def Fz!(h:c∈l):jL.find QEj ⟨#[c]⟩=(l.UL c:χ):=by
 unfold jL.find;rcases occ_head! QEj ⟨#[c]⟩ 1 QBF with⟨_,b⟩|⟨i,r,e,f,b⟩
 .obtain ⟨i,d⟩:=tl.mp h;show mW ((A8lci).Ui d)^b i
 .rw [e];let d:=(A8lci).mp f;let a:l.UL c<l.β:=wZh;let g:l[l.UL c]?<*c:=by
   rw[mOa,WWa]
  let h1:¬ l.UL c<i:=λz=>b_zQKL;let h2:l.UL c≤i:=by
   show gH! d
  have:i=l.UL c:=by lia
  rw[this]
def Vs QFJ(h:0≤j):jL.Zf xεQTP=lYQUe:=by
 let c:∀j:ω,0≤j->j≤x.Ym.Zh.β->jL.Zf xεQTP=lYQUe:=λjgh1=>by
  let e:jL.Zf xεQTP=sliceText! xεQTP:=ζ;rw[e,sliceText_to! (g,h1)];simp[lY]
 by_cases f:j≤x.Ym.Zh.β
 .exact cjhf
 .let e:jL.Zf xεQTP=jL.Zf xε^δ (x.β:ω):=by
   let d:x.β=x.Ym.Zh.β:=by simp[β]
   let k:strSliceIndices! εQTP 1 x.β=strSliceIndices! ε (δ (x.β:ω)) 1 x.β:=by
    let a:¬ (j<0):=by lia
    let b:¬ ((x.β:ω)<0):=Hk!
    let m:min j (x.β:ω)=(x.β:ω):=by lia
    simp[strSliceIndices!,a,b,m]
   unfold jL.Zf;rw[k]
  rw[e,c_h6^by simp[β]];let d:x.β=x.Ym.Zh.β:=by simp[β]
  rw[vJ (i:=j.UD) (!6),vJ (!6)]
def Df! QFJ{i:ω}(h:0≤i)(h1:i≤x.Ym.Zh.β):jL.Zf x (δi) ε=lY^x.Ym.Zh.Gd i.UD:=by
 let e:jL.Zf x (δi) ε=sliceText! x (δi) ε:=ζ;rw[e,sliceText_from! (h,h1)];let a:((x.Ym.Zh.β:ω)-i).UD=(x.Ym.Zh.Gd i.UD).β:=by rw[zM];lia
 rw[a,XF];rfl
def LX!:∀cs:lU,jL.join bE.X7 QLd=lYcs:=by
 intro cs;unfold jL.join;rw[glued_eq_join!];let e:∀(cs:lU),bE.join bE.X7 QLd=lYcs:=by
  intro cs;induction cs with
  |nS=>rfl
  |nF a r d=>
   cases r with
   |nS=>rfl
   |nF b r=>
    change (⟨#[a]⟩:bE)++bE.X7++bE.join bE.X7 ((b::r).Tx λc=>(⟨#[c]⟩:bE))=lY (a::b::r);rw[d,bE.append_empty];show yE [a] (b::r)
 show ecs
def xi!(a b:χ):(!decide ((⟨#[b]⟩:bE).Ym.Zh<(⟨#[a]⟩:bE).Ym.Zh))=decide (a≤b):=by
 change (!decide ([b]<[a]))=decide (a≤b);rw[lt_cons_cons!,lt_nil_nil!,b9.and_false,b9.w7];by_cases h:a≤b
 .rw [pI^Ga! h,uOh];rfl
 .rw [uO (!6),pIh];rfl
def nH! QJM QFf:∀(b:lU)(af:χ),ChainG! QEj ⟨#[c]⟩ (lYl).β a bf->(∀k,f≤k->¬ At! QEj ⟨#[c]⟩ (lYl).β k)->(l.Gd a).count c=b.β:=by
 intro b;induction b with
 |nS=>
  intro afhj;let e:f=a:=h;subst e;rw[length_nil!,γ.count_eq_zero];intro m;let(i,g):=tl.mp m;rw[γ.getElem?_drop]at g;show j_QTQQKL
 |nF d r o=>
  intro afhj;let(h1,h2,u,t):=h;let s:=(A8lcd).mp h2;let q:=o (d+1) ftj;let(n,v):=m9s;let split:l.Gd a=(l.Gd a).Uj (d-a)++c::l.Gd (d+1):=by
   conv=>lhs;rw[<-DJ (d-a)^l.Gd a]
   rw[γ.drop_drop,show a+(d-a)=d from Wz! h1,γ.fx n,v]
  rw[split,γ.count_append,γ.count_cons_self,q,oY];let z:((l.Gd a).Uj (d-a)).count c=0:=by
   rw[γ.count_eq_zero];intro m;let(i,g):=tl.mp m;rw[γ.getElem?_take]at g;split at g
   .rename_i p;rw[γ.getElem?_drop]at g;show u (a+i) QTQ (!6) QKL
   .cases g
  lia
def DC! QJM QFf:jL.count QEj ⟨#[c]⟩=(l.count c:χ):=by
 unfold jL.count;let(f,h1,h2):=occ_tight! QEj ⟨#[c]⟩ (by simp[β]);let q:=nH! lc_ 0 fh1h2;rw[γ.drop_zero]at q;rw[q]
structure ww QA6:Prop where
 lo:1≤L.β
 g6:L.β≤3
 eR:L.qg
 eW:∀c∈L,97≤c/\c≤122
def bu!{L:lU}(b:L.qg)(h:i<L.β):L.UL L[i]=i:=by
 let h1:=gH! (l:=L) (c:=L[i]) (i:=i) (by simp[h]);let a:L.UL L[i]<L.β:=by lia
 let e:=WWa;by_cases d:L.UL L[i]<i
 .exact mWe^γ.pairwise_iff_getElem.mp b__ahd
 .exact D7dh1
def yb!{fl:lU}(b:i<l.β)(a:(f++l).qg):(QSD++QE6).qg/\∀c,c∈QSD++QE6->c∈f++l:=by
 let e:l=l.Uj i++l[i]::l.Gd (i+1):=by
  conv=>lhs;rw[<-DJil,γ.fx b]
 let p:(f++l).Perm (QSD++QE6):=by
  conv=>lhs;rw[e]
  rw[u4];show Perm.append_left f ?_;change (l.Uj i++l[i]::l.Gd (i+1)).Perm (l[i]::QE6);show γ.perm_middle
 show(p.nodup_iff.mp a,λc d=>p.mem_iff.Ui d)
end _b
namespace _b
open _F
def Ag!:(bE.WK "abcdefghijklmnopqrstuvwxyz")=lY^range'! 97 26:=by decide +kernel
def KE:(bE.WK "")=lY []:=by decide +kernel
def aX!:(bE.WK "")=bE.X7:=by decide +kernel
abbrev PT QA6(z:ω):χ:=L.TC (z%(L.β:ω)).UD 0
abbrev vB! QA6:V->V
 |.tV z=>.uM ⟨#[PTLz]⟩
 |v=>v
def jd! QA6(z:ω):PTLz=(L[(z%(L.β:ω)).UD]?).TC 0:=by
 unfold PT;rw[pu]
def Dy!(h:ww L)QMx(b:c∈ns.Tx^PTL):c∈L:=by
 let(z,_,ζ):=WB.mp b;let b5:(0:ω)<(L.β:ω):=by have:=h.lo;show O5 this
 let d:=N1z (show(L.β:ω)≠0 from Gn! b5);let h1:=ω.Zu zb5;let a:(z%(L.β:ω)).UD<L.β:=Jc! h1d
 rw[jd!,mOa];show vOa
end _b
namespace _b
open _F Builtin Builtin.Str
def Ue!:∀cs:lU,((cs.Tx λc=>(⟨#[c]⟩:bE)).Tx (·.β)).sum=cs.β
 |[]=>rfl
 |_::cs=>by
  rw[y3,y3,γ.sum_cons,Ue! cs,oY];change 1+_=_;lia
def cu!(cs:lU)(h:cs.β≤16777216):((cs.Tx λc=>(⟨#[c]⟩:bE)).Tx (·.β)).sum+(cs.Tx λc=>(⟨#[c]⟩:bE)).β*(bE.WK "").β≤16777216:=by
 rw[Ue!,show(bE.WK "").β=0 by rw[aX!];rfl];omega
def Bb!:(bE.WK "a")=⟨#[97]⟩:=by decide +kernel
def Bl!:(bE.WK "z")=⟨#[122]⟩:=by decide +kernel
def nn! QJM:∀QCv(a:lU),((nMn (lYl).Ym).foldl (·++·) a.Λ)=(a++(nMnl).XQ).Λ
 |0,a=>by simp
 |n+1,a=>by
  rw[FP,γ.foldl_cons];let e:a.Λ++(lYl).Ym=(a++l).Λ:=by simp[lY]
  rw[e,nn! ln (a++l),FP,u4];rfl
def Pu! QJM(h:0≤n):jL.mul QEjn=lY (nM n.UD l).XQ:=by
 unfold jL.mul;by_cases h1:n<1
 .rw [mGh1,show n.UD=0 by lia];rfl
 .rw [mFh1];by_cases h2:n=1
  .subst h2;rw[mG (!1)];simp
  .by_cases a:l=[]
   .subst a;rw[mG^by simp[lY,β]];let z:∀k:χ,(nMk ([]:lU)).XQ=[]:=λk=>by induction k with
     |qW=>rfl
     |qV k b=>rw[FP,PI,b];rfl
    rw[z]
   .rw [mF^by simp[h2,β,lY,a]];have:=nn! l n.UD [];rw[nil_append!]at this;change (⟨_⟩:bE)=⟨_⟩;rw[<-this]
def nj! QFf:∀n:χ,(nMn [c]).XQ=nMnc
 |0=>rfl
 |n+1=>by rw[FP,PI,nj! cn];rfl
def mul_one! QFf(h:0≤n):jL.mul ⟨#[c]⟩ n=lY^nM n.UD c:=by
 let e:=Pu! [c] h;rw[nj!]at e;show e
def Pw!(h:n≤1000000)(a:0≤n)(b:x.β*n.UD≤16777216)(c:x.β≤16777216):MulOk! xn:=by
 unfold MulOk!;show(3,λh1_=>?_,λh1_=>?_)
 .rw [pI (!6),pI (!6)];rfl
 .let b5:(0:ω)<n:=Jz! h1
  let h2:(x.β:ω)*n≤2^63-1:=by
   let e:(x.β:ω)*n=((x.β*n.UD:χ):ω):=by
    rw[ω.natCast_mul,ω.toNat_of_nonneg a]
   rw[e];lia
  let d:=(ω.le_ediv_iff_mul_le b5).Ui h2;lia
 .unfold tooLong!;show pI (by rw[w9];lia)
def oC! QFf(b:0≤n)(h:n≤1000000):MulOk! ⟨#[c]⟩ n:=by
 let a:(⟨#[c]⟩:bE).β=1:=ζ;show Pw! hb (by rw[a];lia) (by rw[a];lia)
end _b
namespace _b
open _F
structure oO QA6 QDu QAt:Prop where
 lt:ww L
 n1:1≤W.β
 n60!:W.β≤2100
 dW:B.β=W.β
 row:∀ws∈W,ws.β=L.β/\∀x∈ws,x<W.β
abbrev rY QA6 QDu(rc:χ):χ:=(W.TC r []).TC QBW 0
abbrev n6 QA6 QDu QRB QHy:χ:=w.foldl (rYL W) r
def oO.at QBR QNt(e:c∈L):∃wsx,W[r]?=δws/\ws[L.UL c]?=δx/\rYL Wrc=x/\x<W.β:=by
 let hw:W[r]?<*W[r]:=by simp[b]
 let(h1,h2):=h.row W[r]^vOb;let d:L.UL c<W[r].β:=by rw[h1];show wZe
 let a:W[r][L.UL c]?<*W[r][L.UL c]:=by simp[d]
 show(W[r],W[r][L.UL c],hw,a,3,h2_^vOd);unfold rY;let f:W.TC r []=W[r]:=by
  rw[pu,hw];rfl
 rw[f,pu,a];rfl
def EV QA6 QDu QRB QHy QFf:n6L Wr (w++[c])=rYL W (n6L Wrw) c:=by
 unfold n6;rw[foldl_append!];rfl
def PJ{L:lU}{W:n0}QKn QBR:∀QRC{r:χ},r<W.β->QCJ->n6L Wrw<W.β
 |[],_,a,_=>a
 |c::w,r,a,hw=>by
  let(ws,x,_,_,e,b):=h.at a^hw c (!1);show PJh (w:=w) (r:=rYL Wrc) (by rw[e];show b) λdf=>hw d (by simp[f])
abbrev mJ(ws:lU):γ V:=ws.Tx λ(n:χ)=>V.tV (n:ω)
abbrev ii QAH QFh QDu:Prop:=∀QAu(r:θ),fW[i]?<*r->∃ws,W[i]?=δws/\Hr<*.iT QOc
inductive tF QAH(m:θ)QA6 QDu QAt:Prop
 |mk (fU mk:θ) QFh QIi QVb (_:H mk<*.iT QGw) QOQ (_:ii HfWW)
def ii.Ki(h:ii Ha W)QBv:ii H'a W:=λire=>by
 let(ws,h1,h2):=hire;show(ws,h1,s__h2)
def tF.Ki QPS QBv:tFH'mL WB:=by
 let(b,mk,a,h1,h2,e,d,c):=h;show(b,mk,a,s__h1,s__h2,s__e,d,c.Ki s)
def wR{a b:Type}{xs:γa}(f:a->b){x:a}(h:xs[i]?<*x):qZ (xs.Tx f) ((i:χ):ω)<*fx:=r8 (by rw[na,h];rfl)
end _b
namespace _F
namespace Du
section
variable{Ω:nA}{w:o4}{A:o7}{E:η->Θ->Prop}{s:Θ}
end
end Du
namespace Uz
abbrev LW(S:γθ)(hh':n3):Prop:=h'.u_.fC=h.u_.fC/\∀c o,c∉S->h.Ξ c<*o->h'.Ξ c<*o
def LW.uR(x:zNahh')(m:a∈S):LWShh':=(x.1,λc obe=>(x.2 c λq=>b (q▸m)).ξ e)
def LW.ξ(x:LWShh1)(y:LWSh1h2):LWShh2:=(y.1.ξ x.1,λc oae=>y.2 c oa^x.2 c oae)
section
variable{Ω:nA}{w:o4}{A:o7}{E:η->Θ->Prop}{s:Θ}{z TIfGi1i2:θ}{f1f2:γθ}{n1n2k:χ}{P1jF:χ->η->Prop}{tJyR:χ->n3->Prop}{a b:η}
def Rd!{Q:η->Θ->Prop}(D1:Draws Ωw Ai1f1n1P1tJ)(Z:Draws Ωw Ai2f2n2jFyR)(UT:∀c∈f1,c=i1\/c∉[z,fG,i1,i2])(m2:∀c∈f2,c=i2\/c∉[z,fG,i1,i2])(d:ZEz TIfGi1i2TITI)(hz:IsZip s.ρ z TIfG .ε)(B:tE s.ρ TI (.ο i1)^.ο i2)(P:tE s.ρ fGab)(h1:tJk s.ρ)(h2:yRk s.ρ)(l1:k<n1)(l2:k<n2)(NG:∀xyh'j8,P1kx->jFky->IsZip h'z TIfG^oV s⁻¹->tEh'TI (.ο i1)^.ο i2->tEh'fGxy->tJ (k+1) h'->yR (k+1) h'->tEh' s⁻¹ xy->
   (∀c o,c∉[z,fG,i1,i2]->s.ρ.Ξ c<*o->h'.Ξ c<*o)->Q (.ο s⁻¹) {s with ρ:=h',mU:=j8}):lZ (oPΩw) A (Builtin.«zip.__next__» ([.ο z],[])) (λR s'=>∃v,R=.done^.ret v/\Qv s') E s:=by
 unfold Builtin.«zip.__next__»;show lT^uZ (a:=QJN) ζ^lT^qU hz ζ (x:=.bC ν) ζ^lT^qU hz ζ (x:=.ο TI) ζ^lT (FEBζ ?_);show vM (!1) QDr;unfold Builtin.Wy.ownedTupleIsFree;show lT (qU hz ζ (x:=.ε) ζ^mR^TJ (!0)^lT^Z7^lT^qU hz ζ (x:=.ο fG) ζ^lT^YO hz (!1) λg1z1c1=>?_);let k1:LW [z,fG,i1,i2] s.ρ g1:=.uR c1 (!1);let n:∀QMw{gg':n3},QBM->tJjg->QKu->tJjg':=λk st e=>D1.fm ___ st λc h=>by
  rcases UTch with ζ|O
  .exact e
  .exact λoq=>kco Oq
 let l:∀QMw{gg':n3},QBM->yRjg->QKv->yRjg':=λk st e=>Z.fm ___ st λc h=>by
  rcases m2ch with ζ|O
  .exact e
  .exact λoq=>kco Oq
 simp only[γ.zipIdx_cons,γ.zipIdx_nil,DR,ZY];show lT (lT^lT^wpAny_onRaise!^lT (m:=Builtin.Wy.nextOf QEB)^D1.item k___l1 (n k1.2 h1 λoe=>(c1.2 i1 d.i1z).ξ e) λxg2t2p1d1D=>mR ?_);let W:tEg2fGab:=(D.2 fG d.TOi1).ξ^(c1.2 fG d.TOz).ξ P;show lT (FEWζ^lT^wpAny_updateSeq_pair! W λg3 dc! r=>lT^wpAny_letGo!^mR^lT^lT^wpAny_onRaise!^lT (m:=Builtin.Wy.nextOf QFA)^Z.item k___l2 (l ((k1.ξ^.uR D (!1)).ξ^.uR r (!1)).2 h2 λoe=>?_) λy AE aj! p2d2C=>mR ?_)
 .exact (r.2 i2 d.TOi2.UH).ξ^(D.2 i2 d.i12.UH).ξ^(c1.2 i2 d.i2z).ξ e
 let U:tEAEfGxb:=(C.2 fG d.TOi2).ξ dc!;show lT (FEUζ^lT^wpAny_updateSeq_pair! U λfHp=>lT^wpAny_letGo! QH2);replace H:tEffGxy:=H;let k5:LW [z,fG,i1,i2] s.ρ f:=(((k1.ξ^.uR D (!1)).ξ^.uR r (!1)).ξ^.uR C (!1)).ξ QKw;let T:IsZip fz TIfG .ellipsis:=(p.2 z d.TOz.UH).ξ^(C.2 z d.i2z.UH).ξ^(r.2 z d.TOz.UH).ξ^(D.2 z d.i1z.UH).ξ z1;let N:tJ (k+1) f:=n (((LW.uR (S:=[z,fG,i1,i2]) r (!1)).ξ^.uR C (!1)).ξ QKw).2 d1 λoe=>(p.2 i1 d.TOi1.UH).ξ^(C.2 i1 d.i12).ξ^(r.2 i1 d.TOi1.UH).ξ e;let M:yR (k+1) f:=l (LW.uR (S:=[z,fG,i1,i2]) p (!1)).2 d2 λoe=>(p.2 i2 d.TOi2.UH).ξ e;show lT^FEHζ^lT (wpAny_newTuple! ?_);unfold Builtin.Wy.ownedTupleHandOut;let f_!:IsZip (f.Uu {dM:=.TB "tuple",mY:=.Yv #[x,y]}) z TIfG .ellipsis:=nN_ T;show lT (lT^YO f_! (!1) λAz! J Y=>?_);replace J:IsZip Az! z TIfG^oV f.u_.fC:=J;show YOJ (!1) λI FX=>mR (2,3);replace F:IsZip Iz TIfG^oV f.u_.fC:=F;let i:∀c o,c≠z->f.Ξ c<*o->I.Ξ c<*o:=λc ohe=>(X.2 c h).ξ^(Y.2 c h).ξ QJO;let t:f.u_.fC≠z:=IT^oNT;let u:tEI f.u_.fC xy:=(X.2 _t).ξ^(Y.2 _t).ξ^t8_ζ;let sz!:f.u_.fC=s⁻¹:=k5.1;let L:tEf TIQEBQFA:=k5.2 TI_ (by simp[d.TIz,d.TITO,d.TIi1,d.TIi2]) B;change Q (.ο f.u_.fC) _;rw[sz!]at F u⊢;show NGxy I aj! p1p2F (i__ d.TIz L) (i__ d.TOz H) (n (λc ohe=>ico (λq=>h^by simp[q]) e) N λoe=>i_o d.i1z e) (l (λc ohe=>ico (λq=>h^by simp[q]) e) M λoe=>i_o d.i2z e) u λc ohe=>ico (λq=>h^by simp[q])^k5.2 c ohe
end
section
variable{Ω:nA}{w:o4}{A:o7}{E:η->Θ->Prop}{s:Θ}{z TIfGi1i2:θ}{n1n2k:χ}{P1jF:χ->η->Prop}{tJyR:χ->n3->Prop}{a b:η}
abbrev EC! QFJ QIx:pZ:={dM:=.TB^if x.Ym.u7 QLF then "str_ascii_iterator" else "str_iterator",mY:=.xq #[.uM xt,.tV 0 0]}
def uh!(h:Q QAY {s with ρ:=s.ρ.Uu^EC! xt}):lZQASA (pyIter QL1) Q E s:=by
 unfold EC! at h;cases e:x.Ym.u7 QLF<;>rw[e]at h
 .exact wpAny_pyIter_wide! eh
 .exact wpAny_pyIter_ascii! eh
abbrev Dd! QFJ QIx QRy QAu QJx:Prop:=h.IsStrIter it (if x.Ym.u7 QLF then "str_ascii_iterator" else "str_iterator") xti
def draws!(d:A.T6=ε)QRy QFJ QIx:Draws Ωw A it [it] x.Ym.fC (λiv=>∃cu,x.Ym[i]?=δc/\v=.uM ⟨#[c]⟩ u)^Dd! xt it:=by
 unfold Dd!;cases x.Ym.u7 QLF
 .exact Draws.strWide d it xt
 .exact Draws.strAscii d it xt
end
end Uz
end _F
namespace _F
open PySem.Spec PyProof.Rows
section
variable{X:n8}{aI:γQA8}{σ:St}{H:m1}{s:Θ}{h':n3}
def K0{S:γθ}(f:∀b∈S,Hb=ε)(e:Hb<*u):b∉S:=λa=>by rw[fba]at e;cases e
def f'.turnedL{S:γθ}QAB QHh QQH:f'XaIσH {s with ρ:=h',mU:=t'}:=by
 show I.wG (g':=s.PF) (d':=s.drawn) (ch:=S) (λboe__d=>kbode,λboe__d=>(o.slots,kbode),λ___n_=>n,λboed=>(o,kbode),λ__e=>e,λ___e=>e,λ_pse=>(#[],by rw[e];simp))
  (λbue=>(I.rv bue).Zx QOdQKF λ__q=>q) I.pH λba=>((fba).2.2.2.1,(fba).2.1,(fba).2.2.2.2.1,(fba).2.2.2.2.2)
 rcases d with z|z
 .rw [z];show K0QFxe
 .exact K0QFxz
def f'.turnedNew{S:γθ}{t':χ}QIz QAB QHh QQH(h:qN X.Ω X.w (mEH s⁻¹ o) h' s⁻¹ o):f'XaIσ (mEH s⁻¹ o) {s with ρ:=h',mU:=t'}:=by
 let i:H s⁻¹=ε:=I.rv.ax QBF;let g:∀bu,Hb<*u->b≠s⁻¹:=λbue=>oZei;show I.wG (g':=s.PF) (d':=s.drawn) (ch:=S) (λboe__d=>kbode,λboe__d=>(o.slots,kbode),λboen_=>?_,λboed=>(o,kbode),λbxse=>by rw[a'^gb_e];show e,λboue=>by rw[a'^gb_e];show e,λbpse=>(#[],by rw[a'^gb_e,e];simp))
  (λbue=>?_) I.pH λba=>((fba).2.2.2.1,(fba).2.1,(fba).2.2.2.2.1,(fba).2.2.2.2.2)
 .rw [a'QGs];show n
 .by_cases a:b=s⁻¹
  .subst a;rw[hJ]at e;cases e;show h
  .rw [a'a]at e;show(I.rv bue).Zx QOd (λcq=>by rw[a'^gc_q];show q) λcxsq=>by rw[a'^gc_q];show q
   rcases d with z|z
   .rw [z];show K0QFxe
   .exact K0QFxz
end
end _F
namespace _F
open PySem.Spec PyProof.Rows Builtin Builtin.Str
section
variable{X:n8}{e:bI}{eJ:TE}
end
end _F
namespace _F
open PySem.Spec PyProof.Rows
abbrev rU(o:pZ):ψθ×ψη:=(o.wF,match o.mY with|.xq vs=>vs[2]?|_=>ε,)
abbrev LI(o:pZ)(x:θ×b9):Prop:=(rUo).1=δ x.1/\(x.2=π->(rUo).2<*.ε)
def LI.of(h:LIox)(e:rUa=rUo):LIax:=by
 unfold LI at *;rw[e];show h
abbrev uG{α:Type}:Sem α->Prop
 |.pure _=>vN
 |.raise _=>vN
 |.unsupported _=>vN
 |.load _ _ k=>∀o,uG^ko
 |.ei _ _ f k=>(∀o,rU^fo=rUo)/\uG^k ()
 |.alloc _ k=>∀a,uG^ka
 |.US k=>∀a,uG^ka
 |.ask k=>∀a,uG^ka
 |.T6 _ k=>∀a,uG^ka
 |_=>oA
abbrev L3(hh':n3):Prop:=∀QV1(o:pZ),h.u_[b]?<*o->∃o',h'.u_[b]?=δo'/\rUo'=rUo
def L3.Kx:L3hh:=λ_oe=>(o,e,0)
def L3.ξ(a:L3hh1)(b:L3h1h2):L3hh2:=λxoe=>let(_,f,d1):=axoe;let(c,d,d2):=bx_f;(c,d,d2.ξ d1)
def uE{f:c->Sem e}(d:∀a,uG^fa):∀{t:Sem c},uGt->uG (t>>=f):=by
 intro t;change uGt->uG^Sem.bind tf;induction t with
 |pure a=>show λ_=>da
 |raise!=>show id
 |unsupported!=>show id
 |load! a p k b=>show λho=>bo^ho
 |ei! a p g k b=>show λh=>(h.1,b () h.2)
 |alloc! o k b=>show λha=>ba^ha
 |US k b=>show λha=>ba^ha
 |ask! k b=>show λha=>ba^ha
 |T6 o k b=>show λha=>ba^ha
 |_=>show λh=>h.Q5
def Px!{Q:i->nV->Θ->Prop}:∀(t:Sem i)(p:nV)QCD,uGt->L3l s.ρ->Sem.wp MΓt (λa p s'=>L3l s'.ρ->Qa p s') Ep s->Sem.wp MΓtQ Ep s:=by
 intro t;induction t with
 |pure a=>show λp s_dh=>h d
 |raise!=>show λp s_dh=>h
 |unsupported!=>show λp s_dh=>h
 |load! a q k c=>show λp sgd⟨o,e,h⟩=>(o,e,c o p s (g o) dh)
 |ei! a q f k c=>
  show λp sgd⟨e,h⟩=>(e,c () p_ g.2 (d.ξ λboz=>?_) h);change ∃j,(s.ρ.u_.modify af)[b]?=δj/\_;rw[pV.getElem?_modify];split
  .rw [z];show(fo,0,g.1 o)
  .exact (o,z,0)
 |alloc! o k c=>
  show λp sgdh=>c_p_ (g_) (d.ξ λbuz=>(u,3,0)) h;change (s.ρ.u_.Uu o)[b]?<*u;rw[pV.getElem?_push,mF^p8 (pV.Vq.mp z).1];show z
 |US k c=>show λp sgdh=>c_p s (g_) dh
 |ask! k c=>show λp sgdh=>c_p s (g_) dh
 |T6 o k c=>show λp sgdh=>c_p s (g_) dh
 |_=>show λp sg=>g.Q5
def M7{t:Sem b}QNu(g:uGt)(h:lZM At (λa s'=>L3 s.ρ s'.ρ->Qa s') E s):lZM AtQ E s:=
 λΓpc=>Px! tp sg .Kx^hΓpc
def nc!(h:∀o,rU^fo=rUo):uG^ei! af:=(h,vN.Vw)
def A_! QCw:uG^load! a:=λ_=>vN.Vw
def x_!:uGUS:=λ_=>vN.Vw
def Aa!(v:η)QAu:uG^field! vi:=by
 unfold field! fieldsOf!;show uE (λa=>by cases a[i]?<;>show vN.Vw) ?_;cases v with
 |ο a=>show uE (λo=>by cases o.mY<;>show vN.Vw)^A_! _
 |_=>show vN.Vw
def Hz!(a:i≠2)(o:pZ):rU (o.WS (·.Um i x))=rUo:=by
 let(c,d,b,e):=o;cases b with
 |xq! vs=>change (d,(vs.Um ix)[2]?,)=(d,vs[2]?,);rw[pV.getElem?_setIfInBounds_ne a]
 |_=>rfl
def l_!(v:η)QAu(x:η)(a:(i≠2)>>>0):uG^setField! vix:=by
 unfold setField! updateField!;cases v with
 |ο b=>
  show uE (λo=>?_)^A_! _;cases o.mY with
  |xq! vs=>
   dsimp only;split
   .exact (λo=>Hz! ao,vN.Vw)
   .exact vN.Vw
  |_=>show vN.Vw
 |_=>show vN.Vw
def Ap!(e:η)(f:ψθ):uG^setFlight! ef:=by
 unfold setFlight!;show uE (λa=>by split;show l_! ___;show vN.Vw) QTR
def Vg!:∀l:γ Env,uG (readyFrames! l)
 |[]=>vN.Vw
 |fN::r=>by
  unfold readyFrames!;split
  .refine uE (λo=>?_)^A_! _;split
   .exact vN.Vw
   .refine uE (λb=>uE (λv=>uE (λ_=>Vg! r) ?_) ?_) ?_
    .exact nc! λ_=>rfl
    .unfold keptBack!;split
     .split
      .exact vN.Vw
      .refine uEQDi ?_
       .exact vN.Vw
       unfold underTheClaimsCaller!;show uE (λ_=>by first|show vN.Vw|(split<;>show vN.Vw)) x_!
     .exact vN.Vw
    .unfold behindIsImport!;split
     .exact vN.Vw
     .split
      .exact vN.Vw
      .refine uEQDiQTR;show vN.Vw
  .exact vN.Vw
def ED!(T:String)QQE:uG^newFields! Tvs:=by
 unfold newFields! newObj! newObjAsIs!;dsimp only;split
 .exact vN.Vw
 .refine uE (λa=>?_) ?_
  .exact vN.Vw
  .exact λ_=>vN.Vw
def Ax!(e:η)(fN:Env):uG^noteFrame! efN:=by
 unfold noteFrame!;split
 .refine uEQCyQTR;let f6:∀b:b9,uG (do setField! e 1 (<-EntryCells.newEntry h (<-Δ.frameOf fN) .ε (oV ‹θ›) .ε (<-entryPlaceOf! ‹θ› b))):=λb=>by
   show uE (λc=>uE (λpl=>uE (λx=>l_! ___) ?_) ?_) ?_
   .exact ED! __
   .unfold entryPlaceOf!;show uE (λa=>by split<;>show vN.Vw) x_!
   .unfold Δ.frameOf frameEnvs!;show uE (λd=>uE (λo=>by split<;>show vN.Vw) ?_) (uEQDi x_!)
    rotate_left
    .exact vN.Vw
    unfold frameObject!;split
    .exact vN.Vw
    .refine uEQDi^Vg! _;show vN.Vw
  split
  .refine uE (λx=>?_) QTR;split
   .exact vN.Vw
   .exact uE (λ_=>f6_)^l_! ___
  .exact f6_
 .exact vN.Vw
def Ab!(fN:Env)(e:η):uG^ZGfNe:=uE (λ_=>Ap! __) QTS
inductive FS QJx(e T:θ)(dMa0:η)(d:ψQTT):Prop
 |mk (H5vsoTts:_) (_:h.Ξ e<*H5) (_:(H5.dM=dM/\vs[0]?<*a0)) (_:H5.mY=.xq vs) (_:vs[1]?<*.ο T) (_:T≠e) (_:h.Ξ T<*oT) (_:oT.mY=.xq ts) (_:ts[3]?<*.ε) (_:∀x,d<*x->LIH5x)
def FS.traced(x:FShe TdMa0d)(n:υ.Ξ T=ε):h.TracedW υedMa0:=by
 let(a,vs,b,ts,h1,h2,k,j,i,g,f,c,_):=x;show(a,vs,T,b,ts,h1,h2,k,j,n,i,g,f,c)
def ZM(x:h.TracedW υedMa0):∃T,υ.Ξ T=ε/\FShe TdMa0ε:=by
 let(a,vs,T,b,ts,h1,h2,j,i,n,g,f,d,c):=x;show(T,n,a,vs,b,ts,h1,h2,j,i,g,f,d,c,λ_z=>nomatch z)
def GJ{h:n3}(e:h.Ξ a<*o):h.u_[a]?<*o:=by
 show(n3.get?_some_iff.mp e).1
def FS.up(f:FSh'e TdMa0ε)(k:L3hh')(g:h.Ξ e<*o)(q:∀x,d<*x->LIox):FSh'e TdMa0d:=by
 let(b,vs,c,ts,h1,h2,p,n,m,l,j,i,_):=f;let(s,a,r):=keo^GJg;rw[GJh1]at a;cases a;show(b,vs,c,ts,h1,h2,p,n,m,l,j,i,λx z=>(qxz).of r)
inductive tP QLB QBg QER QAH QCD QE4(ev:η)QLV:Prop
 |mk (e T:θ) (Ca0:η) (dd:ψQTT) QBe (_:ev=.ο e) (_:s'.os=s.os) QVV QJz QTI (_:s.ρ.Ξ e=ε) (_:s.ρ.Ξ T=ε) (_:H'e=ε) (_:H'T=ε) (_:FS s'.ρ e TCa0 dd) (_:EC dd H')
def L9{hυ:n3}{a:γθ}:∀{l:γ Env},h.V_ υl->(∀b∈oJl,b∈a)->h.V_ (zSha) l
 |[],_,_=>trivial
 |fN::r,i,c=>by
  let(j,(L,o,d,n,g,k),f):=i;let e:oJ (fN::r)=L::oJr:=by unfold oJ;rw[Zs,d]
  show(j,(L,o,d,I7_ (cL^by rw[e];show cG),g,k),L9f λb m=>cb^by rw[e];show qO_m)
def LA{hυ:n3}:∀{l:γ Env},h.V_ υl->∀b∈oJl,∃o,h.Ξ b=δo/\∀vs,o.mY≠.xq vs
 |fN::r,f,b,a=>by
  let(k,(L,o,g,j,d,i),c):=f;let e:oJ (fN::r)=L::oJr:=by unfold oJ;rw[Zs,g]
  rw[e]at a;rcases u3.mp a with ζ|a
  .exact (o,d,i)
  .exact LAcba
section
variable{X:n8}{aI:γQA8}{σ:St}{HH':m1}{s:Θ}{h1h2:n3}
def f'.flown{S:γθ}QAB(un:rJQCN [] HH' s.ρ h1)(t:y' X.Ω X.w H'h1)(r:∀b∈S,s.ρ.Ξ b=ε)(off:∀b∈S,H'b=ε)(d:∀bo,h1.Ξ b<*o->b∉S->b∉oJ X.US->h2.Ξ b<*o)(C:h1.UpToSlots h2)(L:AllBare! g'):f'XaIσH' {s with ρ:=h2,PF:=g',drawn!:=d',mU:=t'}/\rJQCN [] HH' s.ρ h2/\y' X.Ω X.w H'h2:=by
 let g:∀bo,s.ρ.Ξ b<*o->b∉S:=λboea=>by rw[rba]at e;cases e
 let y:∀b∈oJ X.US,∃o,s.ρ.Ξ b=δo/\∀vs,o.mY≠.xq vs:=LA I.US;let p:∀b∈oJ X.US,H'b=ε:=λba=>by
  let(o,J,_):=yba;show un.VC bo J (I.stkFree ba) (!1)
 let k:rJQCN [] HH' s.ρ h2:=by
  show(λboenaj=>dbo (un.AP boenaj) (gboe) a,λboenaj=>?_,un.VC,λboej=>?_,un.Xk,un.frzs,un.tbls)
  .obtain ⟨E,B⟩:=un.slot boenaj;let(F,f,x):=yba;rw[e]at f;cases f;let(l,A):=Cb_Bx;show(l,A)
  .obtain ⟨D,B⟩:=un.Xq boej;by_cases a:b∈oJ X.US
   .obtain ⟨F,f,x⟩:=yba;rw[e]at f;cases f;let(E,A):=un.slot boe (I.stkFree ba) aj;let(l,M):=Cb_ Ax;show(_,M)
   .exact (D,dbDB (gboe) a)
 let h:y' X.Ω X.w H'h2:=λbue=>(tbue).Zx (λcviq=>dcvq (λm=>?_) λm=>?_) QKF λ__q=>q
 .exact (I.wG (g':=g') (d':=d') (t':=t') (ch:=[]) khLQAC,k,h)
 .rcases i with ζ|i
  .rw [off cm]at e;cases e
  .rw [off cm]at i;cases i
 .rcases i with ζ|i
  .rw [p cm]at e;cases e
  .rw [p cm]at i;cases i
def B4 QAB(a:X.ex=[])(d:s.ρ.Ξ b=ε):X.Xy.ρ.Ξ b=ε:=by
 cases e:X.Xy.ρ.Ξ b with
 |ε=>rfl
 |δ o=>
  let(c,q):=I.υ.Xq boe (by rw[a];simp);rw[d]at q;cases q
def OI(a:y'PwHh)(d:h.Ξ b=ε):Hb=ε:=by
 cases e:Hb with
 |ε=>rfl
 |δ u=>
  obtain⟨o,q⟩:∃o,h.Ξ b<*o:=by
   let z:=a bue;cases u with
   |P'=>let(_,eE,n,_,q):=z;show(_,q)
   |iT=>let(_,eE,_,o,q,_):=z;show(_,q)
   |r6=>let(_,_,vs,_,o,c,f,q,_):=z;show(_,q)
   |dT=>let(_,_,xs,_,o,c,f,q,_):=z;show(_,q)
   |X6=>let(o,c,f,t,q,_):=z;show(o,q)
   |TM=>let(_,_,_,q,_):=z;show(_,q)
   |own=>show z
   |xd!=>let(g,(o,c,f,q,_),_):=z;show(o,q)
   |rng!=>let(t,u,v,q):=z;show(_,q)
   |frz=>show(_,z.1)
   |tbl!=>show(_,z)
   |met!=>show(_,z)
   |ext=>show z.2.1
  rw[d]at q;cases q
def KG(j:FShe TdMa0d)(f:h.V_ υl):T∉oJl:=λc=>by
 let(k,vs,m,ts,_,_,_,_,_,i,a,_):=j;let(o,b,g):=LAf Tc;rw[i]at b;cases b;show gtsa
end
section
variable{X:n8}{E:r3}
def Pt!(f:X.ex=[])QB'(g:X.fN.fm<*X.fN.hl){p:St}(I:f'XkpH s)(mk:n3.MadeExcOf s.ρ h1eCvs)(q:ECεH):lZQAA X.A (ZG X.fN QAm) (λ_a=>tP X.Ω X.w X.b7 X.H₀ X.Xy EQAma) (λe'a=>tP X.Ω X.w X.b7 X.H₀ X.Xy Ee'a) {s with ρ:=h1}:=by
 let d:s.ρ.V_ X.υ QBr:=eZ▸I.US;show wpAny_leaves_madeW! (s:={s with ρ:=h1}) (υ:=zS s.ρ QCN) (h:=s.ρ) (by rw[<-eZ];show I.ok.Xe) gQGK (L9d^by rw[eZ];show λ_z=>z) mk λh'tmiTBr=>?_;let(i,u,c):=I.flown (H':=H) (h1:=s.ρ) (h2:=h') (g':=s.PF) (d':=s.drawn) (t':=s.mU) (S:=[]) rJ.Kx I.rv QACQAC (λboz_x=>m.1 bo^DW_zx)
  (λbozv=>rbo (mk.hL boz) v) I.pH
 let(T,l,n):=ZM m.2.2.2;let dT:s.ρ.Ξ T=ε:=by
  cases z:s.ρ.Ξ T with
  |ε=>rfl
  |δ o=>
   let y:=KGn i.US;rw[DW_zy]at l;cases l
 let j:=i.υ;rw[f]at j;show(e,T,C,.ο t,ε,H,0,i.os,I.pH,j,c,B4If mk.new,B4IfdT,OI I.rv mk.new,OI I.rv dT,n,q)
def xh!(D:X.ex=[])QB'(F:X.fN.fm<*X.fN.hl)(KC!:∀CdH,eVCdH->ECdH){N:St}(I:f'Xk NH s)(iE:tP X.Ω X.w X.US H seVY s'):lZQAA X.A (ZG X.fN Y) (λ_f=>tP X.Ω X.w X.b7 X.H₀ X.Xy E Yf) (λe'f=>tP X.Ω X.w X.b7 X.H₀ X.Xy Ee'f) s':=by
 let(e,T,C,a0,dd,H',ζ,os,a,un,h,Z,dT,Q,R,W,q):=iE;let(c,g,d,j,B):=s';obtain ζ:B=s.os:=os;let kM:f'Xk NH' {s with ρ:=c,PF:=g,drawn!:=d,mU:=j}:=I.wG (g':=g) (d':=d) (t':=j) (ch:=[]) un haQAC;let x:c.V_ X.υ QBr:=eZ▸kM.US;let j6:n3.FlyingW (zScQMD) QBreCa0c:=
  (λboz=>of_hideAll! _z,I7_ (!1),L9x (by rw[<-eZ];show λbz=>qO_^qO_z),W.traced QSE)
 show M7 (s:=(c,g,d,j,s.os)) (Ab! __) (wpAny_leaves_onW! (s:=(c,g,d,j,s.os)) (by rw[<-eZ];show I.ok.Xe) Fj6 λh'u up jO=>?_);let l:∀bo,c.Ξ b<*o->b∉[e,T]->b∉oJ X.US->h'.Ξ b<*o:=λboz Up=>u.1 bo (DW_z λn=>by
  rcases u3.mp n with y|n
  .exact U (by rw[y];simp)
  .rcases u3.mp n with y|n
   .exact U (by rw[y];simp)
   .exact pn)
 let(M,ab,m):=I.flown (H':=H') (h1:=c) (h2:=h') (g':=g) (d':=d) (t':=j) (S:=[e,T]) un h (λbp=>by rcases u3.mp p with z|z;rw[z];show Z;rw[o6z];show dT)
  (λbp=>by rcases u3.mp p with z|z;rw[z];show Q;rw[o6z];show R) l up a
 let(iG,P,i):=ZM u.2.2.2;let v:s.ρ.Ξ iG=ε/\H'iG=ε:=by
  cases z:c.Ξ iG with
  |ε=>
   show(3,OIhz);cases y:s.ρ.Ξ iG with
   |ε=>rfl
   |δ o=>
    let(o',r):=un.Xq iGoy (!1);rw[z]at r;cases r
  |δ o=>
   by_cases t:iG=T
   .rw [t];show(dT,R)
   .let L:iG≠e:=by let(_,_,_,_,_,_,_,_,z,_):=i;show z
    let J:=KGi M.US;rw[DW_z^by simp[t,L,J]]at P;cases P
 let O:=M.υ;rw[D]at O;let(H5,_,_,_,g1,_,_,_,_,_,_,_,g2):=W;show(e,iG,C,a0,dd,H',0,M.os,a,O,m,B4ID Z,B4ID v.1,Q,v.2,i.up jOg1g2,KC! ___q)
end
section
variable{X:n8}
abbrev Fh! QDl(e:bI)(c:St->Prop):Prop:=∀QAKQCDQCCQAHQE3,f'XaIσH s->cσ->(∀yt s',f'XaIσH s'->y.β≤100000->Q (.uM yt) s')->
 lZ QAA X.A QFN Q X.xe s
abbrev qh! QDl:γbI->(St->Prop)->Prop
 |[],_=>vN
 |e::es,c=>Fh! Xec/\qh! Xesc
def IB!(h:(x.β≤100000)>>>0):Fh! XQRJc:=λ_____ I_q=>YL.Constant_str^qx__QOYh
abbrev dk! QAu QCC:Prop:=∃x:bE,σ[i]?=δ^δQHd/\x.β≤5000/\∀c∈x.Ym.Zh,c<1000000
def vC!(h:n≤100000):n≤Φ:=by rw[w9];lia
def Py! QAu(l:mPXvQP5)(k:∀a,c a->dk! ia):Fh! X (.FormattedValue v 114 εb8) c:=λb saHQ Idq=>by
 let(x,e,y,m):=kad;let hz:(reprText! x).β≤100000:=n5 (StrLaws.reprText_len x λc d=>zP (mcd) (!0)) (!6);show wpAny_FormattedValue_repr! (nb (lb saH (λwg=>w=.uM x/\g=H) I^.of e (0,0)) λurf=>?_);let(w,g,p,j,o,n):=f;subst o n;let(t,ζ):=j;show wpAny_pyReprObj_str! ?_^vC! hz;show WC.Rows.formatField_str (λt'h=>q_t'_ ((p.y4 _).y4 h) hz)^vC! hz
def dg!{c:St->Prop}{a:γQA8}{f:St}QGr{Q:bE->Θ->Prop}(g:cf)(q:∀gTs,f'XafH s->gT.β≤3000000->Q gTs):∀{d:γbI}{b:bE}{s:Θ},qh! Xdc->d.β≤20->b.β+d.β*100000≤3000000->f'XafH s->
  Joins! QAA X.A X.xe (evalEach! d X.fN) b Q s
 |[],b,s,_,_,hz,I=>by
  rw[show evalEach! [] X.fN=[] by rfl];show qb s I (by simpa using hz)
 |e::d,b,s,h,i,hz,I=>by
  rw[show evalEach! (e::d) X.fN=oFe X.fN::evalEach! d X.fN by rfl];show h.1 a sfH_ Ig λyt s'jk=>(y,t,0,3,3)
  .rw [bE.length_append,w9];simp at hz;lia
  .refine dg! gq h.2 (by simp at i;lia) ?_ j;rw[bE.length_append];simp at hz;lia
abbrev AX!(c:St->Prop):TE:=λσHQ=>cσ/\∀x,Q QHdH
def Pz!(h:qh! X (b::a::f6) c)(e:((b::a::f6).β≤20)>>>0):mPX (.JoinedStr (b::a::f6) b8)^AX! c:=by
 intro d siHQ I ⟨f,q⟩;show wpAny_JoinedStr! (dg! f (λgTs'g hz=>(3,.uM gT,H,g.y4 _,(_,0),qgT)) h e ?_ I)
 .have:bE.X7.β=0:=ζ;simp at e⊢;lia
 .rw [w9];lia
end
abbrev yK QAw QGE:Prop:=∃bm N nm iAbsr5 sn hG ab col dd k0k1k2k3k5,K.ς C=δ^X3 nm iAC Nbs bm r5 sn hG ab col dd k0k1k2k3k5 "ValueError.__new__"/\Δ.W.tailIn K [.TB "ValueError",.TB "Exception",.TB "BaseException",.TB "object"] bm=π/\Δ.W.nsOkIn K N=π/\nsIn K N "__init__"<*ε
def yK.obj QC1(q:yK KC)QJP:∃bm N nm bbsr5 sn hG ab col dd k0k1k2k3k5mN,h.Ξ C=δ^X3 nm bC Nbs bm r5 sn hG ab col dd k0k1k2k3k5 "ValueError.__new__"/\h.Ns NmN/\mN "__init__"=ε/\
  OwnTail! h [.TB "ValueError",.TB "Exception",.TB "BaseException",.TB "object"] bm:=by
 let(bm,N,nm,b,bs,r5,sn,hG,ab,col,dd,k0,k1,k2,k3,k5,a,c,ok,d):=q;show(bm,N,nm,b,bs,r5,sn,hG,ab,col,dd,k0,k1,k2,k3,k5,_,X__a,.of_isNs^Δ.W.isNs_of_in X ok,Δ.W.nsMap_none_of_in X ok d,Δ.W.tail_of_in Xc)
abbrev Fd! QDl QE4:Prop:=∀QAKQCCQAH QCD(h1:n3)(e:θ)(C:η)QQE,f'XaIσH s->n3.MadeExcOf s.ρ h1eCvs->ECεH->X.xe QAm {s with ρ:=h1}
abbrev PB! QGE QE4 QHR:oW:=λ_σH=>tσH λvsH1=>vs.β≤Φ/\EQAkεH1
def Hx!{rab8:nV}(z:X.TN=π)(B:Fd! X E)(J:yK X.K C)(u:X.mg x<*.ο C)(A:qTX (j::f6) t)(w:pUXx>>>4)(y:((x==("__debug__":bE))=ν)>>>0)(l:(Ψ (j::f6) X.fN=(ν,oFj X.fN,)::Ψf6 X.fN)>>>4)(d:((pNa^Ψf6 X.fN).I9 QBA=ν)>>>4):w0X (.Raise (δ^.Wm (.Ip xr) (j::f6) [] a) εb8)^PB! C Et:=by
 intro b skHD Ih;let(bm,N,nm,p,bs,r5,sn,hG,ab,col,dd,k0,k1,k2,k3,k5,mN,i,F,f,n):=J.obj I.ok.mod.kin;show wpAny_Raise_call_subT! (C:=C) (nm:=nm) (q:=p) (N:=N) (bs:=bs) (bm:=bm) (r5:=r5) (sn:=sn) (hG:=hG) (ab:=ab) (col:=col) (dd:=dd) (k0:=k0) (k1:=k1) (k2:=k2) (k3:=k3) (k5:=k5) nr! (mN:=mN)
  (n.hasType nr.hasBase) (I.ok.hd z) (by rw[l];change (ν||(pNa^Ψf6 X.fN).I9 QBA)=ν;rw[d];rfl) f (CGIwu (0,3) y)
 let m:=Aab skH_ Ih;rw[l]at m⊢;show YL.Yt (nb m λuss2g=>by let(vs,L,c,o,v,q):=g;show(0,by rw[<-o.β];show v,c.hU __i,F.hL c.hU,n.hL c.hU,λh'e mk=>BbkL s2h'e__c mk q))
section
variable{P:nA}{w:o4}{K:qI}{mg:bE->ψη}{υ:n3}{N:γbE}{bA:bE}{g8:qA}{f:θ}{cd:η}{A:o7}{b7:γ Env}{s:Θ}{H:m1}{E:r3}
def Wk!:Fd! QGkE:=λa b dch1eCvsI mk q=>Pt! (X:=aWQBiPwK mg υ NbAg8f cd Ab7sH E) ζζζ I mk q
def Cp!(b:∀CdH,eCdH->ECdH):AOQBiQGke:=λagjhi s'Ic=>xh! (X:=aWQBiPwK mg υ NbAg8f cd Ab7sH E) ζζζb Ic
end
def nE.okX{P:nA}{w:o4}{K:qI}{st:cZ}(F:nEKxbA st f h)(S:n9Nps^hY st)(eN:∀vsHQ E,d vsHQ E->vs.β=ps.β)(a:∀(bY:η)(A:o7)(b7:γ Env)(s:Θ)(H:m1)(vs:γ V)(Q:oE)(E:r3),q4k^A.jq^envOfC bA (hY st) s⁻¹ fbY->d vsHQ E->
   ∃t,tR (aW (tPPw) PwK mg υ NbA (hY st) fbYAb7sH E) (nR st) t/\t {pO:=λ_H'=>Q .vS H',CF:=Q} (ZRNvs) H):mTPwK mg υ (tPPw) (k+1) f hpsd:=by
 let(j,i,kV,cR,pm,an,bY,ct,e,ζ,lk,c):=F.ex;show V0 lk c SeN λAb7sHvsQ Egb=>abYAb7sHvsQ Egb
abbrev rP QLB QBg QAw QAy QRH QFJ QGT QGU QPc:Prop:=
 ∃(f:θ)(fd:uP),mg x=δQAr/\Y7KQAr=π/\p6K fd ps []/\mTPwK mg υQBikf fd ps sp
def wU QVT QGn(D:rP X.Ω X.w X.K X.mg X.υ xkpsd)(g:q4k X.A)(b5:AO (tP X.Ω X.w) X E)QVa(h:pUXx>>>4)(c:((x==("__debug__":bE))=ν)>>>0)(i:QEa>>>4)QH1:mPXQPe^vYd [] Et:=by
 let(f,m,h1,h2,l,F):=D;show Wp! Fghh1h2l .nS b5jcib
abbrev AN(e:θ)(C:η)(d:ψQTT):j7:=.ext λh=>∃o,h.Ξ e=δo/\o.dM=C/\QIj/\∀x,d<*x->LIox
instance n8.held QDl(v:η):n8:={X with A:=X.A.mark QFq,TN:=ν,xe:=λ__=>oA}
section
variable{X:n8}{aI:γQA8}{σ:St}{H:m1}{s:Θ}
def f'.held QAB(v:η):f'QFMaIσH s:=
 ((I.ok.mod,I.ok.XA,I.ok.glob,I.ok.blt,I.ok.above,I.ok.WZ,I.ok.A7,I.ok.cab,λz=>b9.noConfusion z,I.ok.Xe,I.ok.stk,I.ok.exf,I.ok.bs,I.ok.bsz,I.ok.noex,I.ok.exfs,I.ok.funs,I.ok.frf),I.os,I.pH,I.υ,I.loc,I.aQ,I.VC,I.freeC,I.pin,I.rv,I.eN)
def f'.unheld QUf(ok:X.Ok):f'XaIσH s:=(ok,I.os,I.pH,I.υ,I.loc,I.aQ,I.VC,I.freeC,I.pin,I.rv,I.eN)
def f'.track QAB(j:He=ε)(k:X.Xy.ρ.Ξ e=ε)(h:X.fN.hl≠e)(nC:∀xc,X.fN.XL.ς x<*c->c≠e)(nP:∀p∈X.pn++aI,p.1≠e)(i:φ s.ρ)(a:∃o,s.ρ.Ξ e<*o)(st:∀h1h2:n3,φh1->(∀o,h1.Ξ e<*o->h2.Ξ e<*o)->φh2):f'XaIσ (mEHe^.ext φ) s:=by
 let d:∀bu,Hb<*u->b≠e:=λbuq=>oZqj;let g:∀bo,X.Xy.ρ.Ξ b<*o->b≠e:=λboqz=>by rw[z,k]at q;cases q
 show(I.ok,I.os,I.pH,(I.υ.AP,I.υ.slot,λboqnf=>?_,I.υ.Xq,λbxsq=>?_,λbouq=>?_,λbpsq=>?_),I.loc,I.aQ,3,λxcq=>?_,λpb5=>?_,λbuq=>?_,I.eN)
 .rw [a'QQI];show I.υ.VC boqnf
 .let z:=I.υ.Xk bxsq;rw[a'^db_z];show z
 .let z:=I.υ.frzs bouq;rw[a'^db_z];show z
 .obtain ⟨jA,z⟩:=I.υ.tbls bpsq;show(jA,by rw[a'^db_z];show z)
 .rw [a'h];show I.VC
 .rw [a'^nC xcq];show I.freeC xcq
 .obtain ⟨t,m,l⟩:=I.pin pb5;show(t,by rw[a'^nPpb5];show m,l)
 .by_cases f:b=e
  .subst f;rw[hJ]at q;cases q;show(i,a,st)
  .rw [a'f]at q;show(I.rv buq).Zx (λ___r=>r) (λc r=>by rw[a'^dc_r];show r) λcxsr=>by rw[a'^dc_r];show r
def f'.reframed{e:St}QAB(f:zN X.fN.hl s.ρ h')(ns:h'.Ns X.fN.hl k)(lk:∀QAu QFJ(v:V),X.N[i]?<*x->e[i]?<*δv->Hs X.fN.g8 x->∃u,nTvu/\IO X.fN h'kxu)(w:e.β=X.N.β):f'XaIeH {s with ρ:=h',mU:=t'}:=by
 let g:∀bo,X.Xy.ρ.Ξ b<*o->b≠X.fN.hl:=λboq=>p8^pP (oNq) I.ok.above;let j:∀bu,Hb<*u->b≠X.fN.hl:=λbuq=>oZq I.VC;show(I.ok,I.os,I.pH,(λboqnha=>(f.2 bQQI).ξ^I.υ.AP boqnha,λboqnha=>?_,I.υ.VC,λboqa=>?_,I.υ.Xk,I.υ.frzs,I.υ.tbls),(k,ns,lk),λxcq=>?_,I.VC,I.freeC,λpb5=>?_,λbuq=>?_,w)
 .obtain ⟨m,z⟩:=I.υ.slot boqnha;show(m,(f.2 bQQI).ξ z)
 .obtain ⟨t,z⟩:=I.υ.Xq boqa;show(t,(f.2 bQQI).ξ z)
 .obtain ⟨v,o,z,d⟩:=I.aQ xcq;show(v,o,(f.2 c^I.cne xcq).ξ z,d)
 .obtain ⟨B,A,l,y⟩:=I.pin pb5;show((f.2 p.1 l).ξ B,A,l,y)
 .refine (I.rv buq).Zx (λcvar=>(f.2 c ?_).ξ r) (λ_r=>r) λ__r=>r;rcases a with ζ|a
  .exact jcuq
  .exact jc_a
def f'.goes2 QAB(g:X.N.qg)(B:X.N[i]?<*n)(y:X.fN.F6 n<*.local)(q:∀s',zN X.fN.hl s.ρ s'.ρ->s'.PF=s.PF->f'XaI (σ.X6 iε) H s'->Q () s'):lZQAAA (do bindName! X.fN n .ε;unbindBehindTheSuite! X.fN n b8) Q E s:=by
 let(m,p,t):=id I.loc;show wpAny_nameGoes_keeps! y p (by rw[I.ok.XA];rfl) λh'vnsb=>q_bζ (I.reframed bns (λjxwf hw k=>?_)^by rw[γ.length_set];show I.eN);let a:j≠i:=λz=>by
  subst z;let e:j<σ.β:=by rw[I.eN];show(m9f).1
  rw[γ.getElem?_set_self e]at hw;cases hw
 rw[γ.getElem?_set_ne QJQ]at hw;let d:x≠n:=λz=>a (VNgf^by rw[z];show B);let(u,r,l):=tjxwf hw k;show(u,r,3);rcases l with⟨k1,k2⟩|⟨k1,c,k2,o,k3,h⟩
 .exact .UR (k1,by change (if x=n then v else mx)<*u;rw[mFd];show k2)
 .exact .P2 (k1,c,k2,o,(b.2 c^I.cne xck2).ξ k3,h)
def f'.goes QAB(a:X.N.qg)(c:X.N[i]?<*n)(b:X.fN.F6 n<*.local)(q:∀s',f'XaI (σ.X6 iε) H s'->Q () s'):lZQAAA (do bindName! X.fN n .ε;unbindBehindTheSuite! X.fN n b8) Q E s:=I.goes2 a cb λs'__=>q s'
end
abbrev eb! QAu QM0:Ends:={pO:=λσ'H'=>D.pO (σ'.X6 iε) H',CF:=λ__=>oA}
abbrev Dr! QAw(R:θ)QAu(ts:oW)QM0 QCC:r3:=λCdH'=>exmOne KC^.ο R=δπ/\∀e,H'e=ε->ts (eb! iD) QTUQRQ
def Ll!{Ec!:r3}QVT{l:γQA8}{Y:St}QGr(hex:X.ex=[])QB'(fJ:X.fN.fm<*X.fN.hl)(eR:X.N.qg)QPT QHY(eG:yJ X.fN.g8 n)QH3(gE:pUXx)(hm:X.mg x<*.ο R)(go:∀eCdH'Z,Ec! CdH'->H'e=ε->X.Xy.ρ.Ξ e=ε->f'Xl (Y.X6 i^δQAm) QRQZ->lZQAAQIk (execs! QME X.fN) (λfi9=>lZQAA X.A (do bindName! X.fN n .ε;unbindBehindTheSuite! X.fN n E) (λ_gM=>Qf! fgM) X.xe i9) (AsSuiteRaised! QAAQIk X.fN n E^notedBy! QAAQIk X.fN^cameBackBy! QAA X.A X.fN X.xe) Z)(I:f'Xl YH s)(iE:tP X.Ω X.w X.US H s (λCdH'=>exmOne X.K C^.ο R=δπ/\Ec! CdH') ev s')(hd:(x==("__debug__":bE))=ν):lZQAA X.A (noteFrame! ev X.fN) (λ_ s2=>lZQAA X.A (setFlight! ev ε) (λ_ s3=>lZQAA X.A (handleBy! ev X.fN [.ExceptHandler QMF (δn) QMEE]) Qf! X.xe s3) X.xe s2) X.xe s':=by
 let(e,T,C,a0,dd,H',ζ,os,F,un,P,i8,dT,he,hT,N6,B,q):=iE;let(D,g,d,u,al):=s';obtain ζ:al=s.os:=os;let kM:f'Xl YH' {s with ρ:=D,PF:=g,drawn!:=d,mU:=u}:=I.wG (g':=g) (d':=d) (t':=u) (ch:=[]) un P FQAC;let eF:D.V_ X.υ QBr:=eZ▸kM.US;let j6:n3.FlyingW (zSDQMD) QBreCa0D:=
  (λboz=>of_hideAll! _z,I7_ (!1),L9eF (by rw[<-eZ];show λbz=>qO_^qO_z),N6.traced QSE)
 let seen!:∀QM3,(zSDQMD).StaysIn h'->D.UpToSlots h'->f'Xl YH' {s with ρ:=h',PF:=g,drawn!:=d,mU:=u}:=λh' fk! up=>
  (I.flown (H':=H') (h1:=D) (h2:=h') (g':=g) (d':=d) (t':=u) (S:=[e,T]) un P (λbQ=>by rcases u3.mp Q with z|z;rw[z];show i8;rw[o6z];show dT)
   (λbQ=>by rcases u3.mp Q with z|z;rw[z];show he;rw[o6z];show hT) (λbozhSQ=>fk! bo^DW_z λj=>by
    rcases u3.mp j with y|j
    .exact hS (by rw[y];simp)
    .rcases u3.mp j with y|j
     .exact hS (by rw[y];simp)
     .exact Qj) up F).1
 show M7 (s:=(D,g,d,u,s.os)) QTS (wpAny_looks_onW! (s:=(D,g,d,u,s.os)) (by rw[<-eZ];show I.ok.Xe) fJj6 λh2dNOaN=>M7 (s:=(h2,g,d,u,s.os)) (Ap! __)^wpAny_landsW! (s:=(h2,g,d,u,s.os)) dN λh3L MaM=>?_);let zG:=seen! h3 L.1^O.ξ M;let(H5,ap,eW):=L.Xq;let ty:Δ.W.Looks QAAh3 (typeOf! QAm) C:=eW▸(Δ.W.Looks.ld ap).andThen .now;show wpAny_handleBy_cons! (codeAny_handlers_test! (CG (X:=X.held QAm) (zG.held _) gE hm ?_ hd)) (!5);show(Δ.W.exm_one zG.kIn ty B).here ?_;show codeAny_handlers_suite_as! (M7 (s:=(h3,g,d,u,s.os)) (Ap! __)^lands_againW! (s:=(h3,g,d,u,s.os)) L λh4U ab fM=>?_);let iV:=seen! h4 U.1^(O.ξ M).ξ ab;let(Fv!,v4,J,aA,as,_):=U.first;let t:∀bo,s.ρ.Ξ b<*o->b≠e:=λbozy=>by rw[y,i8]at z;cases z
 let eI:∀x,dd<*x->LI Fv! x:=λx z=>by
  let(an,_,_,_,g1,_,_,_,_,_,_,_,g2):=N6;let(o',e1,e2):=((aN.ξ aM).ξ fM) e an^GJg1;rw[GJJ]at e1;cases e1;show(g2xz).of e2
 let I5:=iV.track (e:=e) (φ:=λh=>∃o,h.Ξ e=δo/\o.dM=C/\QIj/\∀x,dd<*x->LIox) he (B4I hex i8) (by let(m,(o,es,eP,z,_),_):=I.loc;show t_oz) (λycz=>by let(v,o,r,_):=I.aQ ycz;show tcor)
  (λpb5=>t p.1 p.2 (I.pin pb5).1) (Fv!,J,aA,(v4,as),eI) (Fv!,J) λa bdSk=>by let(o,y,z):=dS;show(o,koy,z)
 show RTI5eRg6eG (v:=.ο e) ζ (λZiW=>go eC dd H'Zq he (B4I hex i8) iW) hf
def yi! QVT{a:γQA8}{h:St}QGr{s s':Θ}(hex:X.ex=[])QB'(c:X.fN.fm<*X.fN.hl)(j:X.N.qg)(m:X.N[i]?<*n)(l:X.fN.F6 n<*.local)(E:yJ X.fN.g8 n)(J:X.fn n=π\/X.fN.g8.TW.ς n<*.local)(F:pUXx)(B:X.mg x<*.ο R)(y:∀v,tRQFM (P::suite) ts)(I:f'XahH s)(O:tP X.Ω X.w X.US H s (Dr! X.K RitsDh) g s')(M:(x==("__debug__":bE))=ν):lZQAA X.A (noteFrame! g X.fN) (λ_ s2=>lZQAA X.A (setFlight! gε) (λ_r=>lZQAA X.A (handleBy! g X.fN [.ExceptHandler (δ^.Ip x Z) (δn) (P::suite) k]) (SPXaD) X.xe r) X.xe s2) X.xe s':=by
 show Ll! hex eZcjml E J F B (λeCdH'pqL_ T=>?_) I O M;show pW (yQAmap__ (eb! iD) (T.held _)^qeL) (λf Yb=>?_) λ__z=>z.Q5;cases f with
 |next=>
  let(o,U,S,t):=b;show(S.unheld I.ok).goes jml λWQ=>(_,U,Q,t)
 |ret u=>
  let(_,_,_,_,_,z):=b;show z.Q5
 |brk=>
  let(_,_,_,z):=b;show z.Q5
 |cont=>
  let(_,_,_,z):=b;show z.Q5
section
variable{X:n8}{aI:γQA8}{σ:St}{H:m1}{s:Θ}{xnygO:bE}{R:θ}{ijk:χ}{np hpos! b8pfRj1 ap:nV}{b0:cZ}{suite:γcZ}{ts:oW}{D:Ends}{ps:γbE}{sp:wY}{e:bI}{es:γbI}{t:w4}
structure PC! QDl(xn:bE)(R:θ)QAu(b0:cZ)(suite:γcZ)(ts:oW):Prop where
 hex:X.ex=[]
 eZ:X.US=X.fN::X.b7
 hfr!:X.fN.fm<*X.fN.hl
 eR:X.N.qg
 g6:X.N[i]?<*n
 hZ:X.fN.F6 n<*.local
 eG:yJ X.fN.g8 n
 hf:X.fn n=π\/X.fN.g8.TW.ς n<*.local
 gE:pUXx
 hm:X.mg x<*.ο R
 hs:∀v,tRQFMQMEts
 hd:(x==("__debug__":bE))=ν
end
section
variable{X:n8}
end
end _F
namespace _F
open PySem.Spec PySem.W PyProof.Rows Builtin Builtin.ObjectAttr Builtin.Getset_descriptor
structure DE QAw QGE:Prop where
 ga!:Xu! KQAk "__getattribute__"<*δ^.Rm "BaseException.__getattribute__"
 noHook!:Xu! KQAk "__getattr__"<*ε
 dM:Xu! KQAk "__class__"<*δ^.Rm "object.__class__"
 get!:specialIn! K (.Rm "object.__class__") "__get__"<*δ^.Rm "getset_descriptor.__get__"
 j8:takesIn! K^.Rm "object.__class__"<*π
 obj:mroIn! KC^.TB "object"<*π
 exc!:mroIn! KC^.TB "BaseException"<*π
 isC!:isClsIn! KC=π
abbrev Dp!(eC:θ)QJx:Prop:=∃o,h.Ξ e=δo/\o.dM=.ο C
def Dp.ty(x:Dp! eCh):Looks! Mh (typeOf! QAm) QAk:=by
 let(o,a,b):=x;show b▸(Looks.ld a).andThen .now
section
variable{Ω:nA}{w:o4}{A:o7}{E:η->Θ->Prop}{s:Θ}{K:qI}{eC:θ}
def Kh!:(".".intercalate ("object.__class__".cutAt '.').FD)="object":=by decide +kernel
def uw! QPU QOe:wIQASA (.Rm "object.__class__" ([.ο e],[])) R s:=by
 let a:=x.ty (M:=oPΩw);show BR KF.entry_class ?_
 wp_walk using a.here
 show h
def Zg!(F:DEKC)QDQ QPU QOe:wIQASA (.wG (.Rm "getset_descriptor.__get__") ([.Rm "object.__class__",.ο e,xJ],[])) R s:=by
 let a:∀j,lZQASj (Builtin.«getset_descriptor.__get__» ([.Rm "object.__class__",.ο e,xJ],[]))
   (λg s'=>match g with|.done f=>R (.ok f) s'|.again i=>i.quiet=π/\wIQASAi R s') QPf s:=λj=>by
  let d:=x.ty (M:=oPΩw);let c:=looks_mroIn! (M:=oPΩw) X F.obj
  wp_walk using d.here
  simp only[Kh!];show c.here ?_
  wp_walk
  show(Code.quiet_builtin _ (!3),uw! xh)
 let b:=KF.args_gs (.Rm "object.__class__") QAmxJ;show N' KF.slot_gs.plain KF.entry_gs^KF.slot_gs.check ________ KF.type_class b^a_
def uz!(F:DEKC)QDQ QPU(h:Q (δQAk) {s with mU:=s.mU+1}):lZQASA (getAttr?! QAm "__class__") Q E s:=by
 let(o,g,d,t,os):=s;let b:=x.ty (M:=oPΩw);let l:=Y1 (M:=oPΩw) X F.ga;let c:=Y1 (M:=oPΩw) X F.noHook;let m:=Y1 (M:=oPΩw) X F.dM;let p:=looks_specialIn! (M:=oPΩw) X F.get;let i:=looks_takesIn! (M:=oPΩw) X F.j8;let isB:=looks_mroIn! (M:=oPΩw) X F.exc;let f:=Δ.F.attrBase_ValueError.ga.bind QAm;unfold getAttr?! getAttrBy?! getAttrBy!;show lT^wpAny_mkText!^lT^X8^tO^lT^b.at^lT (l.at ?_);let a:(onTheHeap! QAk&&η.Rm "BaseException.__getattribute__"==η.Rm "object.__getattribute__")=ν:=by
  rw[show(η.Rm "BaseException.__getattribute__"==η.Rm "object.__getattribute__")=ν by decide +kernel,b9.and_false]
 show vM (by rw[a];decide) ?_;unfold getAttrByItsOwn! hookBefore! callGetattribute! boundAndCalled!;show lT^TJ (!4)^c.at^lT^X8^tO^vM (!4)^lT^uZf (zO ?_);show N' Δ.F.attrBase_ValueError.ga.plain Δ.F.entry_bexc_ga ?_;let k:builtinKind! "BaseException.__getattribute__"<*.slot:=by decide +kernel
 let j:splitId! "BaseException.__getattribute__"<*("BaseException","__getattribute__",):=by decide +kernel
 let n:=Δ.F.args_bexc_ga QAm^.uM (bE.WK "__class__") t;simp only[checkBuiltinCall!,k,j];show lT ?_;unfold isInstance!;show lTQTV;show vM (!0) (uZn ?_);unfold Builtin.«object.__getattribute__» find! getOf!;repeat (first|with_reducible show zO ?_|lk)
 show Zg! FXxQBp;show handed_on! ζ^mRh
def N_! QC1(a:Δ.W.clsIn KC<*d):∃xyz,K.ς C<*⟨x,y,.dM d,z⟩:=by
 unfold Δ.W.clsIn at a;rcases c:K.ς C with _|⟨x,y,D,z⟩<;>rw[c]at a
 .cases a
 cases D with
 |dM e=>cases a;show(x,y,z,0)
 |_=>cases a
def md!(F:DEKC):KitX! KQAmQAk (Dp! eC) where
 ty:=λ___x=>x.ty
 it:=λMhXx=>by
  let(d,a):=ψ.isSome_iff_exists.mp F.isC;let(_,_,_,c):=N_! a
  show λjgi s'kq=>by unfold isType! loadHead!;show lT^wpAny_loadPart! (k__^X__c)^mRq
 ne:=λhxJ dd eEnfXb=>by
  let(d,a):=ψ.isSome_iff_exists.mp F.isC;let(_,_,_,c):=N_! a
  show eq_false_iff.Ui λq=>?_;cases T8.mp q;cases(X__c).UH.ξ b
 ca:=λXxk=>uz! FXxk
end
abbrev ai! QAw(D:η)(d:V):γ V->m1->oE->Prop:=λxsHQ=>∃eCb dd,xs=[.ο e,d]/\He=δ^ANeQAk dd/\DEKC/\Kq! KQAkD=δb/\Q QGIH
def ib!(v:nTdD)(k:∀u,nTdu->u=D):wNX (.Rm "isinstance")^ai! X.K Dd:=by
 intro a s pHxsusQ Irh;let(e,C,b,dd,ζ,j,l,i,q):=h;let(u,t,ζ,g,f):=IYr;cases g;cases k_f;let((o,n,m,_),_):=I.rv e_j;show kia_one! (md! l) I.kIn (o,n,m) iQA9 λc=>(.dW b,H,I.y4 c,0,q)
end _F
namespace _b
open _F
structure uY QHy:Prop where
 eN:w.β≤4000
 cod!:∀c∈w,c<1000000
def ww.jN(h:ww L):uYL:=(by have:=h.g6;lia,λc a=>by have:=(h.eW c a).2;lia)
def uY.txt(h:uYw)(e:a[i]?<*δQBT):dk! ia:=(lYw,e,by rw[nJ];have:=h.eN;lia,by rw[tI];show h.cod)
def uY.Zm(h:uYw):(lYw).β≤Φ:=m6 (by rw[nJ];have:=h.eN;lia)
def uY.uR(h:uYw)(b:c∈w):uY [c]:=(!1,λda=>by rw[o6a];show h.cod cb)
abbrev forL!:lU:=range'! 32 5++range'! 38 59++range'! 123 4
def xQ!:(bE.WK " !\"#$&'()*+,-./0123456789:;<=>?@ABCDEFGHIJKLMNOPQRSTUVWXYZ[\\]^_`{|}~")=lY forL!:=by decide +kernel
def re!:forL.β=68:=by decide
def PD!:∀c∈forL!,(c<97\/122<c)/\c<127:=by decide
def qo!:∀{a b:lU},a.qg->QVc->a.β≤b.β
 |[],_,_,_=>pT_
 |c::a,b,j,h=>by
  let(m,l,e):=γ.append_of_mem^hc (!1);let(n1,k):=ZL.mp j;have:=qo! (a:=a) (b:=m++l) k λdi=>by
   let f:=h d (by simp[i]);rw[e]at f;let g:d≠c:=λz=>n1 (z▸i);simp[g]at f;simpa using f
  rw[e];simp at this⊢;lia
abbrev abcL!:lU:=range'! 97 26
abbrev H4 QA6:lU:=abcL.Wo λc=>!decide QIl
def Wi!(h:c∈H4L):QKM/\c∉L:=by
 let(h1,h2):=P5.mp h;show(3,by simpa using h2);have:=γ.mem_range'.mp h1;lia
def Wq! QA6:26≤(H4L).β+L.β:=by
 let h1:(abcL.Wo λc=>decide QIl).β≤L.β:=qo! ((by decide:abcL.qg).Wo _) λc d=>by
  have:=(P5.mp d).2;simpa using this
 let h2:(abcL.Wo λc=>decide QIl).β+(H4L).β=abcL.β:=by
  have:∀l:lU,(l.Wo λc=>decide QIl).β+(l.Wo λc=>!decide QIl).β=l.β:=λl=>by
   induction l with
   |nS=>rfl
   |nF a r b=>by_cases e:a∈L<;>simp[γ.filter_cons,e]at b⊢ <;> lia
  show this abcL!
 let f:abcL.β=26:=by decide
 lia
def tK!:¬ ww []:=λh=>by have:=h.lo;simp at this
def Bk!{L:lU}(a:m∈L):¬ ww (L.Uj i++[m]++L.Gd i):=λh=>by
 let p:(L.Uj i++[m]++L.Gd i).Perm (m::L):=by
  let e:L=L.Uj i++L.Gd i:=(DJiL).UH
  conv=>rhs;rw[e]
  rw[u4];show γ.perm_middle
 have:=p.nodup_iff.mp h.eR;show(ZL.mp this).1 a
def Lb!{LjA:lU}(a:L.β≤3)(h:L.β+jA.β=4):¬ ww (L.Uj i++jA++L.Gd i):=λq=>by
 let e:(L.Uj i).β+(L.Gd i).β=L.β:=by rw[<-o9,DJ]
 have:=q.g6;simp only[o9]at this;lia
def Ey!(a:c∈t)(h:c<97\/122<c):¬ ww t:=λq=>by
 have:=q.eW c a;lia
def uY.app(f:uYa)(e:uYb)(h:a.β+b.β≤4000):uY (a++b):=(by rw[o9];show h,λc d=>by
 rcases lp.mp d with d|d
 .exact f.cod c d
 .exact e.cod c d)
def uY.Uj(h:uYa)QCv:uY^a.Uj n:=(by have:=h.eN;rw[rS];lia,λcb=>h.cod c^WYb)
def uY.Gd(h:uYa)QCv:uY^a.Gd n:=(by have:=h.eN;rw[zM];lia,λcb=>h.cod c^P7b)
def uY.mid(h:uYa)(b:uYm)(c:a.β+a.β+m.β≤4000):uY (a.Uj i++m++a.Gd j):=by
 let h1:(a.Uj i).β≤a.β:=by rw[rS];lia
 let h2:(a.Gd j).β≤a.β:=by rw[zM];show IR
 show((h.Uj i).app b (!6)).app (h.Gd j) (by rw[o9];lia)
def We!(h:c<1000000):uY [c]:=(!1,λda=>by rw[o6a];show h)
abbrev rk:V->b9
 |.dW _=>π
 |.tV _=>π
 |.uM _=>π
 |_=>ν
abbrev z4 QAH:χ->V->V->Prop
 |0,x,y=>x=y/\rk x=π
 |d+1,x,y=>(x=y/\rk x=π)\/∃pqxsys,x=.ο p/\y=.ο q/\((Hp=δQFL/\Hq<*.iT ys)\/(Hp=δQEh/\Hq<*.P' ys))/\xs.β=ys.β/\xs.β≤2100/\
   ∀QAuQP8,xs[i]?<*x->ys[i]?<*y->z4Hdxy
def cq!(h:rk x=π):z4Hdxx:=by
 cases d with
 |qW=>show(0,h)
 |qV d=>show Or.UR (0,h)
def Sm! QBm(h:xs.u7 rk=π):∀QAuQP8,xs[i]?<*x->xs[i]?<*y->z4Hdxy:=λixyba=>by
 rw[b]at a;cases a;show cq!^T5.mp hx^v7b
end _b
namespace _F
open PySem.Spec PyProof.Rows
def Eg!:∀{x:V},BEx=π->D4xx=π:=by
 intro xh;cases x with
 |vS=>rfl
 |dW a=>show YJa
 |tV a=>show YJa
 |uM a=>show YJa
 |_=>show mW (show ν=π from h) b9.UF
def mI.X6 QBv(n:Ha=ε):mIH^_F.mE H'ao:=λbue=>by
 rw[a'^oZen];show sbue
def nK!{a:St}QSC QOP(b:∀QAuQFfQBeQNs,x.Ym[i]?<*c->R (p c) H'->tt (δQDm::a) H'R)(d:∀D,HD=ε->Q QA0^_F.mE HDQCY):EF (KB^tC QHd) tt (aG 0) aHQ:=(x,0,mw! p hz b d)
def uC!{J:zI}{xs:γ V}{tt:TT}{s:TE}{p:St}{Q:oE}(n:θ->χ->γ V->m1->Prop)(hz:xs.β≤Φ)(w:∀i d,mIHd->i<xs.β->J.go i d)(v:∀i d xj,mIHd->J.yld i d xj->j=d/\xs[i]?<*x)(u:∀d,mIHd->J.lP xs.β d)(C:∀D,HD=ε->nD 0 []^mEHD^.P' [])(A:∀(D:θ)(i:χ)(x:V)(ys:γ V)(H':m1)(t:oE)(f5:m1->Prop),HD=ε->xs[i]?<*x->mIHH'->H'D<*.P' ys->nDiysH'->
   (∀yh,hD<*.P' ys->mIHQDz->nD (i+1) QBqQDz->t yh)->(∀g,mIHg->gD<*.P' ys->nD (i+1) ysg->f5g)->
   tt (δx::p) H' λbg=>if b=π then s (δx::p) g t else f5g)(B:∀DysH',HD=ε->mIHH'->H'D<*.P' ys->nD xs.β ysH'->Q (.ο D) H'):∀D,HD=ε->∃W:χ->χ->γ V->m1->Prop,
 (∃m,W 0 m []^mEHD^.P' [])/\∀imysd,Wimysd->dD=δ^.P' ys/\((J.lP i d/\Q (.ο D) d)\/(J.go i d/\ys.β<Φ/\∀xj,J.yld i d xj->
  tt QQJ j λbg=>if b=π then sQQJg λyh=>hD=δQBc/\∃o,o<m/\W (i+1) oQBqQDz
   else ∃o,o<m/\W (i+1) oysg)):=by
 intro Dq;show(λimysd=>m=xs.β-i/\i≤xs.β/\ys.β≤i/\mIHd/\dD=δQBc/\nDiysd,(xs.β,!1,pT_,!1,mI.mE q,hJ,CDq),3);rintro i m ys d⟨rfl,F,E,f,l,b5⟩;show(l,3);by_cases k:i<xs.β
 .refine .P2 (widfk,9,λxjr=>?_);let(e,z):=vidxjfr;subst e;show ADixysj__qzflb5 (λyhabc=>(a,xs.β-(i+1),D'k,0,k,by rw[o9];change ys.β+1≤i+1;show FGE,b,hJ,c)) (λgabc=>(xs.β-(i+1),D'k,0,k,He! E,a,b,c))
 .let e:i=xs.β:=D7k F
  subst e;show .UR (udf,BDysdqflb5)
section
variable{K:qI}{fS:TE}{a:θ}{xs:γ V}{tt:TT}{eJ:TE}{σ:St}{H:m1}{Q:oE}
end
def BF QAw:Δ.W.Kq K (.TB "tuple")^.TB "tuple"=δπ/\Δ.W.Kq K (.TB "list")^.TB "list"=δπ/\Δ.W.Kq K (.TB "str")^.TB "str"<*π:=
 (by with_unfolding_all rfl,by with_unfolding_all rfl,by with_unfolding_all rfl)
def xl! QAw:Δ.W.Kq K (.TB "tuple")^.TB "list"<*ν:=by kernel_rfl
def xp! QAw:Δ.W.Kq K (.TB "int")^.TB "tuple"<*ν:=by kernel_rfl
def PH! QAw:Δ.W.Kq K (.TB "int")^.TB "list"<*ν:=by kernel_rfl
def xm! QAw:Δ.W.Kq K (.TB "str")^.TB "tuple"<*ν:=by kernel_rfl
def HH! QAw:Δ.W.Kq K (.TB "str")^.TB "list"<*ν:=by kernel_rfl
def PL! QAw:Δ.W.Kq K (.TB "str")^.TB "bool"<*ν:=by kernel_rfl
def xn! QAw:Δ.W.Kq K (.TB "str")^.TB "int"<*ν:=by kernel_rfl
def px!:wNX (.Rm "isinstance") QCc:=by
 intro a s cHxsusQ Irh;let(x,t,b,h1,h2,d,q):=h;show dw! (b:=b) a s cHxsusQ Ir (x,t,h1,h2,d,q)
section
variable{X:n8}{elt qF:bI}{x:bE}{g4b8:nV}{ifs:γbI}{sc:qA}{qJ:TI}{tt:TT}{eJ:TE}
def Br!(f:Z'QBh (δ^.Ip yd) a.Zm fN=pure π)(h:∀p,lZM A (comprehension! QBh sc fNp (newList! []) ν (oFqFfN)^δQQK) QRRE s):lZM A (exec! (.Assign [.Ip yd] QBha) fN) Q E s:=by
 let b:lZM A (evalThenUse! QBhfNQQK) QRRE s:=
  lT (pW (h qF.b8) (λ__q=>mRq) λ__e=>e)
 let uR:=exec_Assign_Name_used! (fN:=fN) ydQBhaf;show uR▸lT (F9^lT^pWb (λ__q=>mRq) λ__e=>e)
end
def yj! QAw QE7:wNX (.Rm "isinstance") (λxsHQ=>∃xtb,xs=[x,.ty T]/\yZKHxt/\Δ.W.Kq Kt^.TB T=δb/\Q QGIH):=by
 subst a;show px!
def du! QAw QE7:wNX (.TB "tuple") (λxsHQ=>∃pys,xs=[.ο p]/\((pGKHpys/\∀l,Hl=ε->Q QGv^mEHlQUa)\/(n'KHpys/\Q QAlH))):=by
 subst a;show GI
section
variable{X:n8}{elt qF:bI}{x:bE}{g4b8:nV}{ifs:γbI}{sc:qA}{qJ:TI}{tt:TT}{eJ:TE}
end
end _F
namespace _F
def CD!:Δ.Y2 "ValueError"<*.TB "ValueError":=by decide +kernel
end _F
namespace _b
section
variable{κ:Type}[wAκ]
abbrev zU(acc:γκ):γκ->γκ
 |[]=>acc
 |k::ks=>zU (if k∈acc then acc else acc++[k]) ks
abbrev pA QI0:γκ:=zU [] ks
abbrev qR QI0:lU:=ks.Tx λk=>(pAks).UL k
def jy!(k:κ):∀(ksa:γκ),zUaQHi=if k∈zUaks then zUaks else zUaks++[k]
 |[],_=>rfl
 |_::ks,_=>jy! kks_
def Av!:∀QLe(k:κ),k∈b\/k∈ks↔k∈zUbks
 |[],b,k=>by change _↔k∈b;simp
 |a::ks,b,k=>by
  change _↔k∈zU (if a∈b then b else b++[a]) ks;rw[<-Av! ks];by_cases h:a∈b
  .rw [mGh,u3];constructor
   .rintro (x|rfl|x)
    .exact .UR x
    .exact .UR h
    .exact .P2 x
   .rintro (x|x)
    .exact .UR x
    .exact .P2 QRt
  .rw [mFh,u3,lp!,aL!];constructor
   .rintro (x|x|x)
    .exact .UR^.UR x
    .exact .UR QRt
    .exact .P2 x
   .rintro ((x|x)|x)
    .exact .UR x
    .exact .P2^.UR x
    .exact .P2 QRt
def mem_dis! QI1{k:κ}:k∈pAks↔k∈ks:=by
 rw[pA,<-Av!];simp
def RU QI0(k:κ):pAQHi=if k∈pAks then pAks else pAks++[k]:=jy! kks []
def nB!:∀QLe,(zUbks).β≤b.β+ks.β
 |[],_=>nZ_
 |a::ks,b=>by
  let h:=nB! ks (if a∈b then b else b++[a]);let h2:(if a∈b then b else b++[a]).β≤b.β+1:=by
   split
   .exact Gz!
   .simp
  change (zU (if a∈b then b else b++[a]) ks).β≤_;rw[oY];lia
def rD! QI0:(pAks).β≤ks.β:=by
 have:=nB! ks [];simpa[pA]using this
def s_!{l:γκ}{a b:κ}(c:a∈l)(h:l.UL a=l.UL b):a=b:=by
 let h1:l.UL a<l.β:=wZc;let h2:l.UL b<l.β:=Je! h1h
 let e:=WWh1;let d:=WWh2;rw[<-e,<-d];congr 1
def Fo!{l:γκ}{c:κ}:∀QEg,l[i]?<*c->l.UL c≤i:=by
 induction l with
 |nS=>intro ie;simp at e
 |nF a l d=>
  intro ie;by_cases b:a=c
  .subst b;rw[γ.idxOf_cons_self];show pT_
  .cases i with
   |qW=>simp at e;show mWeb
   |qV i=>
    let h1:=d (i:=i) QS8;let h2:(a::l).UL c=l.UL c+1:=by
     rw[idxOf_cons!,Ul.Ui b];rfl
    lia
def JO QI0:(qRks).β=ks.β:=by simp[qR]
def gb! QI1 QEg{k:κ}(h:ks[i]?<*k):(qRks).TC i 0=(pAks).UL k:=by
 rw[pu,qR,na,h];rfl
def db! QI1{x:χ}(h:x∈qRks):x<ks.β:=by
 let(k,a,ζ):=WB.mp h;show pP (wZ^mem_dis.Ui a)^rD! ks
def OJ QI1{ij:χ}{a b:κ}(c:ks[i]?<*a)(d:ks[j]?<*b):(qRks).TC i 0=(qRks).TC j 0↔a=b:=by
 rw[gb! c,gb! d];constructor
 .exact s_!^mem_dis.Ui^v7c
 .rintro ζ;rfl
def Dg!{l m:γκ}{a:κ}(h:a∈l):(l++m).UL a=l.UL a:=by
 rw[γ.idxOf_append,mGh]
def bk!{l:γκ}{a:κ}(h:a∉l):(l++[a]).UL a=l.β:=by
 rw[γ.idxOf_append,mFh];simp
def Ea!{q:Type}[wAq]:∀QCv QI0(c:γq),ks.β=n->c.β=n->
  (∀QS4(a b:κ)(fx:q),ks[i]?<*a->ks[j]?<*b->c[i]?<*f->c[j]?<*x->(a=b↔f=x))->
  (pAks).β=(pAc).β/\∀QAu(a:κ)(f:q),ks[i]?<*a->c[i]?<*f->(pAks).UL a=(pAc).UL f:=by
 intro n;induction n with
 |qW=>
  intro ksch1h2_;rw[Wc!]at h1 h2;subst h1 h2;show(0,λiafh=>by simp at h)
 |qV n D=>
  intro ksch1h2b5;obtain⟨k,l,ζ⟩:∃kl,ks=l++[k]:=(ks.getLast (by intro z;rw[z]at h1;cases h1),ks.FD,(γ.Wh _).UH);obtain⟨k',r,ζ⟩:∃kl,c=l++[k]:=(c.getLast (by intro z;rw[z]at h2;cases h2),c.FD,(γ.Wh _).UH);let C:l.β=n:=by simpa using h1
  let B:r.β=n:=by simpa using h2
  let s:∀{w:Type}{l:γw}{k:w}QEg{a:w},l[i]?<*a->(l++[k])[i]?<*a:=λ{w l kia}e=>by
   rw[u1 (m9e).1];show e
  let p:(l++[k])[n]?<*k:=by rw[w5^VTC,C];simp
  let d:(r++[k'])[n]?<*k':=by rw[w5^VTB,B];simp
  let(q1,q2):=DlrCB λijabfxmo F E=>b5ijabfx (sm) (so) (s F)^s E;let A:k∈pAl↔k'∈pAr:=by
   rw[mem_dis!,mem_dis!];constructor
   .intro t;let(i,v):=tl.mp t;let g:i<r.β:=by have:=(m9v).1;show qn! this CB
    let e:=(b5inkk r[i] k' (sv) pQUgd).mp ζ;rw[<-e];show vOg
   .intro t;let(i,v):=tl.mp t;let g:i<l.β:=by have:=(m9v).1;lia
    let e:=(b5in l[i] kk'k'QUgp (sv) d).Ui ζ;rw[<-e];show vOg
  let split:∀QEg{a:κ}{f:q},(l++[k])[i]?<*a->(r++[k'])[i]?<*f->(l[i]?=δa/\r[i]?<*f)\/(i=n/\a=k/\f=k'):=λ{iaf}mo=>by
   by_cases v:i<n
   .rw [u1 (!6)]at m o;show .UR (m,o)
   .have:i=n:=by
     have:=(m9m).1;simp at this;lia
    subst this;rw[p]at m;rw[d]at o;show .P2 (0,(ψ.δ.WZ m).UH,(ψ.δ.WZ o).UH)
  rw[RU,RU];by_cases t:k∈pAl
  .let u:=A.mp t;rw[mGt,mGu];show(q1,λiafmo=>?_);rcases split m o with⟨m,o⟩|⟨rfl,ζ,ζ⟩
   .exact q2iafmo
   .obtain ⟨j,y⟩:=tl.mp^mem_dis.mp t;let g:j<r.β:=by have:=(m9y).1;show qn! this CB
    let e:=(b5jiaa r[j] f (sy) pQUgd).mp ζ;show q2jafy (by rw[<-e];show mOg)
  .let u:k'∉pAr:=λz=>t^A.Ui z;rw[mFt,mFu];show(by simp[q1],λiafmo=>?_);rcases split m o with⟨m,o⟩|⟨rfl,ζ,ζ⟩
   .rw [Dg!^mem_dis.Ui^v7m,Dg!^mem_dis.Ui^v7o];show q2iafmo
   .rw [bk! t,bk! u,q1]
def W'{d:Type}[wAd]QI1{c:γd}(l:ks.β=c.β)(b5:∀QS4(a b:κ)(kg:d),ks[i]?<*a->ks[j]?<*b->c[i]?<*k->c[j]?<*g->(a=b↔k=g)):qRks=qRc:=by
 let(_,h):=Ea! c.β ksclζb5;show γ.ext_getElem? λi=>?_;by_cases m:i<ks.β
 .let f:ks[i]?<*ks[i]:=mOm;let e:c[i]?<*(c[i]'(EJml)):=mO^EJml;rw[qR,qR,na,na,f,e];show oRδ^hi__fe
 .rw [I6 (by rw[JO];show MIm),I6^by rw[JO];show Jn! l m]
end
abbrev R6 QDu(gU:lU)QAu:χ×lU:=(gU.TC i 0,(W.TC i []).Tx λg=>gU.TC g 0,)
abbrev DF QDu(gU:lU):γ (χ×lU):=(γ.b_ W.β).Tx^R6WgU
abbrev nY QDu QAt:χ->lU
 |0=>qRB
 |k+1=>qRQN7
def Ii!(h:i<W.β):(DFWa)[i]?<*R6Wai:=by
 rw[DF,na,yUh];rfl
def DG QDu(a:lU):(DFWa).β=W.β:=by simp[DF]
def BG{L:lU}{W:n0}QKn QBR:∀k,(nYWBk).β=W.β
 |0=>by change (qRB).β=_;rw[JO,h.dW]
 |k+1=>by change (qR^DFW_).β=_;rw[JO,DG]
def NJ QBR(a:x∈nYWBk):x<W.β:=by
 cases k with
 |qW=>rw[<-h.dW];show db! a
 |qV k=>rw[<-DGWQC2];show db! a
abbrev pr QDu QAt(kr:χ):χ:=(nYWBk).TC r 0
def gm! QBR(d:r<W.β)(c:s<W.β):pr WB 0 r=pr WB 0 s↔B.TC rν=B.TC sν:=by
 let b:B[r]?<*(B[r]'(by rw[h.dW];show d)):=mO_;let a:B[s]?<*(B[s]'(by rw[h.dW];show c)):=mO_;change (qRB).TC r 0=(qRB).TC s 0↔_;rw[OJba,pu,pu,b,a];rfl
def zZ QBR(a:r<W.β):(W.TC r []).β=L.β/\∀x∈W.TC r [],x<W.β:=by
 let e:W.TC r []=W[r]:=by rw[pu,mOa];rfl
 rw[e];show h.row _^vOa
abbrev pR QDu(ri:χ):χ:=(W.TC r []).TC i 0
def BJ QBR(a:r<W.β)(b:i<L.β):pRWri<W.β:=by
 let(h1,h2):=zZha;rw[pR,pu,mO^EAbh1];show h2_^vO_
def KI QA6 QDu(rc:χ):rYL Wrc=pRWrQBW:=ζ
def GM QBR QNt QUh:pr WB (k+1) r=pr WB (k+1) s↔pr WBkr=pr WBk s/\∀i<L.β,pr WBk^pRWri=pr WBk^pRW si:=by
 change (qRQN7).TC r 0=(qRQN7).TC s 0↔_;rw[OJ (Ii! b)^Ii! a,R6,R6,Prod.mk.injEq];let(f,_):=zZhb;let(d,_):=zZha;show and_congr! Iff.rfl (λeic=>?_,λe=>γ.ext_getElem? λi=>?_)
 .have:=oR (λl=>l[i]?) e;simp only[na]at this;rw[mOQMG,mOQKN]at this;rw[pR,pR,pu (l:=W.TC r []),pu (l:=W.TC s []),mOQMG,mOQKN];show ψ.δ.WZ this
 .by_cases c:i<L.β
  .have:=eic;rw[pR,pR,pu (l:=W.TC r []),pu (l:=W.TC s []),mOQMG,mOQKN]at this;rw[na,na,mOQMG,mOQKN];show oRδ this
  .rw [na,na,I6^XD! fc,I6^XD! dc]
def gn! QBR(f:r<W.β)(d:s<W.β):∀QMw,j≤k->pr WBkr=pr WBk s->pr WBjr=pr WBj s:=by
 induction k with
 |qW=>intro jbe;rw[χ.le_zero.mp b];show e
 |qV k c=>
  intro jbe;by_cases a:j=k+1
  .subst a;show e
  .exact c (zo78! a b) ((GMhfd).mp e).1
def dp!{W:n0}QKn{k:χ}QOf:∀j,nYWB (k+j)=nYWBk
 |0=>rfl
 |j+1=>by
  change qR^DFW^nYWB (k+j)=_;rw[dp! ej];show e
def PP QBR QOf(q:pr WBkr=pr WBk s)QNt QUh QIL:pr WBjr=pr WBj s:=by
 by_cases c:j≤k
 .exact gn! hbacq
 .have:=dp! e (j-k);rw[show k+(j-k)=j by lia]at this;rw[pr,pr,this];show q
abbrev UP QCv(gU:lU):χ:=(γ.b_ n).countP λx=>decide (∃y,y<x/\gU.TC y 0=gU.TC x 0)
def cQ!{f:Type}{pq:f->b9}:∀{l:γf},(∀x∈l,px=π->qx=π)->(∃x∈l,qx=π/\px=ν)->l.countP p<l.countP q
 |[],_,⟨x,b,_⟩=>by simp at b
 |a::l,e,⟨x,b,g,b5⟩=>by
  let h:l.countP p≤l.countP q:=γ.countP_mono_left λyc=>ey (by simp[c]);rw[γ.countP_cons,γ.countP_cons];rcases u3.mp b with ζ|b
  .rw [g,b5];simp;show MGh
  .have:=cQ! (l:=l) (λyc=>ey^by simp[c]) (x,b,g,b5);let h1:=ea (!1);cases d:p a with
   |ν=>simp;lia
   |π=>rw[h1d];simp;omega
def lv! QBR(e:nYWB (k+1)≠nYWBk):UP W.β QGL<UP W.β QC2:=by
 show cQ! (λxob5=>?_) ?_
 .let o:=Ug.mp o;let(y,D,f):=VGb5;show uO (y,D,((GMh (zPDo) o).mp f).1)
 .refine Classical.byContradiction λF=>e ?_;let A:∀s,s<W.β->∀r,r<s->pr WBkr=pr WBk s->pr WB (k+1) r=pr WB (k+1) s:=by
   intro s;induction s using χ.strongRecOn with
   |_ s C=>
    intro drgq;show Classical.byContradiction λp=>F (s,Ug.Ui d,uO (r,g,q),pI ?_);rintro⟨z,hz,l⟩;let l:pr WB (k+1) z=pr WB (k+1) s:=l;let E:=((GMh (zP hz d) d).mp l).1;rcases χ.lt_trichotomy rz with c|c|c
    .exact p^(Cz hz (zP hz d) rc^q.ξ E.UH).ξ l
    .subst c;show p l
    .exact p^(Crg (zPgd) zc^E.ξ q.UH).UH.ξ l
  let m:∀r s,r<W.β->s<W.β->(pr WB (k+1) r=pr WB (k+1) s↔pr WBkr=pr WBk s):=λr sgd=>by
   show(λq=>((GMhgd).mp q).1,λq=>?_);rcases χ.lt_trichotomy r s with c|c|c
   .exact A sdrcq
   .rw [c]
   .exact (Arg s c q.UH).UH
  cases k with
  |qW=>
   change qR^DFW^nYWB 0=qRB;show W' (by rw[DG,h.dW]) λijab IHfnwv=>?_;let u:i<W.β:=by have:=(m9f).1;rwa [DG]at this
   let t:j<W.β:=by have:=(m9n).1;rwa [DG]at this
   rw[<-OJfn,<-OJwv];show mijut
  |qV k=>
   change qR^DFWQGL=qRQN7;show W' (by rw[DG,DG]) λijab IHfnwv=>?_;let u:i<W.β:=by have:=(m9f).1;rwa [DG]at this
   let t:j<W.β:=by have:=(m9n).1;rwa [DG]at this
   rw[<-OJfn,<-OJwv];show mijut
abbrev I1 QDu QAt(kr s:χ):γb9:=((W.TC r []).zip QSF).Tx λp=>decide (pr WBk p.1=pr WBk p.2)
abbrev BU QDu QAt(kr s:χ):χ:=(I1WBkr s).UL ν
abbrev CA QA6 QDu QAt:χ->χ->χ->lU
 |0,_,_=>[]
 |k+1,r,s=>L.TC QCT 0::CAL WBk (pRWrQCT)^pRW sQCT
def Xh! QBR QNt QUh(c:i<L.β):(I1WBkr s)[i]?<*decide (pr WBk^pRWri=pr WBk^pRW si):=by
 let(f,_):=zZhb;let(d,_):=zZha;rw[I1,na,pR,pR,pu (l:=W.TC r []),pu (l:=W.TC s [])];let e:((W.TC r []).zip QSF)[i]?<*((W.TC r [])[i]' QMG,QSF[i]' QKN,):=by
  rw[γ.getElem?_zip_eq_some];show(mO_,mO_)
 rw[e,mOQMG,mOQKN];rfl
def Yd! QBR QNt QUh:(I1WBkr s).β=L.β:=by
 let(d,_):=zZhb;let(c,_):=zZha;rw[I1,j',γ.length_zip];lia
def my! QBR(c:r<W.β)(b:s<W.β)(g:pr WB (k+1) r≠pr WB (k+1) s)(m:pr WBkr=pr WBk s):BUWBkr s<L.β/\pr WBk^pRWrQCT≠pr WBk^pRW sQCT:=by
 let j:ν∈I1WBkr s:=by
  show Classical.byContradiction λf=>g^(GMhcb).Ui (m,λil=>Classical.byContradiction λq=>f ?_);have:=Xh! h (k:=k) cbl;rw[pIq]at this;show v7 this
 let a:BUWBkr s<(I1WBkr s).β:=wZj;let d:BUWBkr s<L.β:=by rw[Yd! hcb]at a;show a
 let e:=Xh! h (k:=k) cbd;rw[mOa]at e;show(d,Ms^(ψ.δ.WZ e).UH.ξ^WWa)
def qy!{L:lU}{W:n0}QKn QBR:∀{kr s:χ},r<W.β->s<W.β->pr WBkr≠pr WBk s->(∀j<k,pr WBjr=pr WBj s)->
  (CAL WBkr s).β=k/\QLH/\B.TC (n6L WrQHE) ν≠B.TC (n6L W sQHE) ν
 |0,r,s,f,d,i,_=>(0,λcm=>(nomatch m),λe=>i^(gm! h f d).Ui e)
 |k+1,r,s,f,d,i,n=>by
  let(b,l):=my! h f di^nk^A6k;let(i1,i2,o):=qy! h (BJhfb) (BJhdb) l λj p=>((GMhfd).mp^n (j+1)^χ.succ_lt_succ p).2 _b;let a:L.TC QCT 0=L[BUWBkr s]:=by rw[pu,mOb];rfl
  let g:L.UL QQL=BUWBkr s:=by rw[a];show bu! h.lt.eR b
  show(oRQTWi1,λcm=>(u3.mp m).Q5 (λe=>by rw[e,a];show vOb)^i2c,3);change B.TC (n6L W (rYL WrQQL) QVd) ν≠B.TC (n6L W (rYL W sQQL) QVd) ν;rw[KI,KI,g];show o
def Ah!{L:lU}{W:n0}QKn QBR{k:χ}QJ1:∀j≤k,UP W.β^nYWBj+j≤W.β
 |0,_=>by
  have:=γ.countP_le_length (p:=λx=>decide (∃y,y<x/\(nYWB 0).TC y 0=(nYWB 0).TC x 0)) (l:=γ.b_ W.β);rw[rA]at this;show this
 |j+1,a=>by
  let h1:=Ah! h ej (!6);let h2:=lv! h^ej (!6);show Ji! h2h1
def pX! QBR QJ1:k≤4410000:=by
 let h1:=Ah! h ekQBF;let h2:=h.n60;lia
def il! QVN(e:r<W.β)(d:s<W.β)(b:pr WBkr≠pr WBk s)(f:∀j<k,pr WBjr=pr WBj s):QLH/\(CAL WBkr s).β≤W.β/\B.TC (n6L WrQHE) ν≠B.TC (n6L W sQHE) ν:=by
 let(i1,i2,g):=qy! aedbf;let l:=Ah! a (k:=k) (λihz=>b^PPaz (fih) edk) kQBF;show(i2,by rw[i1];lia,g)
end _b
namespace _F
open PySem.Spec PyProof.Rows
section
variable{κ:Type}[wAκ]
abbrev tW(bZ:γQKE)(k:κ):ψ V:=(bZ.find? λNN=>decide (NN.1=k)).Tx QBu
def lu!{p:κ×V}{r:γQKE}{k:κ}(e:p.1=k):tW (p::r) k<*p.2:=by simp[tW,Ds,e]
def VO{p:κ×V}{r:γQKE}{k:κ}(e:¬ p.1=k):tW (p::r) k=tWrk:=by simp[tW,Ds,e]
def aE.TC(r:aEou)(a:nTdd'):nT (o.TC d)^u.TC d':=by
 cases o with
 |ε=>cases u with
  |ε=>show a
  |δ _=>show(show oA from r).Q5
 |δ _=>cases u with
  |ε=>show(show oA from r).Q5
  |δ _=>show r
def KV.val{bZ:γQKE}{vs:γ (κ×η)}(r:KVbZvs)(k:κ):aE (tWbZk) QRS:=by
 unfold KV at r;induction r with
 |nS=>show vN.Vw
 |@nF p q ps qs h t a=>
  let(h1,h2):=h;by_cases e:p.1=k
  .let e':q.1=k:=h1.UH.ξ e;let b:BV (q::qs) k<*q.2:=by simp[BV,Ds,e']
   rw[lu! e,b];show h2
  .let e':¬ q.1=k:=λz=>e^h1.ξ z;let b:BV (q::qs) k=BVqsk:=by simp[BV,Ds,e']
   rw[VOe,b];show a
end
def Oa!(r:nT (kVk) u):(EsPw).is ku=π:=by
 cases k with
 |UR i=>let(t,e):=(show ∃t,u=η.tV i t from r);subst e;show Cg! Pwit
 |P2 x=>let(t,e):=(show ∃t,u=η.uM xt from r);subst e;show df! Pwxt
structure V2 QLB QBg QAw QM5 QNI:Prop where
 at_!:∀h:n3,K.In h->∃vs,KVbZvs/\h.DictOf QS_dvs
 ns:(d==V4)=ν
section
variable{X:n8}{d:θ}{bZ:γQHc}
inductive tc! QM5 QNI(x:V)(y:V)QAH QAR:Prop
 |mk (kv:_) QNP (_:y=kVk) (_:tWbZk<*v) QKs
def Aw!(D:V2 X.Ω X.w X.K dbZ):yPX^tc! dbZ:=by
 intro a bf smHxyvuQ Iighl;let(k,z,ζ,ζ,j,q):=h;cases i;let(vs,e,dd):=D.at_ _ I.kIn;let(n,hw,c):=aE.some_of (v:=z) (o:=BVvsk) (by rw[<-j];show e.val k);show tail_any! (ops!:=[.ο d,u]) dd.YQ Δ.F.slot_dict_getitem.ς (wpAny_getItem_of! (Oa! g) dd.mapOf hw QVe) l
abbrev PQ! QM5 QNI(to:TE)QHR:TE:=λσHQ=>to σH λxH1=>x=.ο d/\tσH1 λxsbF=>∃kz,xs=[kVk,z]/\Q ((tWbZk).TC z) bF
def Di!(D:V2 X.Ω X.w X.K dbZ){ib:nV}(T:mPXo to)(U:qTX [e,f] t)(l:(I8o "get" X.fN^oFo X.fN=oFo X.fN)>>>4)(n:(((pNb^Ψ [e,f] X.fN).u7 (λx=>!x.1)&&(backToKw! b^ZW [] X.fN).u7 (λx=>x.1.BC)
   && decide (([e,f]:γbI).β+([]:γ Keyword).β+(if ([]:γ Keyword).Yj then 0 else 1)<30))=π)>>>4)(j:((i.endLine==b.Zm)=π)>>>4)(S:(Ψ [e,f] X.fN=(ν,oFe X.fN,)::Ψ [f] X.fN)>>>4)(c:((pNb^Ψ [f] X.fN).I9 (·.1)=ν)>>>4):mPX (.Wm (.Za o "get" i) [e,f] [] b)^PQ! dbZ to t:=by
 intro g srHQ Ih;show wpAny_Call_method_late! lnjζ (nb (Tg srH_ Ih) λv Jq=>?_);let(x,Z,B,P,W,q1):=q;subst W;cases P;let(vs,N,dd):=D.at_ _ B.kIn;let(R,es,eP,h1,h2,h3):=id dd;show("dict",_,Δ.F.plainAttrs_dict,Δ.F.slot_dict_get,Δ.F.type_dict_get,dd.YQ,λae=>?_,3)
 .cases e;show(R,h1,h2.2.1)
 .let u:=Ubg Jr Z_Bq1;rw[S]at u⊢;show YL.callWith_builtin (by change (ν||(pNb^Ψ [f] X.fN).I9 QBA)=ν;rw[c]<;>rfl) QUb;show nb u λuss2z=>?_;let(xs,Y,A,O,k,y,ζ,q2):=z;let(HE,E,ζ,M,L):=IYO;let(C,m,p):=D.at_ _ A.kIn;show call_meetsIn! Δ.F.slot_dict_get p.YQ Δ.F.entry_dict_get (Δ.F.args_dict_get_3 ___) (meets_dict_get_default! (Es X.Ω X.w) d (Oa! M) D.ns E) (_,p.mapOf,(_,Y,A.y4 _,(m.val k).TC L,q2))
end
abbrev xz QKD:η->b9
 |.bC c=>c==b
 |_=>ν
def OM(h:xz b v=π):v=.bC b:=by
 cases v with
 |bC! c=>rw[ZZ^show(c==b)=π from h]
 |_=>show mW (show ν=π from h) b9.UF
abbrev L4 QLB QBg:Δ.KeyKind Pwb9 where
 is:=xz
 hash!:=λb=>reduceHash! (if b then 1 else 0)
 WZ:=λv a beMcY=>by
  let e:=(OMeM).UH.ξ^OMcY
  cases e
  rfl
 byValue!:=λkvh=>by rw[OMh];rfl
 pyHash!:=λ{A E skvQ}hq=>by
  cases OMh
  show Δ.W.pyHash_slot (T:="bool") ζ F.slot_bool_hash entry_int_hash! (args_int_hash! _) QIDQAv ?_
  cases k
  .exact (show lZ__ (do ret (<-mkInt! 0)) __ s from lTQN8)
  .exact (show lZ__ (do ret (<-mkInt! 1)) __ s from lTQN8)
 eqBool!:=λ{A E sabuvQ}eMcYq=>by
  cases OMeM
  cases OMcY
  let e:(a==b)=decide (a=b):=by cases a<;>cases b<;>rfl
  show Wj.sf.bool_bool a b____ (by rw[e];show q)
 «strs»:=λkxtvh=>mW (show ν=π from h) b9.UF
@[reducible]def gZ:=Nat×lU
abbrev zs(ks:lU):γω:=ks.Tx λ(n:χ)=>(n:ω)
def Z1(h:zsa=zsb):a=b:=by
 induction a generalizing b with
 |nS=>cases b with
  |nS=>rfl
  |nF y b=>cases h
 |nF x a c=>cases b with
  |nS=>cases h
  |nF y b=>
   let h:((x:ω)::zsa)=((y:ω)::zsb):=h;injection h with h1 h2;rw[ch2,ω.ofNat.WZ h1]
section
variable(P:nA)(w:o4)
abbrev KW QJx(k:gZ)QCw:Prop:=∃(o:pZ)(n:χ)(t:Tok)(b:θ),h.Ξ a=δo/\o.dM=.TB "tuple"/\o.mY=.Yv #[.tV (k.1:ω) t,.ο b] n/\IsTupleKey! QCMh (zs k.2) b
abbrev gc!(k:gZ):ω:=reduceHash!^Builtin.Zv.tupleHashOf [hashInt! (k.1:ω),tupleKeyHash! QCM^zs k.2]
end
section
variable{P:nA}{w:o4}
def KW.WZ(i:KWPwhxa)(g:KWPwhya):x=y:=by
 let(o,n,t,b,h1,_,k,j):=i;let(E,F,t',z,d,_,c,l):=g;rw[h1]at d;cases d;rw[k]at c;injection c with v _;let u:[η.tV (x.1:ω) t,.ο b]=[η.tV (y.1:ω) t',.ο z]:=oR pV.Zh v;injection u with s r;injection s with q _;injection r with p _;injection p with m;subst m;let f:=Z1^j.WZ l;let e:x.1=y.1:=ω.ofNat.WZ q;let(D,C):=x;let(B,A):=y;simp only at f e;rw[f,e]
def KW.hL{l m}(x:KWPwhka)(c:h.Ξ d<*o)(e:o.mY=.wF l m)(f:zNdhh'):KWPwh'ka:=by
 let(i,n,t,b,h1,h2,g,j):=x;show(i,n,t,b,(f.2 a ?_).ξ h1,h2,g,j.hL c ef);rintro ζ;rw[h1]at c;cases c;rw[g]at e;cases e
def KW.iT(x:KWPwhka):∃tb,h.Yn a #[.tV (k.1:ω) t,.ο b]/\IsTupleKey! QCMh (zs k.2) b:=by
 let(o,n,t,b,h1,h2,d,c):=x;show(t,b,(o,h1,h2,n,d),c)
def tQ!(c:A.Wb+1<r4)QUi(q:Q (gc! Pwk) {s with mU:=s.mU+(k.2.β+3)}):lZQBEA (pyHash! QAe) Q E s:=by
 let(o,n,t,b,h1,h2,f,d):=x;show Δ.W.pyHash_slot (T:="tuple") QQB F.slot_tuple_hash F.entry_tuple_hash QOgQID (.P2^FB c) ?_;show lT (m:=Builtin.Zv.tupleItemsOf QAe)^wpAny_tupleItemsOf! h1fQDr;rw[<-forIn_toList!];change lZ__ (forIn [η.tV (k.1:ω) t,.ο b] __) ___;rw[DR];show lT^lT^wpAny_pyHash_int! QTX;dsimp only;rw[DR];show lT^lT^wpAny_pyHash_tuple! (knd:=w8Pw) (by change A.in1.Wb<r4;rw[o7.in1_units];show c) dQTX;dsimp only;rw[ZY];show mR ?_;show lTQN9;let e:s.mU+1+((zs k.2).β+1)+1=s.mU+(k.2.β+3):=by
  have:(zs k.2).β=k.2.β:=by simp[zs]
  lia
 simpa[e,gc!]using q
def Z4(x:IsTupleKey! QCMhksb):IsTupleKey! (w8gf) hksb:=by
 let(o,eE,n,h1,h2,e,c):=x;show(o,eE,n,h1,h2,e,3);generalize eE.Zh=l at c⊢;induction c with
 |nS=>show .nS
 |nF a _ d=>show .nF a d
def nq!(H:A.Wb+1<r4)(B:KWPw s.ρ xa)(v:KWPw s.ρ yb)QBO(Q:b9->Θ->Prop)QQM:lZQBEAQVfQ E s:=by
 by_cases g:a=b
 .subst g;let e:=B.WZ v;rw[uOe]at q;show Wj.sf.Ki QAePw EQq
 .obtain ⟨t,c,h1,h2⟩:=B.iT;let(u,d,J,I):=v.iT;let k:A.in1.Wb<r4:=by rw[o7.in1_units];show H
  let f:Wj.sf A.in1 s (.ο c) (.ο d)^decide (zs x.2=zs y.2):=λLC N MD=>wpAny_eqBool_tuple! (knd:=w8LC) k (Z4h2) (Z4I) D;let u7:=Wj.sf.of_refs (A:=A) g^Wj.RcAt.tuples (s:=s) (e:=λj=>if j=0 then((x.1:ω)==(y.1:ω))else decide (zs x.2=zs y.2)) h1J (FB H) (λji F=>by
   match j,i,F with
   |0,_,_=>show Wj.sf.int_int _t_u
   |1,_,_=>show f
   | n+2,i,_=>show mWi^by change ¬ (n+2<2);lia)
  show u7Pw EQ ?_;let e:((γ.b_^min (#[η.tV (x.1:ω) t,.ο c]:pVη).fC (#[η.tV (y.1:ω) u,.ο d]:pVη).fC).u7 (λj=>if j=0 then((x.1:ω)==(y.1:ω))else decide (zs x.2=zs y.2))&&(#[η.tV (x.1:ω) t,.ο c]:pVη).fC==(#[η.tV (y.1:ω) u,.ο d]:pVη).fC)=decide (x=y):=by
   change (((x.1:ω)==(y.1:ω))&&(decide (zs x.2=zs y.2)&&π)&&π)=_;let(r,p):=x;let(o,m):=y;by_cases h:r=o
   .by_cases l:p=m
    .subst h l;simp
    .have:zsp≠zsm:=λz=>l^Z1z;simp[h,l,this]
   .have:¬ ((r:ω)=(o:ω)):=λz=>hQMH;simp[h,this]
  rw[e];show q
def KJ(x:s.ρ.Yn a b)(g:∀v∈b.Zh,∀(R:b9->Θ->Prop),Rπ s->lZQBEA (eqIsQuiet! nv) R E s)(q:Qπ s):lZQBEA (eqIsQuiet! (n+1) QAe) Q E s:=by
 let(o,h1,h2,m,h):=x;let d:s.Yf QAe "tuple":=QQB;unfold eqIsQuiet!;show lT^YWd F.slot_tuple_eq.ς^lT (m:=isInstance! QAe^.TB "tuple") (TAd isSubtype_tuple_tuple! ?_);simp only[b9.not_true,b9.false_eq_true,if_false!];show lT^FEh1hQDr;change lZ__ (forIn b__) ___;rw[<-forIn_toList!];show wpAny_forIn_list! _ (λf6r s'=>r.1=ε/\s'=s/\∀v∈f6,v∈b.Zh) _ ?_ ?_ __ (5,λve=>e)
 .rintro v f6 r s'⟨c,ζ,u7⟩;show lT (gv (u7vcG) _ ?_);simp only[b9.not_true,b9.false_eq_true,if_false!];show mR (5,λuf=>u7uQOh)
 .rintro⟨j,i⟩s'⟨c,ζ,_⟩;simp only at c;subst c;show mRq
def pC! QUi(q:Qπ s):lZQBEAQUjQ E s:=by
 let(t,b,h1,h2):=x.iT;show KJ (n:=7) h1QMIq;let c:v∈[η.tV (k.1:ω) t,.ο b]:=c;rcases u3.mp c with ζ|c
 .rw [eqIsQuiet_byValue! _ζ];show mRr
 .rw [o6c];let(o,eE,n,g,f,e,d):=h2;show KJ (n:=6) (o,g,f,n,e) QMIr;rw[eqIsQuiet_byValue! _^d.byValue vc];show mRr
end
abbrev aH! QLB QBg:HeapKind! PwgZ where
 is:=KWPw
 hash!:=gc! Pw
 draws!:=λk=>k.2.β+3
 room:=λA=>A.Wb+1<r4
 WZ:=λa b=>a.WZ b
 hL!:=λxdI hd hs=>x.hL dI hd hs
 pyHash!:=λhOhZh=>tQ! hOhZh
 eqBool!:=λhOc9d7h=>nq! hOc9d7__h
 quiet!:=λhZh=>pC! hZh
section
variable{X:n8}{elt qF:bI}{xy:bE}{g4 py pt b8:nV}{kt:χ}{sc:qA}{qJ:TI}{eJ:TE}
abbrev Z6 QAw(qJ:TI)QRp:TE:=λσHQ=>qJσH λJH1=>∀D,H1D=ε->∃W:χ->χ->γ V->m1->Prop,
 (∃m,W 0 m []^mEH1D^.P' [])/\∀imysbF,WimysbF->bFD=δ^.P' ys/\((J.lP ibF/\Q (.ο D) bF)\/(J.go ibF/\ys.β<Φ/\∀xbJ,J.yld ibFxbJ->
  ∃p a b,x=.ο p/\n'KbJp [a,b]/\eJ (δa::δb::σ) bJ λyd8=>d8D=δ^.P' ys/\∃m',m'<m/\W (i+1) m' (ys++[y])^mEd8D^.P' (ys++[y])))
end
section
variable{Ω:nA}{w:o4}{A:o7}{E:η->Θ->Prop}{s:Θ}{it t:θ}{i:χ}{items!:pVη}
def pB!(a:s.ρ.IsTupleIter it ti)(g:s.ρ.Yn t items!)(f:items![i]?<*x)(j:∀h',h'.IsTupleIter it t (i+1)->zN it s.ρ h'->Qx {s with ρ:=h'}):lZQASAQOiQ E s:=by
 let(o,c,h,b):=id a;let(k,d,_,l,e):=g;unfold Builtin.Wy.nextOf;show lT^LJ (cJ:=bE.WK "__next__") a.YQ F.dQ (DI F.dQ a.YQ F.entry_tuple_iterator_next ?_ QJ2);show lT (m:=field! QCb 0)^qUcb (x:=.ο t) ζ^vMζ^lT (m:=field! QCb 1)^qUcb (x:=.tV i 0) ζ^lT (m:=seqItems?! QFR) (FEde ?_);simp only[DM,f];show lT^LNcb (!1)^mR (x,0,mR^j_ (_,xF_c^P4^BOb_,(pZ.cls_mapFields ..).ξ h,3) QUk);rw[BOb];simp[oV]
def BT(h:A.T6=ε)(b:s.ρ.IsTupleIter it ti)(k:s.ρ.Yn t items!)(j:items![i]?=ε)(l:∀h'e,n3.ExtBut it s.ρ h'->(∃o,h'.Ξ e=δo/\o.dM=.TB "StopIteration")->EQAm {s with ρ:=h'}):lZQASAQOiQ E s:=by
 let(o,d,q,g):=id b;let(n,c,_,p,f):=k;unfold Builtin.Wy.nextOf;show lT^LJ (cJ:=bE.WK "__next__") b.YQ F.dQ (DI F.dQ b.YQ F.entry_tuple_iterator_next ?_ QJ2);show lT (m:=field! QCb 0)^qUdg (x:=.ο t) ζ^vMζ^lT (m:=field! QCb 1)^qUdg (x:=.tV i 0) ζ^lT (m:=seqItems?! QFR) (FEcf ?_);simp only[DM,j];show lT^Z7^lT^LNdg (!1) (lT (m:=newExc! (.TB "StopIteration") []) ?_);simp only[newExc!,newTuple!];show lT (I3 (lT (m:=firstArgMember! __)^uZ (a:=η.ε) (by first|rfl|(simp only[firstArgMember!];rfl)) QHK)^by size_fits);unfold raiseNew!;show lTQFy;first|rw[show A.in1.T6=ε from h]|rw[h]
 show lT^mR^wpAny_throw!^l__ (((zN.ei ..).Zt.Uu _).Uu _) QFB
end
def IsTup.hL{hh':n3}(x:h.Yn ta)(k:∀o,h.Ξ t<*o->h'.Ξ t<*o):h'.Yn ta:=by let(o,e,r):=x;show QN_
def Zy!(k:A.T6=ε)(it t:θ)(d:t≠it)(a:pVη):Draws Ωw A it [it,t] a.fC (λiv=>a[i]?<*v) (λih=>h.IsTupleIter it ti/\h.Yn ta)  where
 live!:=λ__ st=>by let(o,j,_):=st.1;show (o,j)
 fm!:=λ___ st f=>(st.1.at λoe=>f it (!1) oe,IsTup.hL st.2 λoe=>ft (!1) oe)
 item:=λi sQ Eg st l=>pB! st.1 st.2 (x:=a[i]) (by simp[g]) λh'cb=>l_h' s.mU (by simp[g]) (c,IsTup.hL st.2 λoe=>(b.2 td).ξ e) b
 done:=λsQ E st m=>BTk st.1 st.2 (!1) m
def sq!:isSubtype! (.TB "enumerate")^.TB "enumerate"=pure π:=by rw[XG];kernel_rfl
section
variable{X:n8}{elt qF:bI}{x:bE}{g4b8:nV}{ifs:γbI}{sc:qA}{qJ:TI}{tt:TT}{eJ:TE}
end
structure EI QLB QBg(κ:Type)[wAκ] where
 knd:HeapKind! Pwκ
 kin:m1->κ->θ->Prop
 ok:∀QGr{h:n3}{k:κ}QJB,kin Hka->y'PwHh->knd.is hka
 room:∀QRq,A.Wb+64<r4->knd.room A.in1/\knd.room A
 Zx!:∀QMJ{k:κ}QJB,(∀bxs,Hb<*.iT xs->H'b<*.iT xs)->kin Hka->kin H'ka
abbrev FT QAH(k:γω)QCw:Prop:=Ha<*.iT^k.Tx V.tV
abbrev Fk QAH(k:gZ)QCw:Prop:=∃b,Ha=δQNQ/\Hb<*.iT^(zs k.2).Tx V.tV
def items_int!{P:nA}QGa:∀{ks:γω}QCE,oG (ks.Tx V.tV) us->ItemsAre! QCMksus
 |[],_,r=>by rw[γ.map_nil]at r;cases r;show .nS
 |k::ks,_,r=>by
  rw[y3]at r;cases r with
  |nF h t=>
   let(u,ζ):=(show ∃t,_=η.tV k t from h);show .nF (by change η.isInt k^.tV ku=π;simp[η.isInt])^items_int! t
def zg!(e:FTHka)QIc:IsTupleKey! QCMhka:=by
 let(_,eE,r,o,h1,h2,n,b):=(show qNPwHha (.iT^k.Tx V.tV)from ok a_e);show(o,eE.Λ,n,h1,h2,b,by simpa using items_int! r)
abbrev N4 QLB QBg:EIPw (γω) where
 knd:=tupleKind! QCM
 kin:=FT
 ok:=λe ok=>zg! e ok
 room:=λ{A}hO=>(by change A.in1.Wb<r4;rw[o7.in1_units];show Hc! hO,by change A.Wb<r4;lia)
 Zx!:=λse=>s__e
abbrev HO QLB QBg:EIPwgZ where
 knd:=aH! Pw
 kin:=Fk
 ok:=λ{Hhka}e ok=>by
  let(b,e1,e2):=e
  let(_,eE,r,o,h1,h2,n,h3):=(show qNPwHhaQNQ from ok a_e1)
  let(HE,u2,ζ,r1,r2):=IYr
  let(t,ζ):=(show ∃t,HE=η.tV (k.1:ω) t from r1)
  cases(show u2=η.ο b from r2)
  show(o,n,t,b,h1,h2,h3,zg! e2 ok)
 room:=λ{A}hO=>(by change A.in1.Wb+1<r4;rw[o7.in1_units];show Jl! hO,by change A.Wb+1<r4;show Hc! hO)
 Zx!:=λs hZ2!=>by let(b,e1,e2):=hZ2!;show(b,s__e1,s__e2)
abbrev x6{P:nA}QGa{κ:Type}[wAκ](knd:Δ.KeyKind Pwκ)QM5(bZ:γQKE):j7:=.ext λh=>(d==V4)=ν/\bZ.β≤Φ/\∃vs,KVbZvs/\h.DictOf knd d vs
instance SE(κ:Type):QGx->QQN->Prop:=λpq=>p.1=q.1/\p.2.1=q.2.1/\nT p.2.2 q.2.2
abbrev xR{P:nA}QGa{κ:Type}[wAκ](D:EIPwκ)QM5(bZ:γQGx):j7:=.ext λh=>(d==V4)=ν/\bZ.β≤Φ/\∃xs,Y8 (SEκ) bZxs/\
 ∃oeseP,h.Ξ d=δo/\o.ExactDict/\o.mY=.wF eseP/\es.Zh=xs.Tx^entryOfKey! D.knd/\(xs.Tx QBA).qg
section
variable{P:nA}{w:o4}{κ:Type}[wAκ]
def MF QTY QGr{h:n3}{d:θ}{bZ:γQKE}{vs:γ (κ×η)}QIm(c:bZ.β≤Φ)(r:KVbZvs)(dd:h.DictOf knd d vs):qNPwHhd^x6 knd dbZ:=by
 show((ns,c,vs,r,dd),(by let(o,_,_,e,_):=dd;show (o,e)),λh1h2ab=>?_);let(j,i,vs,r,o,f,g,e,q):=a;show(j,i,vs,r,o,f,g,boe,q)
def R7{D:EIPwκ}QGr{h:n3}{d:θ}{bZ:γQGx}{xs:γQQN}QIm(j:bZ.β≤Φ)QSG(dd:h.DictOfH D.knd dxs):qNPwHhd^xRDdbZ:=by
 let(o,c,f,e,q1,q2,i,_,g):=dd;show((ns,j,xs,r,o,c,f,e,q1,q2,i,g),(o,e),λh1h2ab=>?_);let(l,k,vs,r,o,c,f,e,q):=a;show(l,k,vs,r,o,c,f,boe,q)
def BM QTY QGr{h:n3}{d:θ}{bZ:γQKE}QIc(e:Hd<*x6 knd dbZ):(d==V4)=ν/\bZ.β≤Φ/\∃vs,KVbZvs/\h.DictOf knd d vs:=(ok d_e).1
def N9{D:EIPwκ}QGr{h:n3}{d:θ}{bZ:γQGx}QIc QEp(f:∀x∈bZ,D.kin H x.1 x.2.1):(d==V4)=ν/\bZ.β≤Φ/\∃xs,Y8 (SEκ) bZxs/\h.DictOfH D.knd dxs:=by
 let(n,g,xs,r,o,k,l,m,q1,q2,c,b):=(ok d_e).1;show(n,g,xs,r,o,k,l,m,q1,q2,c,3,b);clear c b e g;induction r with
 |nS=>intro xa;simp at a
 |@nF p q ps qs h t i=>
  intro xa;rcases u3.mp a with ζ|a
  .have:=D.ok (fp (!1)) ok;rw[<-h.1,<-h.2.1];show this
  .exact i (λyj=>fy^by simp[j]) xa
abbrev aP(bZ:γQGx)(k:κ):ψ V:=(bZ.find? λx=>decide (x.1=k)).Tx (·.2.2)
def pL!{bZ:γQGx}{xs:γQQN}QSG(k:κ):aE (aPbZk) QQO:=by
 induction r with
 |nS=>show vN.Vw
 |@nF p q ps qs h t c=>
  by_cases e:p.1=k
  .let e':q.1=k:=h.1.UH.ξ e;let a:aPQMKk<*p.2.2:=by simp[aP,Ds,e]
   let b:atKey! (q::qs) k<*q.2:=by simp[atKey!,Ds,e']
   rw[a,b];show h.2.2
  .let e':¬ q.1=k:=λz=>e^h.1.ξ z;let a:aPQMKk=aPpsk:=by simp[aP,Ds,e]
   let b:atKey! (q::qs) k=atKey! qsk:=by simp[atKey!,Ds,e']
   rw[a,b];show c
def IL!{dc:Type}{F:d->c->Prop}{a:d}{b:c}(h:Fab){l:γd}{m:γc}(k:Y8Flm):Y8F (l++[a]) (m++[b]):=by
 induction k with
 |nS=>show .nF h .nS
 |nF r t i=>show .nF ri
def bH!(r:aEou):o.BC=u.BC:=by
 cases o<;>cases u<;>first|rfl|show(show oA from r).Q5
end
section
variable{X:n8}{aI:γQA8}{σ:St}{H:m1}{s:Θ}{d:θ}
def f'.bigS QAB:V4<s⁻¹:=by
 let h:dG<s⁻¹:=(I.mod.glob.hL I.hU).lt;show zP (!0) h
abbrev W0 QLB QBg QAH QM5(y:V)(r:ψ V):Prop:=
 (∃bZk,Hd=δQFz/\y=.dW k/\r=tWbZk) \/
 (∃bZkb,Hd=δQF0/\QFk/\y=.ο b/\Fk Hkb/\r=aPbZk) \/
 ∃bZkb,Hd=δ^xRQTZdbZ/\QM6/\y=.ο b/\FTHkb/\r=aPbZk
abbrev Ob! QLB QBg QAH QM5(yv:V)QBe:Prop:=
 (∃bZk,Hd=δQFz/\y=.dW k/\tWbZk=ε/\bZ.β<Φ/\H'=mEHd^x6 (L4Pw) dQNR) \/
 (∃bZkb,Hd=δQF0/\QFk/\y=.ο b/\Fk Hkb/\aPbZk=ε/\bZ.β<Φ/\H'=mEHd^xR (HOPw) dQEt) \/
 ∃bZkb,Hd=δ^xRQTZdbZ/\QM6/\y=.ο b/\FTHkb/\aPbZk=ε/\bZ.β<Φ/\H'=mEHd^xRQTZdQEt
abbrev Oc! QLB QBg QAH QM5 QCv:Prop:=
 (∃bZ,Hd=δQFz/\n=bZ.β)\/∃bZ,Hd=δQF0/\n=bZ.β
def GL! QGo[wAa]QMy QKB{k:a}QBG{v:V}QRq QD7{Q:η->Θ->Prop}(m:A.Wb+64<r4)QAB QEp(n:∀x∈bZ,D.kin H x.1 x.2.1)(j:D.kin Hkb)(l:δv=aPbZk)(h:∀c s',f'XaIσH s'->nTvc->Qc s'):lZQAAA (getItem! QDCQEC) Q E s:=by
 let(_,_,xs,g,dd):=N9 I.rv en;let(c,hw,f):=aE.some_of (v:=v) (o:=(atKey! xsk).Tx QBu) (by rw[l];show pL! gk);let(p,b5,i):=r7 hw;show wpAny_getItem_heap! (D.room m).1 (D.ok j I.rv) dd b5 ?_;rw[i];show hc_QOYf
def kC! QGo[wAa]QMy QKB{k:a}QBG QRq QD7{Q:η->Θ->Prop}(g:A.Wb+64<r4)QAB QEp(i:∀x∈bZ,D.kin H x.1 x.2.1)(f:D.kin Hkb)(h:∀s',f'XaIσH s'->Q (.bC (!(aPbZk).BC)) s'):lZQAAA (x' .NotIn QECQDC) Q E s:=by
 let(ns,_,xs,c,dd):=N9 I.rv ei;show wpAny_notIn_heap! (D.room g).1 (D.ok f I.rv) ns dd ?_;let q:=bH!^pL! ck;rw[ψ.isSome_map]at q;rw[<-q];show h_QOY
def JP QAB(rU:eQ!^Hd)(f:zNd s.ρ h')(g:∃q,h'.Ξ d<*q)(a:qN X.Ω X.w (mEHdc) h'dc):f'XaIσ (mEHdc) {s with ρ:=h',mU:=t'}:=
 I.write (x:=d) (e:=d) rU QAv (λbqhz=>(f.2 bh).ξ z) g a
def Od! QGo[wAa]QMy QKB{xs:γ (a×θ×η)}{k:a}QBG{v:V}{r:η}{h':n3}{t':χ}QAB QEp QIm(i:bZ.β<Φ)(c:Y8 (SEa) bZxs)(h:aPbZk=ε)(f:nTvr)(dd:h'.DictOfH D.knd d^storedH! xskbr)(g:zNd s.ρ h'):f'XaIσQQP {s with ρ:=h',mU:=t'}:=by
 let q:=aE.none_of (show aEεQQO by rw[<-h];show pL! ck);rw[storedH_new!^ψ.map_eq_none_iff.mp q]at dd;show JPI (by rw[e];show vN.Vw) g (by let(o,_,_,q,_):=dd;show (o,q))^R7ns (by rw[o9];show i) (IL! (F:=SEa) (5,f) c) dd
def Pj!{c:Type}[wAc]{D:EI X.Ω X.w c}{bZ:γ (c×θ×V)}{k:c}QBG{v:V}{r:η}QRq QD7{Q:Unit!->Θ->Prop}(j:A.Wb+64<r4)QAB QEp(o:∀x∈bZ,D.kin H x.1 x.2.1)(i:D.kin Hkb)(m:aPbZk=ε)(n:bZ.β<Φ)(g:nTvr)(h:∀s',f'XaIσQQPs'->Q () s'):lZQAAA (setItem! QDCQECr) Q E s:=by
 let(ns,hz,xs,a,dd):=N9 I.rv eo;show wpAny_setItem_heap! (hsz:=by rw[<-Y8.β a];show hz) (D.room j).1 (D.ok i I.rv) dd λh'fl=>h_^Od! Iensnamgfl
def XM{bZ:γ (a×V)}{vs:γ (a×η)}{k:a}(b:KVbZvs)(c:nTvr):KVQNR (vs++[(k,r,)]):=IL! (F:=λ(p:a×V)(q:a×η)=>p.1=q.1/\nT p.2 q.2) (0,c) b
def KM QGo[wAa]{vs:γ (a×η)}{k:a}{r:η}(h:BVvsk=ε):stored! vskr=vs++[(k,r,)]:=by
 unfold stored!;rw[mF];intro q;rw[XI]at q;let(x,b,e):=q;unfold BV at h;rw[ψ.map_eq_none_iff,γ.find?_eq_none]at h;show hxbe
def Wl! QIm(b:s.ρ.Ξ d<*o)(f:o.ExactDict)(e:o.mY=.wF ai)(hz:a.fC≤Φ)(h:∀tt',Q (.tV (a.fC:χ) t) {s with mU:=t'}):lZQAAA (wG (.Rm "len") [.ο d]) Q E s:=by
 let c:s.Yf QDC "dict":=(o,b,f.1);let g:(a.fC:ω)<2^63:=by rw[w9]at hz;lia
 show YL.call_function_entry kind_len! plain_len! entry_len! (args_len1! _) ?_;unfold Builtin.«len»;show lT (m:=oneArg! "len" _)^mR^lT (m:=callSpecial?! QDC^bE.WK "__len__")^LJ (cJ:=bE.WK "__len__") c F.slot_dict_len (DI F.slot_dict_len c F.entry_dict_len ?_^F.args_dict_len_1 _);show lT (m:=dictSize! d) ?_;unfold dictSize!;show lT^wpAny_dictEntries! b e^mR^lT (m:=Builtin.Dict.pendingCount d)^wpAny_pendingCount_other! ns^lT^wpAny_mkInt!^mR (2,lT^tO^mRQQQ);show vM (!1)^vM (by simp;lia)^lT^wpAny_mkInt!^mR (2,3);simpa using h__
end
section
variable{X:n8}
inductive zD! QLB QBg(x:V)(y:V)QAH QAR:Prop
 |mk (d o:_) (_:y=.ο d) (_:W0PwHdxo) QRT
def sX!(m:X.A.Wb+64<r4):pMXQR1^zD! X.Ω X.w:=by
 intro l s pHxyvuQ Ianh;let(d,o,ζ,g,q):=h;cases n;rcases g with⟨bZ,k,e,ζ,ζ⟩|⟨bZ,k,b,e,i,ζ,f,ζ⟩|⟨bZ,k,b,e,i,ζ,f,ζ⟩
 .cases a;let(ns,_,vs,c,dd):=BM I.rv e;show wpAny_notIn_of! (knd:=L4 X.Ω X.w) (k:=k) (show xz k^.bC k=π by cases k<;>rfl) ns dd.mapOf ?_;rw[<-bH!^c.val k];show QTa
 .cases a;show kC! (D:=HO X.Ω X.w) m Ieif λs'j=>(.dW _,H,j,0,q)
 .cases a;show kC! (D:=N4 X.Ω X.w) m Ieif λs'j=>(.dW _,H,j,0,q)
def aC!{f:St}(I:f'XcfH s)(g:W0 X.Ω X.w Hdyo):s.Yf QDC "dict":=by
 rcases g with⟨bZ,k,e,_⟩|⟨bZ,k,b,e,a,_⟩|⟨bZ,k,b,e,a,_⟩
 .obtain ⟨_,_,vs,_,dd⟩:=BM I.rv e;show dd.YQ
 .obtain ⟨_,_,vs,_,dd⟩:=N9 (D:=HO X.Ω X.w) I.rv ea;show dd.YQ
 .obtain ⟨_,_,vs,_,dd⟩:=N9 (D:=N4 X.Ω X.w) I.rv ea;show dd.YQ
inductive Oe! QLB QBg(x:V)(y:V)QAH QAR:Prop
 |mk (dv:_) QNP (_:W0PwHdyQFq) QKs
def xu!(B:X.A.Wb+64<r4):yPX^Oe! X.Ω X.w:=by
 intro cft s JHxyvuQ ICih E;let(d,z,ζ,g,q):=h;cases C;show tail_any! (ops!:=[.ο d,u]) (aC! Ig) Δ.F.slot_dict_getitem.ς ?_ E;rcases g with⟨bZ,k,e,ζ,l⟩|⟨bZ,k,b,e,n,ζ,m,l⟩|⟨bZ,k,b,e,n,ζ,m,l⟩
 .cases i;let(ns,_,vs,j,dd):=BM I.rv e;let(r,hw,a):=aE.some_of (v:=z) (o:=BVvsk) (by rw[l];show j.val k);show wpAny_getItem_of! (knd:=L4 X.Ω X.w) (k:=k) (show xz k^.bC k=π by cases k<;>rfl) dd.mapOf hw QVg
 .cases i;show GL! (D:=HO X.Ω X.w) B Ienml λr s'pa=>(z,H,p,a,q)
 .cases i;show GL! (D:=N4 X.Ω X.w) B Ienml λr s'pa=>(z,H,p,a,q)
inductive bo! QLB QBg(o:V)(i:V)(v:V)QAH QNL:Prop
 |mk (dH':_) (_:o=.ο d) (_:Ob! PwHdivH') (_:Q H')
def hr!(x:X.A.Wb+64<r4):W7X^bo! X.Ω X.w:=by
 intro t sCHoiv E FuQ Iymlh;let(d,H',ζ,g,q):=h;cases y;rcases g with⟨bZ,k,e,ζ,f,j,ζ⟩|⟨bZ,k,b,e,p,ζ,n,f,j,ζ⟩|⟨bZ,k,b,e,p,ζ,n,f,j,ζ⟩
 .cases m;let(ns,hz,vs,a,dd):=BM I.rv e;show wpAny_setItem_pairs! (knd:=L4 X.Ω X.w) (k:=k) (hsz:=by rw[<-a.β];show hz) (show xz k^.bC k=π by cases k<;>rfl) dd λh'cB=>(_,3,q);let z:=aE.none_of (show aEεQRS by rw[<-f];show a.val k);rw[KMz]at c;show JPI (by rw[e];show vN.Vw) B (by let(o,_,_,q,_):=c;show (o,q))^MFns (by rw[o9];show j) (XMal) c
 .cases m;show Pj! (D:=HO X.Ω X.w) x Iepnfjl λs'r=>(_,r,q)
 .cases m;show Pj! (D:=N4 X.Ω X.w) x Iepnfjl λs'r=>(_,r,q)
def En!:wNX (.Rm "len") (λxsHQ=>∃dn,xs=[V.ο d]/\Oc! X.Ω X.w Hdn/\Q (.tV (n:χ)) H):=by
 intro i smHxsusQ Irh;let(d,n,ζ,g,q):=h;let(p,ζ,j):=x5r;cases j;rcases g with⟨bZ,e,ζ⟩|⟨bZ,e,ζ⟩
 .obtain ⟨ns,hz,vs,a,o,f,l,h1,h2,c,_,b5,_⟩:=BM I.rv e;let b:f.fC=bZ.β:=by rw[a.β,<-b5.β];simp
  show Wl! (X:=X) nsh1h2c (FFb hz) λtt'=>(.tV (bZ.β:χ),H,I.y4 _,(t,by rw[b]),q)
 .obtain ⟨ns,hz,xs,a,o,f,l,h1,h2,c,k,_⟩:=(I.rv d_e).1;let b:f.fC=bZ.β:=by rw[Y8.β a,<-IF,k,j']
  show Wl! (X:=X) nsh1h2c (FFb hz) λtt'=>(.tV (bZ.β:χ),H,I.y4 _,(t,by rw[b]),q)
inductive Of! where
 |dW|eS|pair!
abbrev KN QLB QBg QM5:Of!->j7
 |.dW=>x6 (L4Pw) d []
 |.eS=>xR (HOPw) d []
 |.pair=>xRQTZd []
def Ex! QJx QRD(k:Of!):qNPwH (h.Uu {dM:=.TB "dict",mY:=.wF #[]}) h.u_.fC^KNPw h.u_.fC k:=by
 let ns:(h.u_.fC==V4)=ν:=Ul.Ui QNS;cases k with
 |dW=>show MF (knd:=L4Pw) nsQDx .nS QKO
 |eS=>show R7 (D:=HOPw) nsQDx .nS QFS
 |pair!=>show R7 (D:=N4Pw) nsQDx .nS QFS
inductive Yo! QLB QBg(_0:St)QAH QAR:Prop
 |mk (k:_) (_:∀p,Hp=ε->Q QAl^mEHp^KNPwpk)
def zL!:mPX (.Dict [] [] b8)^Yo! X.Ω X.w:=λb s cHQ I⟨k,h⟩=>
 wpAny_Dict_empty! (.ο s⁻¹,_,I.laid (a:=s⁻¹) (o:=KN X.Ω X.w s⁻¹ k) (t':=s.mU) QUcQBF^Ex! s.ρ I.bigS k,0,h_QEA)
end
namespace Uz
section
variable{Ω:nA}{w:o4}{A:o7}{E:η->Θ->Prop}{s:Θ}{z TIfGi1i2:θ}{f1f2:γθ}{n1n2k:χ}{P1jF:χ->η->Prop}{tJyR:χ->n3->Prop}{a b:η}
abbrev CL! QCw:pZ:={dM:=.TB "tuple_iterator",mY:=.xq #[.ο a,.tV 0 0]}
def xv! QJB(d:s.ρ.Yn a c)(h:Q QAY {s with ρ:=s.ρ.Uu^CL! a}):lZQASAQKxQ E s:=wpAny_pyIter_tuple! dh
end
end Uz
def DB!:∀QMxQCE,oGQBIus->IntsAre usns
 |[],_,r=>by rw[γ.map_nil]at r;cases r;show .nS
 |n::ns,_,r=>by
  rw[y3]at r;cases r with
  |nF h t=>
   let(u,ζ):=(show ∃t,_=η.tV nt from h);show .nF nu^DB! t
section
variable{X:n8}
inductive rIndexB!(x:V)QAJ QAH QAR:Prop
 |mk (l:θ) (bs:γb9) QGF (_:vs=[.dW ν]) (_:Hl<*.P' QQR) (_:ν∈bs) (_:Q (.tV (bs.UL ν:χ)) H)
def jm!:SMX "list.index" rIndexB!:=by
 intro A s RHxvsvusQ ID Eh;let(l,bs,ζ,ζ,C,N,q):=h;cases D;let(u,ζ,J):=E.uR;cases J;let(z,eE,n,r,S,e):=I.lstM C;let d:eE.β=bs.β:=by rw[<-r.β,j']
 let k:bs.UL ν<bs.β:=wZN;let g:∀QIL(p:j<eE.Λ.fC),∃f:j<bs.β,eE.Λ[j]=.bC bs[j]:=λj p=>by
  let f:j<bs.β:=by simpa[d]using p
  show(f,3);let(a,P,L):=r.get (i:=j) (x:=.dW bs[j]) (by rw[na,mOf];rfl);cases L;let(_,q):=m9P;simpa using q
 let t:((bs.UL ν:χ):ω)<2^63-1:=by
  let O:(bs.Tx V.dW).β≤Φ:=(I.P' C).choose_spec.choose_spec.2.2;rw[j',w9]at O;show Jm! k O
 show call_meets! F.slot_list_index QKK F.entry_list_index QNT (Wj.list_indexAt l eE.Λ nε #[] (.bC ν) (λy=>match y with|.bC b=>b==ν|_=>ν) (bs.UL ν) QRU t ?_ ?_) (e,3,QDy)
 .obtain ⟨f,o⟩:=g (bs.UL ν) QRU;rw[o];have:=WWf;rw[this];rfl
 .intro m hm2! B;let(f,o):=gm hm2!;rw[o];change (bs[m]==ν)=ν;cases w:bs[m]with
  |π=>rfl
  |ν=>
   have:=_b.Fo (l:=bs) (c:=ν) (i:=m) (by rw[mOf,w]);lia
 .intro y M;let(j,p,ζ):=pV.mem_iff_getElem.mp M;let(f,o):=gjp;rw[o];show Wj.sf.bool_bool __
inductive bD! QAw(x:V)(y:V)QAH QAR:Prop
 |mk (pq:θ) (xsys:γω) QJu (_:y=.ο q) (_:Hp<*.P'^xs.Tx V.tV) (_:Hq<*.P'^ys.Tx V.tV) (_:xs.β=ys.β) (_:Q (.dW^decide (xs=ys)) H)
def P_!(M:X.A.Wb<r4):pMX (x' .Eq)^bD! X.K:=by
 intro o s WHxyvuQ IBwh;let(p,q,xs,ys,ζ,ζ,b5,O,Y,k):=h;cases B;cases w;let(eE,n,g,L):=I.oh^pG.of b5;let(c,m,f,J):=I.oh^pG.of O;let F:=n.β;let E:=m.β;rw[j']at F E;show Wj.eq_listAt (e:=λj=>decide QEk) g.Xt f.Xt (by simp;lia) M (λjh1h2=>?_) QHg
 .let r:j<xs.β:=by simp at h1;show EAh1F
  let d:j<ys.β:=EJr Y
  let(a,R,D):=n.get (i:=j) (x:=.tV xs[j]) (by rw[na,mOr];rfl);let(b,P,C):=m.get (i:=j) (x:=.tV ys[j]) (by rw[na,mOd];rfl);let(t,ζ):=D;let(t',ζ):=C;let U:eE.Λ[j]=.tV xs[j] t:=by
   let(_,e):=m9R;simpa using e
  let T:c.Λ[j]=.tV ys[j] t':=by
   let(_,e):=m9P;simpa using e
  rw[U,T];let S:decide QEk=(xs[j]==ys[j]):=by
   rw[pu,pu,mOr,mOd];by_cases z:xs[j]=ys[j]<;>simp[z]
  change Wj.sf ____^decide QEk;rw[S];show Wj.sf.int_int _t_t'
 .let e:((γ.b_ eE.Λ.fC).u7 λj=>decide QEk)=decide (xs=ys):=by
   let N:eE.Λ.fC=xs.β:=by simp;lia
   rw[N];by_cases z:xs=ys
   .subst z;simp
   .rw [pIz,eq_false_iff!];intro u7;show z (γ.ext_getElem? λi=>?_);rw[T5]at u7;by_cases l:i<xs.β
    .have:=VG^u7i^Ug.Ui l;rw[pu,pu,mOl,mO^EJl Y]at this;rw[mOl,mO^EJl Y];show oRδ this
    .rw [I6^MIl,I6^Jn! Yl]
  rw[e];show k
end
abbrev KO QCw QCv:zI:=⟨λiH=>∃xs,Ha=δQEh/\xs.β=n/\i<n,λiHvH'=>H'=H/\∃xs,Ha=δQEh/\xs[n-1-i]?<*v,λi_=>i=n⟩
def vg! QC1(a it:θ)QCv:H2PwKdV (KOan) [it] it (λih=>h.IsRevIter it a ((n:ω)-1-(i:ω)))  where
 mem:=by simp
 obj:=λih st bj=>by
  let e:b=it:=by simpa using j
  subst e;let(o,e,c,d):=st;show(o,e,λvz=>by rw[d]at z;cases z)
 AP:=λihh' st k=>st.at λoe=>k it (!1) oe
 item:=by
  intro Xy hw A Oif sLH E Ir st l;subst y hw A;let(xs,N,eG,g6):=l;let J:(n:ω)-1-(i:ω)=((n-1-i:χ):ω):=ba! g6
  rw[J]at st;let M:xs[n-1-i]?<*(xs[n-1-i]'(!2)):=mO_;let(eE,Q,p,hz):=I.oh^pG.of N;let(u,S,R):=Q.get M;let(m,F,W,D,C,B):=r it (!1);show wpAny_pyNext_rev_item! st p.Xt (x:=u) (by simpa using S) λh'gq=>?_;let Z:f'XfLH {s with ρ:=h'}:=I.T7 (t':=s.mU) (λboje=>(q.2 bj).ξ e) m FDCB;let Y:((n-1-i:χ):ω)-1=(n:ω)-1-((i+1:χ):ω):=by lia
  rw[Y]at g;let(o,T,t,U):=id g;show(u,0,NA (s:={s with ρ:=h'}) Tt U (!0) (_,H,Z,R,(0,xs,N,M),g,λbj=>?_));let e:b=it:=by simpa using j
  subst e;show m
 done:=by
  intro Xy hw A Oif sLH E Ir st l;subst y hw A;let l:i=n:=l;let J:(n:ω)-1-(i:ω)=-1:=by lia
  rw[J]at st;let(m,F,W,D,C,B):=r it (!1);show wpAny_pyNext_rev_end! (I.ok.hd O) st λh'q=>(0,I.T7 (t':=s.mU) (λboje=>qboje) m FDCB)
 self:=λ_____ st h=>wpAny_pyIter_revIter! st h
inductive Dl! QBn QAJ QD4:Prop
 |mk QVU QEu (_:H1a<*.P' xs) (_:R (KOa xs.β) H1)
abbrev L_! QHR:TI:=λσH R=>tσH^Dl! R
def Qa!{la:bI}QGn(y:pUX "reversed")(x:X.mg "reversed"=ε)(B:qTX [a] m)(v:QLI>>>4)(i:QCW>>>4):vZXl (.Wm (.Ip "reversed" p) [a] [] b8)^L_! m:=by
 intro f skH R Ih;show y0^CJIyx boot_reversed!^WC.Rows.Wx (nb (Bb8f skH_ Ih) λusdz=>?_) vi;let(vs,C,g,t,b,xs,ζ,w,q):=z;let(D,ζ,r):=x5t;cases r;let(eE,n,u,hz):=g.oh^pG.of w;let hsz:eE.Λ.fC=xs.β:=by rw[n.β];simp
 show call_reversed_list! u.Xt ?_;let j:(d.ρ.Uu QLf).IsRevIter d⁻¹ b ((xs.β:ω)-1-((0:χ):ω)):=(_,t8_ζ,0,by rw[hsz];simp[revObj!]);show wpAny_pyIter_revIter! (s:={d with ρ:=d.ρ.Uu QLf}) j ?_;show(_,[d⁻¹],_,KOb xs.β,C,0,g.Zo (t':=d.mU) λboe=>nN_e,vg! b__,j,λc A=>?_,q);let e:c=d⁻¹:=by simpa using A
 subst e;show g.fpOk QBF^g.rv.ax QBF
end _F
namespace _b
section
variable{Labc:lU}
end
section
variable{κ:Type}[wAκ]
abbrev be QUK QA6(s:κ)QHy:κ:=w.foldl (λtc=>g tQBW) s
def jg! QUK QA6(s:κ)QHy QFf:be gL s (w++[c])=g (be gL sw) QBW:=by
 unfold be;rw[foldl_append!];rfl
structure xS QUK QA6(s:κ)(ts:γκ)(ws:n0)(nk:χ):Prop where
 eN:ts.β=ws.β
 eR:ts.qg
 t0:ts[0]?<*s
 lead!:∀QAu(t:κ)(a:lU),ts[i]?<*t->ws[i]?<*a->(∀c∈a,c∈L)/\be gL sa=t
 wl:∀QIL(b:lU),ws[j]?<*b->b.β≤j
variable{g:κ->χ->κ}{L:lU}{s:κ}{ts:γκ}{ws:n0}{nk:χ}
def xS.ZR(g:κ->χ->κ)(L:lU)(s:κ):xSgL s [s] [[]] 0 0:=(0,!1,0,λi tadh=>by
 cases i with
 |qW=>cases d;cases h;show(λcf=>(nomatch f),0)
 |qV i=>simp at d,λjbe=>by
 cases j with
 |qW=>cases e;show nZ 0
 | qV j=>simp at e)
def xS.old QSH{ij:χ}:xSgL stswsij:=(h.eN,h.eR,h.t0,h.lead,h.wl)
def xS.new QSH(C:L.qg){t:κ}{a:lU}(z:ts[n]?<*t)(A:ws[n]?<*a)(p:k<L.β)(E:g tk∉ts):xSgL s (ts++[g tk]) (ws++[a++[L.TC k 0]]) n (k+1):=by
 let B:L.TC k 0=L[k]:=by rw[pu,mOp];rfl
 let split:∀{o:Type}{l:γo}{xy:o}QEg,QLg[i]?<*y->l[i]?<*y\/(i=l.β/\y=x):=λ{o lxyi}e=>by
  rcases χ.lt_or_ge i l.β with r|r
  .rw [u1r]at e;show .UR e
  .rw [w5r]at e;have:=(m9e).1;have:i-l.β=0:=by simp at this;omega
   rw[this]at e;show .P2 (9,(ψ.δ.WZ e).UH)
 let w:=h.eN;let F:=(m9z).1;let H:=h.wl n a A;let(q,m):=h.lead ntaz A;show(by simp[w],γ.nodup_append.Ui (h.eR,!1,λxfyDe=>E^by rw[<-o6D,<-e];show f),by rw[u1 (!6)];show h.t0,λit'xdf=>?_,λjbv=>?_)
 .rcases split d with d|⟨rfl,ζ⟩
  .have:=(m9d).1;rcases split f with f|⟨rfl,ζ⟩
   .exact h.lead it'xdf
   .lia
  .rcases split f with f|⟨_,ζ⟩
   .have:=(m9f).1;lia
   .exact (λcu=>(lp.mp u).Q5 (qc) λu=>by rw[o6u,B];show vOp,by rw[jg!,m,B,bu! Cp])
 .rcases split v with v|⟨rfl,ζ⟩
  .exact h.wl jbv
  .rw [o9,<-w];change a.β+1≤_;lia
abbrev UE(Uts:γκ):χ:=U.countP λx=>!decide (x∈ts)
def jo!{Uts:γκ}{x:κ}(b:x∈U)(a:x∉ts):UEU (ts++[x])<UEUts:=by
 show cQ! (λz hz h=>?_) (x,b,3,3)
 .simp only[PA,decide_eq_false_iff_not!]at h⊢;show λq=>h^XS_q
 .simp only[PA,decide_eq_false_iff_not!];show a
 .simp only[b9.not_eq_false',A4];show F5_QN'
end
end _b
namespace _F
open PySem.Spec PyProof.Rows
abbrev CV(J:zI)QCw(o:j7)QCR:Prop:=∀bF:m1,bFa<*o->(∀i,i<xs.β->J.go ibF)/\(∀ixbJ,i<xs.β->J.yld ibFxbJ->bJ=bF/\xs[i]?<*x)/\J.lP xs.β bF
def Qb! QC1:CV (FNKa) aQEhxs:=λfe=>
 (λih=>(xs,xs[i],pG.of e,mOh),λixd_b=>by let(c,h):=b;show(c,hxs^pG.of e),(xs,pG.of e,nZ_))
def Qc! QC1:CV (O8Ka) aQFLxs:=λfe=>
 (λih=>(xs,xs[i],n'.of e,mOh),λixd_b=>by let(c,h):=b;show(c,hxs^n'.of e),(xs,n'.of e,nZ_))
inductive Ma! QBn(x:V)QD4:Prop
 |mk (aoxs:_) QEq QOj (_:H1a<*o) (_:∀J,CVJaoxs->R JH1)
abbrev SN(fS:TE):TI:=λσH R=>fSσH^Ma! R
def wV(w:mPXln):vZXzl^SNn:=by
 intro f smH R Ih;show nb (wf smH_ Ih) λvci=>?_;let(x,j,g,t,q1):=i;let(a,o,xs,e,u,k,q):=q1;subst e;cases t;let d:∀b∈[c⁻¹],aYXfjb:=λb y=>by
  let e:b=c⁻¹:=by simpa using y
  subst e;show g.fpOk QBF^g.rv.ax QBF
 rcases u with ζ|rfl
 .obtain ⟨eE,r,p,hz⟩:=g.oh^pG.of k;show T9 p.Xt ?_;show(c⁻¹,[c⁻¹],7,j,0,g.Zo (t':=c.mU) λboe=>nN_e,Er! a_,QCO,d,q_ Qb!)
 .obtain ⟨eE,r,p,hz⟩:=g.Xp^n'.of k;show wpAny_pyIter_tuple! (show c.ρ.Yn a eE.Λ from p) ?_;show(c⁻¹,[c⁻¹],7,j,0,g.Zo (t':=c.mU) λboe=>nN_e,bL! a_,QCO,d,q_ Qc!)
def KP{g:TG}{k:oW}QHx(s:CVJaoxs)QTb(z:d 0 bH)(u:∀ibH,dibH->Ha<*o)(t:∀ixbH,xs[i]?<*x->dibH->g xbH λfj=>k {D with pO:=d (i+1),ct:=d (i+1),hU:=D.pO} fj)(w:∀bH,d xs.β bH->D.pO bH):∃W:χ->χ->St->m1->Prop,QHB/\∀imbH,WimbH->
   (J.lP iH/\D.pO bH)\/(J.go iH/\∃N:St->m1->Prop,(∀hH',NhH'->∃l,l<m/\W (i+1) lhH')/\∀xH',J.yld iHxH'->g xbH' λfj=>k {D with pO:=N,ct:=N,hU:=D.pO} fj):=by
 show(λimbH=>m=xs.β-i/\i≤xs.β/\dibH,QUl,3);rintro i m b H⟨rfl,v,p⟩;let(q1,q2,q):=sH^uibHp;by_cases c:i<xs.β
 .refine .P2 (q1ic,d (i+1),λhH'r=>(xs.β-(i+1),N0__c,0,c,r),λxH'y=>?_);let(e,n):=q2ixH'cy;subst e;show tixb_np
 .let e:i=xs.β:=ZVv^xGc;subst e;show .UR (q,wbHp)
def X_!{tt:TT}{u:TE}{q:St}{Q:oE}(z:CVJaoxs)(F:Ha<*o)(l:θ->χ->γ V->m1->Prop)(hz:xs.β≤Φ)(I:∀D,HD=ε->l D 0 []^mEHD^.P' [])(B:∀(D:θ)(i:χ)(x:V)(ys:γ V)(H':m1)(v:oE)(f5:m1->Prop),HD=ε->xs[i]?<*x->mIHH'->H'D<*.P' ys->l DiysH'->
   (∀yh,hD<*.P' ys->mIHQDz->l D (i+1) QBqQDz->vyh)->(∀g,mIHg->gD<*.P' ys->l D (i+1) ysg->f5g)->
   tt (δx::q) H' λbg=>if b=π then u (δx::q) gv else f5g)(C:∀DysH',HD=ε->mIHH'->H'D<*.P' ys->l D xs.β ysH'->Q (.ο D) H'):∀D,HD=ε->∃W:χ->χ->γ V->m1->Prop,
 (∃m,W 0 m []^mEHD^.P' [])/\∀imysf,Wimysf->fD=δ^.P' ys/\((J.lP i f/\Q (.ο D) f)\/(J.go i f/\ys.β<Φ/\∀xp,J.yld i fxp->
  tt (δx::q) p λbg=>if b=π then u (δx::q) g λyh=>hD=δQBc/\∃n,n<m/\W (i+1) nQBqQDz
   else ∃n,n<m/\W (i+1) nysg)):=by
 intro Dr;show(λimysf=>m=xs.β-i/\i≤xs.β/\ys.β≤i/\mIHf/\fD=δQBc/\l Diysf,(xs.β,!1,pT_,!1,mI.mE r,hJ,IDr),3);rintro i m ys f⟨rfl,E,t,j,k,b5⟩;show(k,3);let(q1,q2,w):=zf^j__ F;by_cases d:i<xs.β
 .refine .P2 (q1id,VMt^pPd hz,λxp s=>?_);let(e,A):=q2ixpd s;subst e;show BDixysp__r Ajkb5 (λyhabc=>(a,xs.β-(i+1),N0__d,0,d,by rw[o9];show WJt,b,hJ,c)) (λgabc=>(xs.β-(i+1),N0__d,0,d,W9t,a,b,c))
 .let e:i=xs.β:=ZVE^xGd;subst e;show .UR (w,CDysfrjkb5)
def Zq! QAw QE7:yPX^V8K:=by
 subst a;show Bq!
def SF QAw QE7:yPX^RGK:=by
 subst a;show YU
def uf! QVT QLB QBg(a:X.A.Wb+64<r4)(b:(X.Ω=P)>>>4)(hw:(X.w=w)>>>4):yPX^Oe! Pw:=by
 subst b hw;show xu! a
def GK!:AO (tP X.Ω X.w) XfA:=λ_______h=>by
 let(_,_,_,_,_,_,_,_,_,_,_,_,_,_,_,_,h):=h;show h.Q5
def wq!:CV (KOa ys.β) aQBc ys.UQ:=λje=>by
 show(λih=>(ys,e,0,by simpa using h),λixgch=>?_,3)
 .obtain ⟨f,xs,b,d⟩:=h;rw[e]at b;cases b;show(f,3);rw[YGQJF];show d
 .change ys.UQ.β=ys.β;rw[w6]
def KR QBm(h:t≤xs.β):yAxsε^δ (t:ω)=xs.Uj t:=by
 unfold yA;rw[ZC.Cj,ZC.Db,γ.drop_zero,χ.sub_zero,χ.min_eq_left h]
end _F
namespace _b
open _F
inductive gI where
 |UR QKD
 |P2 (k:gZ)
instance:DecidableEq gI:=λa b=>match a,b with
 |.inl a,.inl b=>if h:a=b then isTrue (by rw[h])else isFalse λz=>h (gI.inl.inj z)
 |.inr a,.inr b=>if h:a=b then isTrue (by rw[h])else isFalse λz=>h (gI.inr.inj z)
 |.inl _,.inr _=>isFalse λz=>by cases z
 |.inr _,.inl _=>isFalse λz=>by cases z
abbrev W2:gI->b9
 |.UR _=>ν
 |.P2 _=>π
abbrev NP QAH:gI->V->Prop
 |.UR b,x=>x=.dW b
 |.P2 k,x=>∃p,x=.ο p/\Fk Hkp
def RV QAp(h:Fk Hka):Fk H'ka:=by
 let(b,d,c):=h;show(b,s__d,s__c)
def NP.Zx QAp(h:NPHkx):NPH'kx:=by
 cases k with
 |UR b=>show h
 |P2 k=>
  let(p,e,h):=h;show(p,e,RVsh)
def JR{gf:Type}[wAf](b:g->f)(c:g->V)(k:f):∀(bZ:γg)QCv,(∀ix,bZ[i]?<*x->cx=.tV ((n+i:χ):ω))->
  (bZ.find? λx=>decide (bx=k)).Tx c=if k∈bZ.Tx b then δ (.tV ((n+(bZ.Tx b).UL k:χ):ω))else ε
 |[],n,_=>by simp
 |a::bZ,n,h=>by
  by_cases e:ba=k
  .let m:=h 0 aζ;rw[mG^by simp[e]];subst e;simp[Ds,m]
  .let j:=JRbckbZ (n+1) λixl=>by
    have:=h (i+1) x (by simpa using l);rw[this];congr 2;show Gp!
   let o:(bZ.Tx b).UL k+1=((a::bZ).Tx b).UL k:=by
    rw[y3,idxOf_cons!,Ul.Ui e];rfl
   rw[Ds,pIe];change (bZ.find? λx=>decide (bx=k)).Tx c=_;rw[j];by_cases d:k∈bZ.Tx b
   .rw [mGd,mG (by rw[y3];show qO_d),<-o];congr 3;show S4
   .rw [mFd,mF^by rw[y3,u3];rintro(z|z);show e z.UH;show dz]
abbrev NV QLB QBg QAH QM5(eS:b9)(ks:γgI):Prop:=
 (eS=ν/\∃bZ:γ (b9×V),Hd=δQFz/\(bZ.Tx λx=>(gI.UR x.1:gI))=pAks/\∀QAu(x:b9×V),bZ[i]?<*x->x.2=V.tV (i:ω)) \/
 (eS=π/\∃bZ:γ (gZ×θ×V),Hd=δQF0/\QFk/\(bZ.Tx λx=>(gI.P2 x.1:gI))=pAks/\∀QAu(x:gZ×θ×V),bZ[i]?<*x->x.2.2=V.tV (i:ω))
section
variable{P:nA}{w:o4}{H:m1}{d:θ}{eS:b9}{ks:γgI}
abbrev Js(ks:γgI)(k:gI):ψ V:=if k∈pAks then δ (.tV ((pAks).UL k:χ))else ε
def NV.get QC5(j:NPHkx)(g:W2k=eS):W0PwHdx^Jsksk:=by
 rcases h with⟨rfl,bZ,e,f,c⟩|⟨rfl,bZ,e,l,f,c⟩
 .cases k with
  |P2 k=>cases g
  |UR b=>
   show .UR (bZ,b,e,j,3);have:=JR (λx:b9×V=>(gI.UR x.1:gI)) QBu (gI.UR b) bZ 0 (λixa=>by rw[cixa,χ.WL]);rw[f]at this;unfold Js tW;rw[χ.WL]at this;rw[<-this];congr 2;funext x;show decide_eq_decide.Ui (λz=>gI.UR.WZ z,λz=>by rw[z])
 .cases k with
  |UR k=>cases g
  |P2 b=>
   let(p,n,m):=j;show .P2^.UR (bZ,b,p,e,l,n,m,3);have:=JR (λx:gZ×θ×V=>(gI.P2 x.1:gI)) (·.2.2) (gI.P2 b) bZ 0 (λixa=>by rw[cixa,χ.WL]);rw[f]at this;unfold Js aP;rw[χ.WL]at this;rw[<-this];congr 2;funext x;show decide_eq_decide.Ui (λz=>gI.P2.WZ z,λz=>by rw[z])
def NV.eN QC5:Oc! PwHd (pAks).β:=by
 rcases h with⟨_,bZ,e,a,_⟩|⟨_,bZ,e,_,a,_⟩
 .exact .UR (bZ,e,by rw[<-a,j'])
 .exact .P2 (bZ,e,by rw[<-a,j'])
def NV.Ki QC5(a:k∈pAks):NVPwHdeSQHi:=by
 unfold NV at h⊢;rw[RU,mGa];show h
def NV.Hu QC5 QBv:NVPwH'deSks:=by
 rcases h with⟨a,bZ,e,c⟩|⟨a,bZ,e,g,c⟩
 .exact .UR (a,bZ,s__e,c)
 .exact .P2 (a,bZ,s__e,λxf=>RV (λbxsz=>s__z)^g xf,c)
def NV.Xk QC5(e:H'=mEHdc):∀bxs,Hb<*.iT xs->H'b<*.iT xs:=λbxsz=>by
 rw[e,a'^λq=>?_]
 .exact z
 .subst q;rcases h with⟨_,bZ,a,_⟩|⟨_,bZ,a,_⟩
  .rw [a]at z;cases z
  .rw [a]at z;cases z
def wK!(h:¬ j<n)(h2:j-n<1):j=n:=Iy! h2h
def NV.put QC5(u:NPHkx)(t:W2k=eS)(c:k∉pAks)(A:(pAks).β<Φ):∃v,Ob! PwHdx (.tV ((pAks).β:χ))^mEHdv/\NVPw (mEHdv) deSQHi:=by
 let l:Jsksk=ε:=mFc;let q:=h.get ut;rw[l]at q;let D:=h;rcases h with⟨rfl,bZ,e,m,o⟩|⟨rfl,bZ,e,B,m,o⟩
 .cases k with
  |P2 k=>cases t
  |UR b=>
   let f:(pAks).β=bZ.β:=by rw[<-m,j']
   let g:tWbZb=ε:=by
    have:=JR (λx:b9×V=>(gI.UR x.1:gI)) QBu (gI.UR b) bZ 0 (λix s=>by rw[oix s,χ.WL]);rw[m,mFc]at this;unfold tW;rw[<-this];congr 2;funext x;show decide_eq_decide.Ui (λz=>by rw[z],λz=>gI.UR.WZ z)
   show(_,.UR (bZ,b,e,u,g,by rw[<-f];show A,0),.UR (0,bZ++[(b,.tV ((pAks).β:χ),)],hJ,3,λiya=>?_))
   .rw [RU,mFc,pY,m];rfl
   .by_cases n:i<bZ.β
    .rw [u1n]at a;show oiya
    .rw [w5^xGn]at a;let r:=wK! n (m9a).1;rw[r,sub_self!]at a;cases a;change V.tV ((pAks).β:χ)=_;rw[f,r]
 .cases k with
  |UR k=>cases t
  |P2 b=>
   let f:(pAks).β=bZ.β:=by rw[<-m,j']
   let(p,E,C):=u;let g:aPbZb=ε:=by
    have:=JR (λx:gZ×θ×V=>(gI.P2 x.1:gI)) (·.2.2) (gI.P2 b) bZ 0 (λix s=>by rw[oix s,χ.WL]);rw[m,mFc]at this;unfold aP;rw[<-this];congr 2;funext x;show decide_eq_decide.Ui (λz=>by rw[z],λz=>gI.P2.WZ z)
   let j:=D.Xk (H':=mEHd^xR (HOPw) d (bZ++[QM7])) ζ;show(_,.P2^.UR (bZ,b,p,e,B,E,C,g,by rw[<-f];show A,0),.P2 (0,bZ++[QM7],hJ,λya=>?_,3,λiya=>?_))
   .rcases lp.mp a with a|a
    .exact RVj^Bya
    .rw [o6a];show RVjC
   .rw [RU,mFc,pY,m];rfl
   .by_cases n:i<bZ.β
    .rw [u1n]at a;show oiya
    .rw [w5^xGn]at a;let r:=wK! n (m9a).1;rw[r,sub_self!]at a;cases a;change V.tV ((pAks).β:χ)=_;rw[f,r]
def NV.new QLB QBg QAH QJR(eS:b9):NVPw (mEHp^KNPwp^if eS=π then .eS else .dW) peS []:=by
 cases eS with
 |ν=>show .UR (0,[],hJ,0,λixh=>by simp at h)
 |π=>show .P2 (0,[],hJ,λxh=>by simp at h,0,λixh=>by simp at h)
end
def aB!(bs:γb9):qR (bs.Tx λb=>(gI.UR b:gI))=qRbs:=W' (by rw[j']) λijabfeh1h2dc=>by
 rw[na,d]at h1;rw[na,c]at h2;cases h1;cases h2;show(λz=>gI.UR.WZ z,λz=>by rw[z])
def wL!(bs:γgZ):qR (bs.Tx λb=>(gI.P2 b:gI))=qRbs:=W' (by rw[j']) λijabfeh1h2dc=>by
 rw[na,d]at h1;rw[na,c]at h2;cases h1;cases h2;show(λz=>gI.P2.WZ z,λz=>by rw[z])
def UJ{a bx:χ}(h:a=b)(c:x<b):x<a:=χ.lt_of_lt_of_eq c h.UH
def Qd!(h:i<j+1)(n:¬ i=j):i<j:=χ.Zk (IJh) n
def yz! QLU(h:n≤2100):-QP6≤(n:ω)/\(n:ω)<2^62:=by lia
def yy!{r:ω}QLU(a:0≤r)(h1:r<n):r.UD<n:=(ω.toNat_lt a).Ui h1
def Og!(h:¬ j<n)(h2:j-n<1):j=n:=Iy! h2h
def Qe! QLU(h:1≤n):(0:ω)<(n:ω):=ofNat_lt.Ui h
def Qg!(h:i<t):t-1-i<t:=Lp! h
def Qh!(h:i<t):∃u,t-i=u+1/\t-1-i=u/\t-(i+1)=u:=(t-i-1,zl! h,9,9)
def Qi!(h1:w=i)(h2:i<t)(b:t<k+1)(a:k≤4410000):w+1≤16777216:=by lia
def Mb!(h:k≤4410000):k+1<Φ:=by
 have:16777216≤Φ:=m6 (!0);lia
def Qj!(z:ω)(b m:χ)(a:0<m):∃n:χ,(n:ω)=(b:ω)+z%(m:ω)/\b≤n/\n<b+m:=by
 let c:=N1z (show(m:ω)≠0 by lia);let h1:=ω.Zu z (show(0:ω)<(m:ω) by lia);show(b+(z%(m:ω)).UD,9,9,9)
def Qk!(h:l+i=26)(a:i≤3):1≤l/\l≤26:=by lia
def Ql! QLU(h:n≤26):(n:ω)<1073741824:=by lia
def Qm!(h1:a≤n)(h2:b≤n)(c:n≤26):a+b≤16777216:=by lia
def Qn!{x:ω}(h:0≤x):(x+1).UD=x.UD+1:=by lia
def Qo!(h:k<l)(a:l+i=26):min kl+(l-(k+1))+(i+1)=26:=by lia
def JS(ws:lU):mJws=(zsws).Tx V.tV:=by
 unfold mJ zs;rw[map_map!];rfl
def oq!(ws:lU):(zsws).β=ws.β:=by simp[zs]
def o8(ws:lU):(mJws).β=ws.β:=by simp[mJ]
def xU(h:i<ws.β):QOc[i]?<*.tV ((ws.TC i 0:χ):ω):=by
 unfold mJ;rw[na,pu,mOh];rfl
def zF{ns:lU}(h:r<ns.β):qZQKP (r:ω)<*.tV ((ns.TC r 0:χ):ω):=r8^xUh
def uW QGo QL0{x:a}(h:l[i]?<*x):l.Uj (i+1)=l.Uj i++[x]:=by
 rw[FW,h];rfl
def YA QAs:decide (V.tV (a:ω)=V.tV (b:ω))=decide (a=b):=by
 by_cases h:a=b
 .subst h;simp
 .have:¬ V.tV (a:ω)=V.tV (b:ω):=λz=>h (by injection z with z;show ω.ofNat.WZ z);rw[pIh,pI this]
abbrev PU QAH(gU:γθ)QDu QAt:Prop:=∀QAu(r:θ),gU[i]?<*r->Hr<*.P'^mJ^nYWBi
def PU.Ki(h:PUHa WB)QBv:PUH'a WB:=λire=>s__^hire
def nu!(g:j<n)(k:fj=ν):ν∈(γ.b_ n).Tx f/\((γ.b_ n).Tx f).UL ν<n/\f^((γ.b_ n).Tx f).UL ν=ν/\∀i<((γ.b_ n).Tx f).UL ν,fi=π:=by
 let get!:∀i,i<n->((γ.b_ n).Tx f)[i]?<*fi:=λi d=>by rw[na,yUd];rfl
 let c:ν∈(γ.b_ n).Tx f:=WB.Ui (j,Ug.Ui g,k);let b:=wZc;let a:((γ.b_ n).Tx f).UL ν<n:=by simpa using b
 show(c,a,3,λi d=>?_)
 .let e:=get! _a;rw[mOb,WWb]at e;show(ψ.δ.WZ e).UH
 .let e:=get! i (!6);cases h:fi with
  |π=>rfl
  |ν=>
   rw[h]at e;have:=Fo! e;lia
def tF.row(d:a.β=W.β)(h:ii Ha W)(c:r<W.β):∃b,a[r]?=δb/\Hb<*.iT^mJ^W.TC r []:=by
 let e:a[r]?<*(a[r]' QKN):=mO_;let(ws,h1,h2):=hr_e;show(_,e,3);rw[h2,pu,h1];rfl
def HA QBv(h:H'p=ε):Hp=ε:=by
 cases e:Hp with
 |ε=>rfl
 |δ o=>rw[s__e]at h;cases h
def Kr!{tt:TT}{u:TE}{p:St}{Q:oE}(k:θ->χ->γ V->m1->Prop)(hz:n≤Φ)(C:∀D,HD=ε->kD 0 []^_F.mE HD^.P' [])(z:∀(D:θ)(i:χ)(ys:γ V)(H':m1)(v:oE)(f5:m1->Prop),HD=ε->i<n->mIHH'->H'D<*.P' ys->kDiysH'->
   (∀yh,hD<*.P' ys->mIHQML->kD (i+1) QBqQML->vyh)->(∀g,mIHg->gD<*.P' ys->kD (i+1) ysg->f5g)->
   tt (δ^.tV (lo+(i:ω))::p) H' λbg=>if b=π then u (δ^.tV (lo+(i:ω))::p) gv else f5g)(A:∀DysH',HD=ε->mIHH'->H'D<*.P' ys->kDnysH'->Q (.ο D) H'):∀D,HD=ε->∃W:χ->χ->γ V->m1->Prop,
 (∃m,W 0 m []^_F.mE HD^.P' [])/\∀imysf,Wimysf->fD=δ^.P' ys/\(((EO lo n).lP i f/\Q (.ο D) f)\/((EO lo n).go i f/\ys.β<Φ/\∀xr,(EO lo n).yld i fxr->
  tt QQJ r λbg=>if b=π then uQQJg λyh=>hD=δQBc/\∃l,l<m/\W (i+1) lQBqQML
   else ∃l,l<m/\W (i+1) lysg)):=by
 intro Dq;show(λimysf=>m=n-i/\i≤n/\ys.β≤i/\mIHf/\fD=δQBc/\kDiysf,(n,!1,pT_,!1,mI.mE q,hJ,CDq),3);rintro i m ys f⟨rfl,B,t,o,j,b5⟩;show(j,3);by_cases d:i<n
 .refine .P2 (d,VMt^pPd hz,λxr s=>?_);let(e,w):=s;subst e w;show zDiysr__qdojb5 (λyhabc=>(a,n-(i+1),N0__d,0,d,by rw[o9];show WJt,b,hJ,c)) (λgabc=>(n-(i+1),N0__d,0,d,W9t,a,b,c))
 .let e:i=n:=ZVB^xGd;subst e;show .UR (nZ_,ADysfqojb5)
def KU{a:γθ}(c:a.β=k+1)(h:a[k]?<*b):qZ (a.Tx V.ο) (-1)<*.ο b:=by
 let e:a=a.Uj k++[b]:=by rw[<-uWh,vJ (!6)]
 rw[e,pY];show tw! __
def gh!{ws:lU}(h:j<ws.β):(ws.Tx f).TC j 0=f^ws.TC j 0:=by
 rw[pu,pu,na,mOh];rfl
def GO{ws:lU}(h:j<ws.β):ws.TC j 0∈ws:=by
 rw[pu,mOh];show vOh
def qL! QGr(h1:Hr<*.P' QKP)(h2:Hp<*.P'^ls.Tx V.ο)(c:ls≠[]):r≠p:=by
 rintro ζ;rw[h1]at h2;injection h2 with h2;injection h2 with h2;cases ls with
 |nS=>show cζ
 |nF a l=>
  cases ns with
  |nS=>cases h2
  |nF n ns=>
   rw[y3,mJ,y3]at h2;injection h2 with b _;cases b
section
variable{K:qI}{eJ:TE}{tt:TT}{σ:St}{H:m1}{Q:oE}{a c d:θ}{o:j7}{xszs:γ V}
def DN(h:∀R:oE,R (.ο a) H->lσH R)(q:o=.P' xs\/o=.iT xs)(j:Ha<*o)(f:θ->χ->γ V->m1->Prop)(hz:xs.β≤Φ)(r:∀D,HD=ε->fD 0 []^_F.mE HD^.P' [])(n:∀(D:θ)(i:χ)(x:V)(ys:γ V)(H':m1)(k:oE)(f5:m1->Prop),HD=ε->xs[i]?<*x->mIHH'->H'D<*.P' ys->fDiysH'->
   (∀y g,gD<*.P' ys->mIHQCg->fD (i+1) QBqQCg->kyg)->QBN->
   tt (δx::σ) H' λb e=>if b=π then eJ (δx::σ) ek else f5e)(p:∀DysH',HD=ε->mIHH'->H'D<*.P' ys->fD xs.β ysH'->Q (.ο D) H'):EF (SNl) tt eJσHQ:=
 h _ (a,o,xs,0,q,j,λJm=>X_! mjf hz rnp)
def ON{n:χ}(j:∀R:γ V->m1->Prop,R [.tV (n:ω)] H->tσH R)(p:n≤9000)(f:θ->χ->γ V->m1->Prop)(m:∀D,HD=ε->fD 0 []^_F.mE HD^.P' [])(k:∀(D:θ)(i:χ)(ys:γ V)(H':m1)(h:oE)(f5:m1->Prop),HD=ε->i<n->mIHH'->H'D<*.P' ys->fDiysH'->
   (∀y g,gD<*.P' ys->mIHQCg->fD (i+1) QBqQCg->hyg)->QBN->
   tt (δ^.tV (0+(i:ω))::σ) H' λb e=>if b=π then eJ (δ^.tV (0+(i:ω))::σ) eh else f5e)(l:∀DysH',HD=ε->mIHH'->H'D<*.P' ys->fDnysH'->Q (.ο D) H'):EF (iK! t) tt eJσHQ:=
 j _ ((n:ω),0,kP,9,Kr! (n:=n) f (m6 (!6)) m kl)
end
section
variable{P:nA}{w:o4}{H:m1}{dq:θ}{ps:γ (χ×χ)}
end
def OO QKn(h:r<B.β):qZQGw ((r:χ):ω)<*.dW^B.TC rν:=wR V.dW (by rw[pu,mOh];rfl)
def Md!{b:Type}QRs(h:l.β=1):∃a,l=[a]:=match l,h with|[a],_=>(a,0)
def Ie!{c:Type}{l:γc}(h:l.β=2):∃a b,l=[a,b]:=match l,h with|[a,b],_=>(a,b,0)
def Oh!{e:Type}{l:γe}(h:l.β=4):∃a bcd,l=[a,b,c,d]:=match l,h with|[a,b,c,d],_=>(a,b,c,d,0)
end _b
namespace _F
open PySem.Spec PyProof.Rows
structure xV(Nps fr:γbE)QKm:Prop where
 XA:sc.XA=.XH
 co:sc.isCoroutine=ν
 gen!:sc.isGenerator=ν
 eR:N.qg
 pre:N.Uj ps.β=ps
 suf!:N.Gd QEl=fr
 fit!:ps.β+fr.β≤N.β
 par!:∀x∈ps,sc.TW.ς x<*.local
 nocell!:∀y∈sc.TW,y.2≠.aQ
structure rG QJx QEv QKm(fr:γbE)(fvs:γ V):Prop where
 WZ:∀yzc,cU.ς y<*c->cU.ς z<*c->y=z
 A7:∀y∈sc.TW,y.2=.VC->∃c,cU.ς y.1<*c
 aQ!:∀yc,cU.ς y<*c->∃v,h.vr cv
 eN:fvs.β=fr.β
 val!:∀QAu(y:bE)(v:V),fr[i]?<*y->fvs[i]?<*v->(sc.TW.ς y<*.VC)/\∃cu,cU.ς y=δc/\h.vr cQP3/\nTvu
abbrev N2(r0:CXT)QLB QBg QAw QAy QRH QN5(bA:bE)(g8:qA)QFO(cd:η)QEv(A:o7)QER QCD QAH QE4:n8 where
 Ω:=P
 w:=w
 K:=K
 mg:=mg
 υ:=υ
 A:=A.jq QFT
 N:=N
 Xy!:=s
 H₀!:=H
 fN:=envX! bAg8 s⁻¹ f cd cU
 b7:=b7
 US:=envX! bAg8 s⁻¹ f cd cU::b7
 ex:=[]
 TN:=π
 fn:=λ_=>ν
 pn!:=[]
 xe:=λe s'=>lZQBE (A.jq QFT) (ZGQFTe) QLbQKqs'
abbrev MO QN5(vs fvs:γ V):St:=vs.Tx δ++(nMQSIε++fvs.Tx δ)
def zy!:∀{ps:γbE}QCEQEg,ps.qg->ps[i]?<*x->us[i]?<*v->(ps.zip us).UQ.ς x<*v:=by
 intro psusifh1h2;let g:(x,v,)∈(ps.zip us).UQ:=by
  rw[mem_reverse!];let hz:QFP[i]?<*(x,v,):=by rw[γ.getElem?_zip_eq_some];show QM8
  show v7 hz
 let b:∀a,(x,a,)∈(ps.zip us).UQ->a=v:=λa c=>by
  rw[mem_reverse!]at c;let(j,d):=tl.mp c;rw[γ.getElem?_zip_eq_some]at d;let e:j=i:=VNf d.1 h1;subst e;have:=d.2;rw[h2]at this;show(ψ.δ.WZ this).UH
 cases e:(ps.zip us).UQ.ς x with
 |ε=>
  have:=γ.lookup_eq_none_iff.mp e_g;simp at this
 |δ a=>rw[ba^Δ.Vm e]
section
variable{r0:CXT}{P:nA}{w:o4}{K:qI}{mg:bE->ψη}{υ:n3}{Nps fr:γbE}{bA:bE}{g8:qA}{f:θ}{cd:η}{cU:γQBH}{A:o7}{b7:γ Env}{s:Θ}{H:m1}{E:r3}{us:γη}{vs fvs:γ V}
abbrev Oi!(g8:qA)QEv(m:bE->ψη)QM3(y:bE)(v:V):Prop:=∃u,nTvu/\((g8.TW.ς y=δ .local/\my<*u)\/((g8.TW.ς y<*.aQ\/g8.TW.ς y<*.VC)/\∃c,cU.ς y=δc/\h'.vr cQP3))
def gC!(l:g8.XA=.XH)(I:vs.β+fr.β≤N.β)(r:N.Gd QEl=fr)(D:fvs.β=fr.β)(F:A.T6=ε)(d:AZPwK mg υ Ab7sH)(u:h'.Ns s⁻¹ m)(C:∀bo,s.ρ.Ξ b<*o->h'.Ξ b<*o)(t:∀yzc,cU.ς y<*c->cU.ς z<*c->y=z)(A7:∀y,g8.TW.ς y<*.aQ\/g8.TW.ς y<*.VC->∃c,cU.ς y<*c)(g:∀yc,cU.ς y<*c->(∃v,h'.vr cv)/\Hc=ε)(own:∀QAuyv,N[i]?<*y->vs[i]?<*v->Oi! g8cUmh'yv)(B:∀QAuyv,fr[i]?<*y->fvs[i]?<*v->Oi! g8cUmh'yv):f'QGV [] QFCH {s with ρ:=h',mU:=J}:=by
 let j:∀b:θ,b∉(N2r0PwK mg υ NbAg8f cd cUAb7sH E).ex:=λbz=>mW (show b∈([]:γθ)from z) (!1);show((d.mod,l,5,nZ_,t,A7,λych=>mW (show ν=π from h) b9.UF,λ_=>F,o7.frames_deeper d.Xe,.P2 (0,0),λbz=>mWz^jb,d.bs,d.bsz,λb__=>jb,λbz=>mWz^jb,d.funs,d.frf),
  rfl,d.pH,rJ.Zo C,(_,u,λiyvh1h2M=>?_),λych=>(gych).1,d.rv.ax^nZ_,λych=>(gych).2,λpb5=>mW (show p∈([]:γ (θ×pZ))from b5) (!1),d.rv.Zo C,3)
 .let h1:N[i]?<*y:=h1;let L:i<N.β:=(m9h1).1;unfold MO at h2;by_cases n:i<vs.β
  .rw [u1QTc,na]at h2;let(a,x,e):=r7h2;cases e;show own iyvh1x
  .rw [w5QTc,j']at h2;by_cases k:i-vs.β<N.β-vs.β-fvs.β
   .rw [u1QTd,γ.getElem?_replicate,mGk]at h2;cases h2
   .rw [w5QTd,r9,na,show i-vs.β-QSI=i-QEl by lia]at h2;let(a,x,e):=r7h2;cases e;show B_yv ?_ x;let q:(N.Gd QEl)[i-QEl]?<*y:=by
     rw[γ.getElem?_drop,show N.β-fr.β+(i-QEl)=i by lia];show h1
    rwa [r]at q
 .unfold MO;change _=N.β;simp only[o9,j',r9];lia
def gD!(S:xVNps fr g8)QQS(k:A.T6=ε)(m:AZPwK mg υ Ab7sH)(n:vs.β=ps.β)QGb(j:h'.Ns s⁻¹^λx=>(ps.zip us).UQ.ς x)(p:∀bo,s.ρ.Ξ b<*o->h'.Ξ b<*o):f'QGV [] QFCH {s with ρ:=h',mU:=D}:=by
 let a:∀cv,υ.vr cv->h'.vr cv:=λcvl=>by let(o,e,k):=l;show(o,p c o (m.bs c oe).1,k)
 show gC! S.XA (by rw[n];show S.fit) S.suf C.eN kmjp C.WZ (λyd=>?_) (λych=>?_) (λiyvh1g=>?_) λiyvh1g=>?_
 .rcases d with d|d
  .exact mWζ^S.nocell _^Δ.Vm d
  .exact C.A7 _ (Δ.Vm d) ζ
 .obtain ⟨v,o,e,q⟩:=C.aQ ych;show((v,a cv (o,e,q)),(m.bs c oe).2)
 .obtain ⟨u,B,t⟩:=r.get g;let b5:ps[i]?<*y:=by
   rw[<-S.pre,γ.getElem?_take_of_lt (n▸(m9g).1)];show h1
  show(u,t,.UR (S.par y^v7b5,zy! (by rw[<-S.pre];show S.eR.sublist QQC) b5B))
 .obtain ⟨k1,c,u,k2,k3,z⟩:=C.val ___h1g;show(u,z,.P2 (.P2 k1,c,k2,a c_k3))
def GP(dI:υ.Ξ f<*o)(hd:o.mY=.YN^Δ.W.fnX cJbAdgg8cU .ε .ε cR pm ε (.ο j) U)(R:υ.Vt (.ο j) bA)(S:xVNps fr g8)(C:rGυcUg8 fr fvs)(eN:∀vsHQ E,XvsHQ E->vs.β=ps.β)(i:∀(A:o7)(b7:γ Env)(s:Θ)(H:m1)(vs:γ V)(Q:oE)(E:r3),q4k^A.jq^envX! bAg8 s⁻¹ f (.ο j) cU->XvsHQ E->
   ∃t,tR (N2msPwK mg υ NbAg8f (.ο j) cUAb7sH E).nox g t/\t {pO:=λ_H'=>Q .vS H',CF:=Q} (MONvs fvs) H):mTPwK mg υms (k+1) f (Δ.W.fnX cJbAdgg8cU .ε .ε cR pm ε (.ο j) U) psX:=by
 show(eN,λAb7sH ab usvsQ E MBcYrm=>?_);let Z:=eN____m;let F:s.ρ.NoLimit:=B.mod.nolimit.hL λboe=>(B.bs boe).1;let eF:us.β=ps.β:=by rw[<-r.β];show Z
 let h:∀y∈ps.zip us,g8.TW.ς y.1<*.local:=λTd7=>by let(n,v):=T;show S.par n (of_mem_zip! d7).1
 let x:s.ρ.Vt (.ο j) bA:=by
  let(c,Y,ws,t,e1,e2,e3,e4):=R;show(c,Y,ws,t,e1,(B.bs c Ye2).1,e3,e4)
 show eC! M.depth (B.bs fodI).1 hd S.co S.gen ζxQFQ;show wpAny_newFunctionEnv! (closure!:=cU) (around!:=ε) S.nocell h (λh'OL=>?_) S.XA;let p:∀bo,s.ρ.Ξ b<*o->h'.Ξ b<*o:=λboe=>L.Zt boQGsQJO;show(F.hL p,codeAny_func! ?_);let(t,fP,e9):=i Ab7sHvsQ E (M.jq _) m;let I:f'QFU [] QFCH {s with ρ:=h',mU:=s.mU+(ps.zip us).β}:=gD! SC M.hd B Zr Op;show pW (fP.nox [] _QFCH_ Ie9) (λj6s'l=>?_) λe s'l=>l;let z:∀{a:St}QFs{v:V}{u:η},f'QFU [] aH's'->nTvu->Qv H'->CEb7PwH sQu s':=
  λ{aH'vu}JDq=>(v,H',J.os,J.pH,J.υ,J.rv,D,q)
 cases j6 with
 |ret u=>
  let(v,a,H',J,D,q):=l;show z JDq
 |next=>
  let(a,H',J,q):=l;show z (v:=V.vS) (u:=η.ε) Jζq
 |brk=>
  let(_,_,_,q):=l;show oA.Q5 q
 |cont=>
  let(_,_,_,q):=l;show oA.Q5 q
end
abbrev Qp! QAu QFO QPc QHR:TE:=λσHQ=>σ[i]?=δQOk/\tσH λvsH1=>sp vsH1Q fA
def JU QVT{ki:χ}{f:θ}{ub:uP}{d:η}QGn(F:mT X.Ω X.w X.K X.mg X.υ mskfupsB)(J:q4k X.A)(o:X.υ.Ξ f<*(d,n,.YN b,m))(N:p6 X.K ups [])(E:mPXQCfQP5)(O:qTX (e::c) t)(M:(Ψ (e::c) X.fN=QAh::Ψc X.fN)>>>4)(g:((pNb8^Ψc X.fN).I9 QBA=ν)>>>4):mPX (.Wm QCf (e::c) [] b8)^Qp! i fBt:=by
 intro a slHQ Ih;show y0 (nb (Ea slH (λvj=>v=.ο f/\j=H) I^.of h.1 (0,0)) λPCL=>?_);let(v,j,z,D,ζ,ζ):=L;obtain ζ:P=.ο f:=D;show Δ.W.callWith_F (d,n,b,m,(z.bs f_o).1) (nb (Ob8aClj_z h.2) λuss2h0=>h0.jW λvsRyrq=>((d,n,b,m,(y.bs f_o).1),3)) Mg;show oX! F J N .nS iFyr (by rw[vP];show q)
def Lm!(q:nV)(r:γη):∀l:γη,TriplesOk! l->YIq (l++r)=(YIql).or (YIqr)
 |[],_=>rfl
 |[x],h=>by cases x<;>show oA.Q5 h
 |[x,y],h=>by cases x<;>first|show oA.Q5 h|(cases y<;>show oA.Q5 h)
 |x::y::c::l,h=>by
  cases x<;>first|show oA.Q5 h|(cases y<;>first|show oA.Q5 h|(show(if _ then δc else YIq (l++r))=ψ.or (if _ then δc else YIql) _;split;rfl;show Lm! qrlh))
abbrev ol(c:θ)(q:bE):j7:=.ext λh=>h.Vt QAXq
abbrev z' QFO(cJbA:bE)(BP:zR)(body:γcZ)(g8:qA)QEv(c:θ):j7:=.ext λh=>∃cR pm ctv,h.Ξ f<*fnMade cJbABP body g8cUcR pm c ctv
inductive tZ QAH(P0:θ)QIO:Prop
 |mk (ps:_) (_:H P0<*.tbl ps) (_:TriplesOk! ps.Zh) (_:∀q∈hN,YI q.1 ps.Zh=ε\/∃c,YI q.1 ps.Zh=δQAX/\Hc<*(ol c q.2))
abbrev x8(P0:θ)QIA:Prop:=∀bo,b≠P0->Hb<*o->H'b<*o
structure HN QJx QAy:Prop where
 ex:∃bm o,mg "__builtins__"=δ^.ο bm/\bm≠builtinsNs!/\bm≠dG/\h.Ξ bm=δo/\o.dM=.TB "module"/\o.wF=δ builtinsNs!/\o.mY=.plain
abbrev Qq! QDl(P0:θ)QIO QAu(cJbA:bE)(BP:zR)(body:γcZ)QKm:oW:=λDσH=>tZH P0hN/\
 ∀QEv(fc:θ)QD4,QIP->QHL->Hf=ε->f≠c->x8P0HH1->tZH1P0hN->
  H1 c<*ol cbA->H1f<*z'fcJbABP body sc cUc->D.pO (σ.X6 iQOk) H1
def UK!(x:h.Vt QAXq):qNPwHhc^ol cq:=by
 let(g,a,vs,t,e,b,f,d):=id x;cases e;show(x,(a,b),λh1h2yk=>?_);let(g,a,vs,t,e,b,f,d):=y;cases e;show(_,a,vs,t,0,k_b,f,d)
def Qr!{P:nA}QGa(x:h.Ξ f<*fnMade cJbAaibgcR pm c l):qNPwHhf^z'fcJbAaibgc:=
 ((cR,pm,l,x),(_,x),λ__jk=>by let(d,p,v,e):=j;show(d,p,v,k_e))
def Al!{X:n8}{r:γ (θ×pZ)}{s:Θ}{σ:St}{jUE:η->Θ->Prop}{R:θ->m1->Prop}(C:γ (bE×θ)->η->θ->η->pZ)(F:γ (bE×θ)->θ->θ->j7)(dS:∀{i:γ (bE×θ)}{H':m1}{jP:n3}{f d:θ}{cRg:η},jP.Ξ f<*CicRdg->qN X.Ω X.w H'jPf^Fifd)(T:∀{i:γ (bE×θ)}{d:θ}{cRg:η},(CicRdg).isFreed=ν)(I:f'XrσH s)(dJ:vR X.υ c P0)(gF:HN X.υ X.mg)(eF:(b8,bA,)∈hN)(O:∀q∈hN,q.1.Zm=b8.Zm->q.1.col=b8.col->q.2=bA)(fJ:(sc.TW.u7 λy=>y.2 != .VC||X.fN.g8.TW.ς y.1==δ .aQ)=π)(UT:∀{i:γ (bE×θ)}{ps:pVη},closureFor! sc X.fN=pure i->s.ρ.Ns dG X.mg->vR s.ρ c P0->s.ρ.Ξ P0<*tabObj! ps->TriplesOk! ps.Zh->YIb8 ps.Zh=ε->dG≠P0->s.ρ.BuiltinsAt X.mg P0->
   (∀dgcRh'j8,n3.ExtBut P0 s.ρ h'->s⁻¹≤d->d<h'.u_.fC->h'.Vt (.ο d) bA->h'.Ξ P0<*tabObj! (ps++#[oV b8.Zm,oV b8.col,.ο d])->jU (.ο h'.u_.fC) {s with ρ:=h'.Uu^CicRdg,mU:=j8})->lZ (oP X.Ω X.w) X.A mk jUE s)(m2:∀{i:γ (bE×θ)}{ps:pVη}{c0:θ},closureFor! sc X.fN=pure i->s.ρ.Ns dG X.mg->vR s.ρ c P0->s.ρ.Ξ P0<*tabObj! ps->TriplesOk! ps.Zh->YIb8 ps.Zh<*.ο c0->s.ρ.BuiltinsAt X.mg P0->
   (∀(gcR:η)(h':n3)(j8:Tok),(∀bo,s.ρ.Ξ b<*o->h'.Ξ b<*o)->s⁻¹≤h'.u_.fC->jU (.ο h'.u_.fC) {s with ρ:=h'.Uu^CicRc0g,mU:=j8})->lZ (oP X.Ω X.w) X.A mk jUE s)(a4:∀{f:θ}{s1:Θ}{p:m1},f'Xrσp s1->Rfp->jU (.ο f) s1)(h:tZH P0hN/\∀(N:γ (bE×θ))(fc:θ)(p:m1),(∀ya,N.ς y<*a->X.fN.XL.ς y<*a)->(∀y∈sc.TW,y.2=.VC->∃a,N.ς y.1<*a)->Hf=ε->f≠c->x8P0Hp->tZp P0hN->p c<*ol cbA->pf<*F Nfc->Rfp):lZ (oP X.Ω X.w) X.A mk jUE s:=by
 let((ps,Z,fP,J),h):=h;let qP:∀y∈sc.TW,y.2=.VC->X.fN.F6 y.1<*.aQ:=λyd7e=>by
  let q:=T5.mp fJyd7;rw[e]at q;simpa[Env.F6]using q
 let(i,D,U,W):=lb! (fN:=X.fN) (sc:=sc) λyd7e=>I.ok.A7 y.1^.UR^qPyd7e;let aA:s.ρ.Ξ P0<*tabObj! ps:=I.rv P0_ Z;let Y:P0<s⁻¹:=I.rv.lt Z;let S:s.ρ.BuiltinsAt X.mg P0:=by
  let(bm,o,e1,e2,e3,e4,e5,AA,B0):=gF.ex;show(bm,o,e1,e2,e3,λz=>?_,(I.bs bm oe4).1,e5,AA,B0);let n:=(I.bs bm oe4).2;rw[z,Z]at n;cases n
 let an:s.ρ.Ns dG X.mg:=I.mod.glob.hL I.hU;let a9:dG≠P0:=λz=>by
  let(o,es,eP,e,hd,_):=an;rw[z,aA]at e;cases e;cases hd
 let a3:=dJ.hL I.hU;let a5:∀QBGQUL,Hb<*u->b<s⁻¹:=λe=>I.rv.lt e;rcases J_eF with a8|⟨c0,aU,aV⟩
 .refine UTD an a3aAfPa8a9S λdgcRh'j8a6 ap aTfMa7=>?_;let g7:P0≠d:=p8^pPY ap;let v:s⁻¹<h'.u_.fC:=VM ap aT;let a2:P0≠h'.u_.fC:=p8^zPYv;let eI:d≠h'.u_.fC:=p8aT;generalize bd:h'.u_.fC=f at a2 eI v⊢;let C9:∀bo,b≠P0->s.ρ.Ξ b<*o->(h'.Uu QHj).Ξ b<*o:=λboje=>nN_^a6boje;let aN:(h'.Uu QHj).Ξ f<*CicRdg:=by rw[<-bd];show t8_ T
  let aS:(h'.Uu QHj).Vt QDCbA:=by
   let(c2,uF,vs,t,e,e1,e2,e3):=fM;show(c2,uF,vs,t,e,nN_e1,e2,e3)
  let Q:(h'.Uu QHj).Ξ P0<*tabObj! (ps++#[oV b8.Zm,oV b8.col,.ο d]):=nN_a7;generalize h'.Uu QHj=jP at C9 aN aS Q⊢;generalize al:ps++#[oV b8.Zm,oV b8.col,.ο d]=ps' at Q;let dN:∀QBG,b<s⁻¹->b≠d/\b≠f:=λj=>(p8^pPj ap,p8^zPjv);let M:∀QBG,b<s⁻¹->b≠P0->mEQA2fQJSb=Hb:=λj S=>by
   rw[a' (dNj).2,a' (dNj).1,a'S]
  let ab:∀QBG,b≠P0->b≠d->b≠f->mEQA2fQJSb=Hb:=λh1h2h3=>by
   rw[a'h3,a'h2,a'h1]
  let B:mEQA2fQJSP0<*.tbl ps':=by rw[a'a2,a'g7,hJ]
  let x:mEQA2fQJSd<*ol dbA:=by rw[a'eI,hJ]
  let L:mEQA2fQJSf<*Fifd:=hJ;generalize mE QA2 f QJS=p at M ab B x L;let nP:∀QBG,Hb=ε->b≠P0:=λnz=>by rw[z,Z]at n;cases n
  let m:∀QBGQUL,Hb<*u->b≠P0->pb<*u:=λej=>by rw[M (a5e) j];show e
  let l:∀QBGQUL,Hb<*u->(∀ps,u≠.tbl ps)->pb<*u:=λehO=>me λz=>by
   rw[z,Z]at e;cases e;show hO_ζ
  let un:rJ X.fs [] Hp s.ρ jP:=by
   show(λboen__=>C9bo (nPn) e,λboen__=>(o.slots,C9bo (nPn) e),λboen_=>by rw[MQS'^nPn];show n,λboe_=>?_,λbxse=>l eQAC,λboue=>l eQAC,λbqse=>?_)
   .by_cases j:b=P0
    .rw [j];show(_,Q)
    .exact (o,C9boje)
   .by_cases j:b=P0
    .rw [j,Z]at e;cases e;rw[j];show(_,by rw[B,al])
    .exact (#[],by rw[mej];simp)
  let aM:y' X.Ω X.w pjP:=λaoe=>by
   by_cases a0:a=f
   .rw [a0]at e⊢;rw[L]at e;cases e;show dSaN
   by_cases a1:a=d
   .rw [a1]at e⊢;rw[x]at e;cases e;show UK! aS
   by_cases eW:a=P0
   .rw [eW]at e⊢;rw[B]at e;cases e;show Q
   rw[ab eWa1a0]at e;show(I.rv aoe).Zx (λbujq=>C9buQJTq) (λbq=>lqQAC) λbxsq=>lqQAC;rcases j with j|j
   .exact eW (j▸z)
   .rw [z,Z]at j;cases j
  let kM:f'Xrσp {s with ρ:=jP,mU:=j8}:=I.un un aM;show a4kM^hifdp U W (I.rv.ax^Xsv) (Ne.UH eI) (λboje=>mej) (ps',B,3,λq P=>?_) xL
  .rw [<-al,pV.toList_append];show TriplesOk_snoc! ____fP
  .rw [<-al,pV.toList_append,Lm! ___fP];rcases Jq P with g9|⟨c1,h1,h2⟩
   .rw [g9,ψ.none_or];by_cases k:q.1.Zm=b8.Zm/\q.1.col=b8.col
    .refine .P2 (d,3,3)
     .change YI q.1 [oV b8.Zm,oV b8.col,.ο d]=_;simp[YI,oV,k.1,k.2]
     .rw [Oq P k.1 k.2];show x
    .refine .UR ?_;change YI q.1 [oV b8.Zm,oV b8.col,.ο d]=_;simp only[YI,oV];rw[mF];intro z;simp at z;show k (9,9)
   .rw [h1,ψ.some_or];show .P2 (c1,0,lh2QAC)
 .refine m2D an a3aAfPaUS λgcRh'j8hZ hsz=>?_;let kM:f'Xrσ (mEH h'.u_.fC QUm) {s with ρ:=h'.Uu^CicRc0g,mU:=j8}:=
   I.laid (λbue=>nN_^hZbue) hsz (dS^t8_ T)
  let as:H h'.u_.fC=ε:=I.rv.ax hsz;let ZN:∀QBGQUL,Hb<*u->mEH h'.u_.fC QUmb<*u:=λe=>by rw[a'^oZe as];show e
  show a4kM (hi_c0_ U W as (Ne.UH^oZaV as) (λbo_e=>ZNe) (ps,ZNZ,fP,λq P=>?_) (ZNaV) hJ);rcases Jq P with g9|⟨c1,h1,h2⟩
  .exact .UR g9
  .exact .P2 (c1,h1,ZNh2)
def FU QVT{l:zR}{m:γcZ}{sc:qA}(L:X.N.qg)(E:X.N[i]?<*cJ)(B:yJ X.fN.g8 cJ)QTe(M:vR X.υ c P0)(O:HN X.υ X.mg)(p:(b8,bA,)∈hN)(o:∀q∈hN,q.1.Zm=b8.Zm->q.1.col=b8.col->q.2=bA)(C:(qualnameIn! X.fN cJcJ=bA)>>>4)(u:(l.defaults=[])>>>4)(t:(l.kw_defaults=[])>>>4)(J:(annTrees! lε X.fN=[])>>>4)(r:QAT>>>4)(F:(X.fn cJ=π\/X.fN.g8.TW.ς cJ<*.local)>>>8):w0X (.FunctionDef cJlm [] ε [] sc εcJb8)^Qq! X P0hNicJbAlm sc:=by
 intro A s RHD Ih;show Δ.W.nestDef_K ut J ?_;rw[C];show Al! (λxcRzw=>fnMade cJbAlm sc xcR ((X.mg "__name__").TC .ε) zw) (λxfz=>z'fcJbAlm sc x z) Qr! ζ I M Opor (λa b de fgijk=>Δ.W.makeFunction_K (mg:=X.mg) a I.ok.glob b ndefgijk) (λa b de fgik=>Δ.W.makeFunction_hit (mg:=X.mg) a I.ok.glob b ndefgik)
  (λPq=>RTPL EB (v:=.ο _) ζ (λs'Q=>(7,Q,q)) F) h
abbrev x4(U:γθ)QAH:m1:=λb=>if b∈U then ε else Hb
abbrev retr(U:γθ)QIA:m1:=λb=>if b∈U then Hb else H'b
def JV(h:b∈U):x4UHb=ε:=mGh
def tT(h:b∉U):x4UHb=Hb:=mFh
def MR(h:b∈U):retr UHH'b=Hb:=mGh
def DO(h:b∉U):retr UHH'b=H'b:=mFh
def Mod.hL QC1(M:Mod K mg h)(k:∀bo,h.Ξ b<*o->h'.Ξ b<*o):Mod K mg h':=
 (M.kin.hL k,M.glob.hL k,(by let(c,a,b):=M.blt;show (c,a.hL k,b)),M.nolimit.hL k)
section
variable{P:nA}{w:o4}{K:qI}{mg:bE->ψη}{υ:n3}{A:o7}{b7:γ Env}{s:Θ}{H:m1}{U:γθ}
def lq!(f:AZPwK mg υ Ab7sH)(l:∀u∈U,∃φ,Hu<*.ext φ):∃c,AZPwK mg c Ab7sQTf/\(∀bo,υ.Ξ b<*o->c.Ξ b<*o)/\∀bo,s.ρ.Ξ b<*o->b∉oJb7->x4UHb=ε->c.Ξ b<*o:=by
 let h:∀bo,s.ρ.Ξ b<*o->b∉oJb7->x4UHb=ε->(zS s.ρ QGM).Ξ b<*o:=λboerp=>DW_e λk=>by
  rcases lp.mp k with z|z
  .let q:(QTfb).BC=π:=(P5.mp z).2;rw[p]at q;cases q
  .exact rz
 let g:∀b,Hb=ε->b∉U:=λb nz=>by
  let(φ,e):=lbz;rw[n]at e;cases e
 let hG:∀bo,υ.Ξ b<*o->(zS s.ρ QGM).Ξ b<*o:=λboe=>by
  let(j,n):=f.bs boe;show hbojQJT (by rw[tT^gbn];show n);have:=(f.funs.mem z).1;rw[e]at this;cases this
 let d:∀QBGQUL,Hb<*u->(∀φ,u≠.ext φ)->x4UHb<*u:=λ{bu}em=>by
  rw[tT λz=>?_]
  .exact e
  .obtain ⟨φ,e'⟩:=lbz;rw[e]at e';show mφ^ψ.δ.WZ e'
 show(zS s.ρ QGM,(f.Xe,f.mod.hL hG,λboe=>?_,G'^Δ.W.hideAll_size __,L9 f.funs λb i=>F5_i,λb i=>?_,λaoe=>?_,f.pH),hG,h)
 .let j:=of_hideAll! _e;show(j,3);cases q:x4UHb with
  |ε=>rfl
  |δ u=>
   let k:b∈O7 s.ρ QTf++oJb7:=XS_^P5.Ui (Ug.Ui^oNj,by simp[q]);rw[I7_k]at e;cases e
 .rw [tT^gb^f.frf b i];show f.frf b i
 .let t:a∉U:=λz=>by rw[JVz]at e;cases e
  rw[tTt]at e;show(f.rv aoe).Zx (λ___q=>q) (λbq=>dqQAC) λbxsq=>dqQAC
def ej!(C:AZPwK mg υ Ab7sH)(y:∀u∈U,∃φ,Hu<*.ext φ)(h:CEb7PwQTfs (λv E=>(∀u∈U,Eu=ε)->Qv^retr UH E) u s'):CEb7PwH sQu s':=by
 let(v,H',os,p,un,B,r,q):=h;let d:∀b,Hb=ε->b∉U:=λb nz=>by
  let(φ,e):=ybz;rw[n]at e;cases e
 let k:∀b∈U,b∉oJb7:=λbcz=>db (C.frf bz) c;let f:∀b∈U,∃o,s.ρ.Ξ b=δo/\s'.ρ.Ξ b=δo/\H'b=ε:=λbc=>by
  let(φ,e):=ybc;let(_,(o,m),_):=C.rv b_e;show(o,m,un.AP bom (JVc) (kbc) (!1),un.VC bom (JVc) (!1))
 let g:∀QBG{x:j7},Hb<*x->(∀φ,x≠.ext φ)->b∉U:=λ{bx}ejz=>by
  let(φ,e'):=ybz;rw[e]at e';show jφ^ψ.δ.WZ e'
 let i:∀QBG{x:j7},H'b<*x->retr UHH'b<*x:=λ{bx}e=>by
  rw[DO λz=>?_]
  .exact e
  .obtain ⟨_,_,_,n⟩:=fbz;rw[e]at n;cases n
 show(v,retr UHH',os,p,(λboencj=>?_,λboencj=>?_,λboenj=>?_,un.Xq,λbxse=>?_,λboxe=>?_,λbpse=>?_),λaoe=>?_,r,q λbc=>(fbc).choose_spec.2.2)
 .exact un.AP boe (by rw[tT^dbn];show n) cj
 .exact un.slot boe (by rw[tT^dbn];show n) cj
 .rw [DO^dbn];show un.VC boe (by rw[tT^dbn];show n) j
 .let c:=geQAC;rw[DOc];show un.Xk bxs (by rw[tTc];show e)
 .let c:=geQAC;rw[DOc];show un.frzs box (by rw[tTc];show e)
 .let c:=geQAC;rw[DOc];show un.tbls bps (by rw[tTc];show e)
 .by_cases t:a∈U
  .rw [MRt]at e;let(φ,e'):=yat;rw[e']at e;cases e;let(o,m,l,_):=fat;let(F,_,D):=C.rv a_e';show(D__ F (λIz=>by rw[m]at z;cases z;show l),(o,l),D)
  .rw [DOt]at e;show(Baoe).Zx (λ___z=>z) (λbz=>iz) λbxsz=>iz
end
structure bv QDl(U:γθ)QCC QAH(base':n3):Prop where
 hG:∀bo,X.υ.Ξ b<*o->base'.Ξ b<*o
 mod!:Mod X.K X.mg base'
 ext:∀uφ,u∈U->Hu<*.ext φ->φ base'
 WZ:∀yzc,X.fN.XL.ς y<*c->X.fN.XL.ς z<*c->y=z
 aQ!:∀yc,X.fN.XL.ς y<*c->∃v,base'.vr cv
 val!:∀QAu(y:bE)(v:V),X.N[i]?<*y->σ[i]?<*δv->X.fN.g8.TW.ς y<*.aQ->∃cu,X.fN.XL.ς y=δc/\base'.vr cQP3/\nTvu
abbrev Qs QDl QFO(fd:uP)QGU(dvs:γ V)QHR:TE:=λσHQ=>tσH λvsH1=>∃U:γθ,QKy/\∀base':n3,bv X UσH1 base'->
 ∃(k:χ)(sp:wY),q4k X.A/\mT X.Ω X.w X.K X.mg base' mskf fd ps sp/\sp QEi (x4UH1) QF1fA
def JW QVT{f:θ}QGn(gE:pUXx)(hm:X.mg x<*.ο f)(hZ:Y7 X.K QAr=π)(cY:p6 X.K fd psds)(hd:oG dvs ds)QUn(M:∀y,X.fn y=π)(O:((x==("__debug__":bE))=ν)>>>0)QHk(E:QKQ>>>4):mPXQPg^Qs Xf fd ps dvs t:=by
 intro l s RHQ Ih;show y0 (CGIgE hm ?_ O);show callWith_K! (h₀:=X.υ) I.ok.mod.kin hZ (nb (eMb8l s RH_ Ih) λusDh0=>h0.jW λvsH1brq=>(b.kIn,3)) he E;let(U,Z,q):=q;let(a,e0,n,j):=lq! b.env0 Z;let d:∀ycv,X.fN.XL.ς y<*c->D.ρ.vr cv->a.vr cv:=λycvg P=>by
  let(o,T,N):=P;let Y:=b.freeC ycg;show(o,jco TQJT ?_,N)
  .rcases u3.mp (b.stkSub cz)with z|z
   .exact b.cne ycgz
   .obtain ⟨_,o',J,_⟩:=b.ok.funs.mem z;show mW (oNJ)^not_lt.Ui^b.ok.cab yc (My) g
  .unfold x4;split
   .rfl
   .exact Y
 let W:bv X U RH1a:=by
  show(n,e0.mod,λuφhOe=>?_,b.ok.WZ,λycg=>?_,λiyve1e2e3=>?_)
  .obtain ⟨p1,⟨o,T⟩,p3⟩:=b.rv u_e;show p3__p1 λo2z=>juo2z (λy=>?_)^JVhO;rw[b.stkFree uy]at e;cases e
  .obtain ⟨v,z⟩:=b.aQ ycg;show(v,dycvgz)
  .obtain ⟨m,Y,L⟩:=b.loc;let(u,V6,lk):=Liyve1e2^.P2^.UR e3;rcases lk with⟨k1,_⟩|⟨_,c,g,z⟩
   .have:X.fN.g8.TW.ς y<*.local:=k1;rw[e3]at this;cases this
   .exact QPh
 let(k,sp,cT,F,w):=qa W;let S:oGQEiQLa:=r.append hd;let L:(us++ds).β=ps.β:=by rw[<-S.β];show F.eN ____w
 show zO (BS (F.n6 X.A X.US D (x4UH1) QL9QLaQEi_fAcTe0 (cYDus b.kIn L) Sw) λr s'B=>?_);cases r with
 |G2 e=>show oA.Q5 B
 |ok j6=>
  cases j6 with
  |ret u=>show b.after^ej! b.env0 ZB
  |next=>show oA.Q5 B
  |brk=>show oA.Q5 B
  |cont=>show oA.Q5 B
abbrev yF QTg QAw:qI:=K.Wo λq=>!ts.Hr q.1
def FV{ts:γθ}QJB(d:ts.Hr a=ν):∀QC1,(yFtsK).ς a=K.ς a
 |[]=>rfl
 |(b,x)::r=>by
  unfold yF;rw[γ.filter_cons];by_cases e:a=b
  .subst e;rw[mGQTh,zJ,zJ];simp
  .let c:(a==b)=ν:=Ul.Ui e;split
   .rw [zJ,zJ,c];show FV (K:=r) d
   .rw [zJ,c];show FV (K:=r) d
def XY{ts:γθ}QJB{o:pZ}:∀QC1,(yFtsK).ς a<*o->ts.Hr a=ν
 |[],e=>by cases e
 |(b,x)::r,e=>by
  unfold yF at e;rw[γ.filter_cons]at e;split at e
  .rename_i d;rw[zJ]at e;by_cases c:a=b
   .subst c;simpa using d
   .rw [Ul.Ui c]at e;show XY (K:=r) e
  .exact XY (K:=r) e
def HD! QC1(e:K.ς a<*o)(b:ts.Hr a=ν):(yFtsK).ς a<*o:=(FVb).ξ e
def BB! QC1(e:nsIn Kax=r)(b:ts.Hr a=ν):nsIn (yFtsK) ax=r:=by
 unfold nsIn at e⊢;rw[FVb];show e
def JX! QC1(e:t9KQAXx=π)(a:ts.Hr c=ν):t9 (yFtsK) QAXx=π:=by
 unfold t9 at e⊢;dsimp only at e⊢;rw[FVa];show e
structure Oj! QAw(q:θ×θ):Prop where
 code:∃ovs file! tf! flags! dV inF! text! tt,K.ς q.1=δo/\o.dM=.TB "code"/\o.mY=.xq vs/\vs[11]?=δ^.ο q.2/\vs.TC 11 .ε=.ο q.2/\vs.TC 18 .ε=.uM file! tf!/\vs.TC 7 .ε=.tV flags! dV/\vs.TC 9 .ε=.bC inF!/\vs.TC 10 .ε=.tV text! tt/\q.1≠q.2
 tab!:K.ς q.2<*(tabObj! #[])
abbrev ZJ QAw(jI:γ (θ×θ)):wY:=λvsHQ_=>∃(a:θ)(ns:γω),vs=[.ο a]/\pGKHaQBI/\ns.β≤63/\(∀q∈jI,H q.2<*QIQ)/\∀H',Q QLZH'
def Ud!(x:vRhc P)(k:∀o,o.dM=.TB "code"->h.Ξ c<*o->h'.Ξ c<*o):vRh'c P:=by
 let(o,vs,d,j,a,i,f,b,tt,e,g,r):=x;show(o,vs,d,j,a,i,f,b,tt,koge,g,r)
def ri!{P:nA}QGa QC1(W3:K.In i.ρ)(hT:∀q∈jI,Oj! Kq)(W:i.ρ.Ns dG mg)(gF:HN i.ρ mg)(t:i.ρ.Ns builtinsNs! UY)(ap:∀x:bE,x≠"__name__"->UYx=Y2x)(Y:i.ρ.NoLimit)(gE:i.PF=#[])(Q:i.ρ.Ξ a<*{dM:=.TB "list",mY:=.Yv vs.Λ})(g6:IntsAre vsns)(eG:ns.β≤63)(cT:q4k callerA!)(F:∀υ:n3,(yFQDvK).In υ->υ.Ns dG mg->HNυ mg->QNU->mTPwQKR mg υmskg0 fd [x]^ZJQKRjI)(O:∀QCDQVK,BindsTo! s fd ([u],[]) [(x,u,)]):wIQBE callerA! QMMQDFi:=by
 let RF:=e_e! g6;let T:=g6.β;let X:ns.β≤Φ:=n5eG (by rw[w9];decide);let A:∀q∈jI,i.ρ.Ξ q.2<*(tabObj! #[]):=λqp=>W3__ (hTqp).tab;let hd:∀q∈jI,vR i.ρ q.1 q.2:=λqp=>by let(o,vs,a,b,c,d,e,f,g,l,r):=(hTqp).code;show(o,vs,a,b,c,d,e,f,g,W3__l,r)
 let inT:∀QBG,(jI.Tx QBu).Hr b=π->∃q∈jI,q.2=b:=λ{b}t=>by
  rw[Xn!]at t;let(q,p,e):=WB.mp t;show(q,p,e)
 let D:∀{q:θ×θ},q∈jI->(jI.Tx QBu).Hr q.2=π:=λ{q}p=>by
  rw[Xn!];show γ.mem_map_of_mem p
 let aT:(jI.Tx QBu).Hr a=ν:=by
  cases z:(jI.Tx QBu).Hr a with
  |ν=>rfl
  |π=>
   let(q,p,e):=inT z;let C:=Aqp;rw[e,Q]at C;cases C
 let M:∀H:m1,pGQKRHaQBI->y'PwH i.ρ->(∀b,Hb=ε\/(b=a/\K.ς a=ε/\Hb<*.frz {dM:=.TB "list",mY:=.Yv vs.Λ}^.P' QBI)\/((jI.Tx QBu).Hr b=π/\Hb<*QIQ))->
   (∀q∈jI,H q.2<*QIQ)->
   wI QBE callerA! QMM QDF i:=by
  intro HhSU ru! as;let j:∀QBG{o:pZ},i.ρ.Ξ b<*o->Hb=ε->(N8 i.ρ H).Ξ b<*o:=λen=>xC! en;let freeOf!:∀QBG{o:pZ},i.ρ.Ξ b<*o->b≠a->o≠tabObj! #[]->Hb=ε:=λ{bo}e N an=>by
   rcases ru! b with z|⟨z,_⟩|⟨z,_⟩
   .exact z
   .exact mWz N
   .obtain ⟨q,p,L⟩:=inT z;let C:=Aqp;rw[L,e]at C;show mW (ψ.δ.WZ C) an
  let E:∀QBGQH',i.ρ.Ns b m->(N8 i.ρ H).Ns b m:=λ{b m}fJ=>by let(o,es,eP,e,d,r):=fJ;show(o,es,eP,je (freeOf! e (λz=>by rw[z,Q]at e;cases e;cases d)^λz=>by rw[z]at d;cases d),d,r)
  let ab:(yFQDvK).In QIn:=λboe=>by
   let g9:=XYe;let C:=W3bo^(FVg9).UH.ξ e;show jC ?_;rcases ru! b with z|⟨z,S,_⟩|⟨z,_⟩
   .exact z
   .rw [FVg9,z,S]at e;cases e
   .rw [g9]at z;cases z
  let eW:HNQIn mg:=by
   let(bm,o,C,L,e3,R,e5,AA,B0):=gF.ex;show(bm,o,C,L,e3,j R (freeOf! R (λz=>by rw[z,Q]at R;cases R;cases B0)^λz=>by rw[z]at B0;cases B0),e5,AA,B0)
  let eI:∀q∈jI,vRQIn q.1 q.2:=λqp=>Ud! (hd qp) λo Ze=>je (freeOf! e (λz=>by rw[z,Q]at e;cases e;injection Z with Z;show mWZ (!0))^λz=>by rw[z]at Z;cases Z);let hM:Mod QKR mg QIn:=(ab,E W,(UY,Et,ap),by let(mc!,h1,h2):=Y;show (mc!,Eh1,h2));let e0:AZPwQKR mg QIn callerA! [] iH:=(0,hM,λboe=>zX! e,G'^ul! __,trivial,λbt=>mW (show b∈([]:γθ)from t) (!1),U,.of_eq gE);show BS ((F_ ab (E W) eWeI).n6 callerA! [] iH ([.ο a],[]) [.ο a] [.ο a] (λv_=>v=.dW π) (λ___=>oA) cTe0 (OiQAe) QD0 (a,ns,0,hS,eG,as,λ_=>rfl)) λr s'h=>?_;cases r with
  |G2 e=>show oA.Q5 h
  |ok j6=>
   cases j6 with
   |next=>show oA.Q5 h
   |brk=>show oA.Q5 h
   |cont=>show oA.Q5 h
   |ret u=>
    let(v,H',os,eF,un,J,r',q):=h;let q':v=.dW π:=q;subst q';obtain ζ:u=η.bC π:=r';show(0,(λboe=>?_,λboe=>un.Xq boe (!1)),os,eF);rcases ru! b with z|⟨z1,_,z⟩|⟨z1,z⟩
    .exact .UR^un.AP boez (by intro y;show mW (show b∈([]:γθ)from y) (!1)) (!1)
    .obtain ⟨C,_⟩:=Ub_z;let(L,_):=Jb_^un.frzs b__z;rw[e]at C;cases C;show .UR L
    .obtain ⟨q,p,L⟩:=inT z1;let(jA,z3):=un.tbls b_z;let e3:s'.ρ.Ξ b<*{dM:=.ε,mY:=.xq (#[]++jA)}:=Jb_z3;let R:=Aqp;rw[L,e]at R;cases R;show .P2^.UR (3,0,#[],jA,0,e3);have:=((hd qp).tab^Aqp).isCodeTable;rw[L]at this;show this
 let al:∀QGrQBG,(jI.Tx QBu).Hr b=π->qNPwH i.ρ bQIQ:=λ{Hb}z=>by
  let(q,p,e):=inT z;let C:=Aqp;rw[e]at C;show C
 cases hZ:K.ς a with
 |δ o=>
  let e:=W3aohZ;rw[Q]at e;cases e;show M (λb=>if (jI.Tx QBu).Hr b=π then δQIQ else ε) (.P2 (_,vs.Λ,_,(FVaT).ξ hZ,5,0,by rw[q9,T];show X,by simpa using RF)) (λbuz=>?_) QMN (λqp=>mG^Dp)
  .by_cases t:(jI.Tx QBu).Hr b=π
   .let I:=(mGt).UH.ξ z;cases I;show al t
   .let I:=(mFt).UH.ξ z;cases I
  .by_cases t:(jI.Tx QBu).Hr b=π
   .exact .P2^.P2 (t,mGt)
   .exact .UR^mFt
 |ε=>
  show M (λb=>if b=a then δ (.frz {dM:=.TB "list",mY:=.Yv vs.Λ}^.P' QBI)else if (jI.Tx QBu).Hr b=π then δQIQ else ε) (.UR^.P2 ({dM:=.TB "list",mY:=.Yv vs.Λ},mGζ)) (λbuz=>?_) QMN (λqp=>?_)
  .by_cases t:b=a
   .let I:=(mGt).UH.ξ z;cases I;subst t;show(Q,by rw[j'];show X,vs,_,RF,Q)
   .let I:=(mFt).UH.ξ z;by_cases B:(jI.Tx QBu).Hr b=π
    .let S:=(mGB).UH.ξ I;cases S;show al B
    .let S:=(mFB).UH.ξ I;cases S
  .by_cases t:b=a
   .exact .P2^.UR (t,hZ,mGt)
   .by_cases B:(jI.Tx QBu).Hr b=π
    .exact .P2^.P2 (B,(mFt).ξ^mGB)
    .exact .UR^(mFt).ξ^mFB
  .let N:q.2≠a:=λz=>by
    have:=Dp;rw[z,aT]at this;cases this
   show(mFN).ξ^mG^Dp
def El!{l:Δ.W.OpenLaw}{K:Params!->qI}(I:l.most<*63)(r:d.BP.defaults=[])(H:q4k callerA!)(N:∀p,∀q∈jI,Oj! (Kp) q)(F:∀(w:o4)(mg:bE->ψη)(g0:θ)(h:n3),(yF (jI.Tx (·.2))^K w.BP).In h->h.Ns dG mg->mg d.cJ<*.ο g0->
   ∃v:uP,(∀QCDQVK,BindsTo! sv ([u],[]) [(x,u,)])/\∀υ:n3,(yFQDv^K w.BP).In υ->υ.Ns dG mg->HNυ mg->QNU->
    mT l.Ω w (yF (jI.Tx (·.2))^K w.BP) mg υ ms k g0 v [x] (ZJ (yF (jI.Tx (·.2))^K w.BP) jI)):Δ.W.WalkO q loose! Lk! (λwh=>(K w.BP).In h) l.row.toRowW d [] (λf vs=>Δ.wG f vs):=by
 show Att.Cn Ir λwBc mg Xg0o pm cd cRavsnsG Y ZCLnjim J=>?_;let D:(K w.BP).In c.ρ:=Y;let U:(yFQDv^K w.BP).In c.ρ:=λboe=>Dbo^(FV^XYe).UH.ξ e;let(v,M,O):=Fw mg g0_ U G.T.g n;let(bm,E,S,R,A,Q,P,y):=G.T.bmain;let t:bm≠dG:=λz=>by
  let(o,es,eP,e,C,_):=G.T.g;rw[z,e]at A;cases A;rw[C]at y;cases y
 show ri! D (N w.BP) G.T.g (bm,E,S,R,t,A,Q,P,y) G.T.b G.T.builtins G.T.nolimit JjimH O M
inductive uJ where
 |lY QFJ (k:Tok)|xJ (a:θ)|ls (a:θ)
namespace uJ
abbrev eT:uJ->V
 |.lY x _=>.uM x
 |.xJ a=>.ο a
 |.ls a=>.ο a
abbrev z6:uJ->η
 |.lY x t=>.uM xt
 |.xJ a=>.ο a
 |.ls a=>.ο a
abbrev pl:uJ->θ->χ->n3->Prop
 |.lY x t,it,i,h=>Uz.Dd xt it ih
 |.xJ a,it,i,h=>h.IsTupleIter it ai
 |.ls a,it,i,h=>h.IsListIter it ai
abbrev it0!:uJ->pZ
 |.lY x t=>Uz.EC xt
 |.xJ a=>Uz.CL a
 |.ls a=>{dM:=.TB "list_iterator",mY:=.xq #[.ο a,.tV 0 0]}
abbrev b5:uJ->pVη->n3->Prop
 |.lY _ _,_,_=>vN
 |.xJ a,eE,h=>h.Yn aeE
 |.ls a,eE,h=>h.IsList aeE
abbrev A7:uJ->m1->γ V->Prop
 |.lY x _,_,xs=>xs=x.Ym.Zh.Tx λc=>V.uM ⟨#[c]⟩
 |.xJ a,H,xs=>Ha<*.iT xs
 |.ls a,H,xs=>Ha<*.P' xs
end uJ
def hu! QTi(e:h.Ξ it<*d.it0):d.pl it 0 h:=by
 cases d with
 |lY x t=>show(_,e,5)
 |xJ a=>show(_,e,5)
 |ls a=>show(_,e,5)
def gB!(d:uJ):d.it0.isFreed=ν:=by cases d<;>rfl
namespace Uz
abbrev Kw! QJx(o1o2:pZ):n3:=
 ((((h.Uu o1).Uu o2).Uu {dM:=.TB "tuple",mY:=.Yv #[.ο h.u_.fC,.ο QSJ]}).Uu {dM:=.TB "tuple",mY:=.Yv #[.ε,.ε]}).Uu
  {dM:=.TB "zip",mY:=.xq #[.ε,.bC ν,.bC ν,.ο (h.u_.fC+2),.ο (h.u_.fC+3)]}
section
variable{Ω:nA}{w:o4}{A:o7}{E:η->Θ->Prop}{s:Θ}
def xw!(c:s.ρ.IsList a b)(h:Q QAY {s with ρ:=s.ρ.Uu (uJ.ls a).it0}):lZQASAQKxQ E s:=T9ch
def Qt!(h:Q QAY {s with ρ:=s.ρ.Uu (uJ.lY xt).it0}):lZQASA (pyIter QL1) Q E s:=uh! h
def Qu!(c:s.ρ.Yn a b)(h:Q QAY {s with ρ:=s.ρ.Uu (uJ.xJ a).it0}):lZQASAQKxQ E s:=xv! c h
end
instance Qw! QNv:Prop:=∀xsys:pVη,Meets! (Builtin.«zip.__new__» ([.TB "zip",d1.z6,d2.z6],[])) (λ_ R s=>d1.b5 xs s.ρ/\d2.b5 ys s.ρ/\R (.ok^.ret^.ο (s⁻¹+4)) {s with ρ:=Kw! s.ρ d1.it0 d2.it0})
def TR QTi(b5:d.b5 eE s.ρ)(h:Q QAY {s with ρ:=s.ρ.Uu d.it0}):lZQASA (pyIter d.z6) Q E s:=by
 cases d with
 |lY x t=>show Qt! h
 |xJ a=>show Qu! b5h
 |ls a=>show xw! b5h
def Qx! QTi(h:d.b5 eEg):d.b5 eE^g.Uu o:=by
 cases d with
 |lY x t=>show h
 |xJ a=>show IsTup.hL h λoe=>nN_e
 |ls a=>show n3.IsList.Uu h_
def Me! QNv:Qw! d1d2:=λxsys=>.of_wp λΩw A R sh=>by
 let(b5,g,d,e,os):=s;let(c,a,h):=h;let b:=sub_zip!;let a:=Qx! (o:=d1.it0) a;change lZ__ (Builtin.«zip.__new__» ([.TB "zip",d1.z6,d2.z6],[])) ___
 wp_walk using TRc,TRa
 show(2,3);simp only[Kw!]at h;simpa[yW,Builtin.Wy.ownedTupleFields,χ.add_assoc]using h
section
variable{Ω:nA}{w:o4}{A:o7}{E:η->Θ->Prop}{s:Θ}
def Dk!{d1d2:uJ}(j:d1.b5 xs s.ρ)(i:d2.b5 ys s.ρ)(h:∀h',IsZip h' (s⁻¹+4) (s⁻¹+2) (s⁻¹+3) .ε->tEh' (s⁻¹+2) (.ο s⁻¹)^.ο (s⁻¹+1)->tEh' (s⁻¹+3) .ε .ε->
   d1.pl s⁻¹ 0 h'->d2.pl (s⁻¹+1) 0 h'->(∀c o,s.ρ.Ξ c<*o->h'.Ξ c<*o)->Q (.ο (s⁻¹+4)) {s with ρ:=h'}):lZ (oPΩw) A (wG (.TB "zip") [d1.z6,d2.z6]) Q E s:=by
 show callType_new! F.called_zip (!0) (F.typeCall_zip_2 __) (F.newCall_zip_2 __) (λb=>F.args_object_init_3 b__) F.entry_zip_new (Me! d1d2xsys) (j,i,3);let a:∀(g:n3)(o:pZ)QCv,g.u_.fC=n->o.isFreed=ν->(g.Uu o).Ξ n<*o:=λg onef=>by rw[<-e];show t8gf
 let d:IsZip (Kw! s.ρ d1.it0 d2.it0) (s⁻¹+4) (s⁻¹+2) (s⁻¹+3) .ε:=a___ (by simp[yW]) ζ;show((_,d,0),h_d (nN_^nN_^a___ (by simp[yW]) ζ) (nN_^a___ (by simp[yW]) ζ)
  (hu!^nN_^nN_^nN_^nN_^a___ζ^gB! _) (hu!^nN_^nN_^nN_^a___ (by simp[yW])^gB! _)
  λc oe=>nN_^nN_^nN_^nN_^nN_e)
end
end Uz
abbrev LF(d1d2:uJ):zI:=⟨λiH=>∃xsysab,d1.A7 Hxs/\d2.A7 Hys/\xs[i]?=δa/\ys[i]?<*b,λiHvH'=>∃pxsysab,d1.A7 Hxs/\d2.A7 Hys/\xs[i]?=δa/\ys[i]?=δb/\v=.ο p/\Hp=ε/\H'=mEHp^.iT [a,b],
 λiH=>∃xsys,d1.A7 Hxs/\d2.A7 Hys/\xs.β=ys.β/\i=xs.β⟩
def PN QTi(x:d.pl it ih):∃o,h.Ξ it=δo/\∀v,o.mY≠.aQ v:=by
 cases d with
 |lY y t=>let(o,e,_,dd):=x;show(o,e,λvq=>by rw[dd]at q;cases q)
 |xJ a=>let(o,e,_,dd):=x;show(o,e,λvq=>by rw[dd]at q;cases q)
 |ls a=>let(o,e,_,dd):=x;show(o,e,λvq=>by rw[dd]at q;cases q)
def GR QTi(x:d.pl it ih)(k:∀o,h.Ξ it<*o->h'.Ξ it<*o):d.pl it ih':=by
 cases d with
 |lY y t=>let(o,e,r):=x;show QN_
 |xJ a=>let(o,e,r):=x;show QN_
 |ls a=>let(o,e,r):=x;show QN_
def UO{f:St}QTi(I:f'XbfH s)QKS:∃eE,d.b5 eE s.ρ:=by
 cases d with
 |lY y t=>show(#[],vN.Vw)
 |xJ a=>
  let(eE,_,p,_):=I.Xp (n'.of^show Ha=_ from h);show(_,p)
 |ls a=>
  let(eE,_,(o,n,e,c,_,dd),_):=I.oh (pG.of^show Ha=_ from h);show(eE.Λ,o,e,c,n,dd)
def GT QVT{J:St}QTi(I:f'X F JH s)(E:A.T6=ε)QKS(k:H it=ε)(b5:d.pl it i s.ρ):∃f P S,Draws X.Ω X.w A it f xs.β P S/\(∀c∈f,c=it\/∃u,Hc<*u)/\Si s.ρ/\(∀jg,Sjg->d.pl it jg)/\∀jvx,Pjv->xs[j]?<*x->nTxv:=by
 cases d with
 |lY y t=>
  let h:xs=y.Ym.Zh.Tx λc=>V.uM ⟨#[c]⟩:=h;show([it],λiv=>∃cu,y.Ym[i]?=δc/\v=.uM ⟨#[c]⟩ u,Uz.Dd yt it,?_,λcq=>.UR^o6q,b5,λjgz=>z,λjvxbm=>?_)
  .let e:xs.β=y.Ym.fC:=by rw[h];simp
   rw[e];show Uz.draws E it yt
  .obtain ⟨c,u,M,ζ⟩:=b;rw[h,na,X0,M]at m;cases m;show(u,0)
 |xJ a=>
  let(eE,r,p,_):=I.Xp (n'.of^show Ha=_ from h);let C:s.ρ.Yn a eE.Λ:=p;let l:a≠it:=λz=>by rw[<-z,show Ha=_ from h]at k;cases k
  let e:xs.β=eE.Λ.fC:=by rw[r.β];simp
  show([it,a],λiv=>eE.Λ[i]?<*v,λih=>h.IsTupleIter it ai/\h.Yn a eE.Λ,by rw[e];show Zy! E it a l eE.Λ,λcq=>?_,(b5,C),λjgz=>z.1,λjvxbm=>?_)
  .rcases u3.mp q with z|z
   .exact .UR z
   .rw [o6z];show .P2 (_,h)
  .obtain ⟨u,D,B⟩:=r.get m;let b:eE.Λ[j]?<*v:=b;rw[γ.getElem?_toArray,D]at b;cases b;show B
 |ls a=>
  let(eE,r,(o,n,L,N,_,dd),_):=I.oh (pG.of^show Ha=_ from h);let C:s.ρ.IsList a eE.Λ:=(o,L,N,n,dd);let l:a≠it:=λz=>by rw[<-z,show Ha=_ from h]at k;cases k
  let e:xs.β=eE.Λ.fC:=by rw[r.β];simp
  show([it,a],λiv=>eE.Λ[i]?<*v,λih=>h.IsListIter it ai/\h.IsList a eE.Λ,by rw[e];show Draws.oh E it a l eE.Λ,λcq=>?_,(b5,C),λjgz=>z.1,λjvxbm=>?_)
  .rcases u3.mp q with z|z
   .exact .UR z
   .rw [o6z];show .P2 (_,h)
  .obtain ⟨u,D,B⟩:=r.get m;let b:eE.Λ[j]?<*v:=b;rw[γ.getElem?_toArray,D]at b;cases b;show B
namespace Uz
section
variable{Ω:nA}{w:o4}{A:o7}{E:η->Θ->Prop}{s:Θ}{z TIfGi1i2:θ}{f1:γθ}{n1:χ}{P1:χ->η->Prop}{tJ:χ->n3->Prop}
def XJ(d:s.Yf QGN "zip")(h:lZQAS A.in1 (Builtin.«zip.__next__» QQT) (λa s'=>∃v,a=.done^.ret v/\Q QFqs') (λe s'=>∃oe',e=.ο e'/\s'.ρ.Ξ e'=δo/\o.dM=.TB "StopIteration"/\Qε s') s):lZQASAQOlQ E s:=by
 unfold BW;show lT^X8^LJ (cJ:=bE.WK "__next__") d F.slot_zip_next^DI F.slot_zip_next d F.entry_zip_next (pWh (λa s'c=>?_) λe s'c=>?_)^F.args_zip_next_1 _
 .obtain ⟨v,ζ,q⟩:=c;show(v,0,mRq)
 .obtain ⟨o,e',ζ,f,g,q⟩:=c;show lT^TA (T:="StopIteration") (b:=π) (o,f,g) isSubtype_stop!^mRq
def ec!(p:Draws Ωw Ai1f1n1P1tJ)(B:∀c∈f1,c=i1\/c∉[z,fG,i1,i2])(n:ZEz TIfGi1i2TITI)QDR(g:tE s.ρ TIQEBQFA)(h1:tJn1 s.ρ)(D:∀h'eu,QFV->(∃o,h'.Ξ e=δo/\o.dM=.TB "StopIteration")->EQAm {s with ρ:=h',mU:=u}):lZQASA (Builtin.«zip.__next__» QQT) Q E s:=by
 unfold Builtin.«zip.__next__»;show lT^uZ (a:=QJN) ζ^lT^qU hz ζ (x:=.bC ν) ζ^lT^qU hz ζ (x:=.ο TI) ζ^lT^FEgζ^vM (!1) QDr;unfold Builtin.Wy.ownedTupleIsFree;show lT (qU hz ζ (x:=.ε) ζ^mR^TJ (!0)^lT^Z7^lT^qU hz ζ (x:=.ο fG) ζ^lT^YO hz (!1) λHtc1=>?_);simp only[γ.zipIdx_cons,γ.zipIdx_nil,DR,ZY];let v:tJn1H:=p.fm ___h1 λcboe=>by
  rcases Bcb with ζ|C
  .exact (c1.2 _ n.i1z).ξ e
  .exact (c1.2 c λq=>C^by simp[q]).ξ e
 show lT (lT^lT^wpAny_onRaise!^lT (m:=Builtin.Wy.nextOf QEB)^p.done ___v λjeif=>?_);let(y,d,k):=f;let h:IsZip jz TIfG .ellipsis:=iz_ n.i1z.UH t;show YO (s:={s with ρ:=j,mU:=s.mU}) h (!1) λF_l=>D Fe s.mU (λc obq=>?_) (y,(l.2 e λq=>?_).ξ d,k)
 .exact (l.2 c λr=>b^by simp[r]).ξ^ico (λr=>b^by simp[r])^(c1.2 c λr=>b^by simp[r]).ξ q
 .rw [q]at d;have:=oR (ψ.Tx pZ.dM)^d.UH.ξ h;rw[ψ.map_some,ψ.map_some,k]at this;show mW (show η.TB "StopIteration"=η.TB "zip" from ψ.δ.WZ this) (!0)
end
end Uz
section
variable{X:n8}{aI:γQA8}{σ:St}{H:m1}{s:Θ}{z TIfGi1i2:θ}{d1d2:uJ}{k:χ}{A:o7}{E:η->Θ->Prop}{xsys:γ V}{Q:ψη->Θ->Prop}
def NM(a:b∈[z,fG,i1,i2]):b∈[z,TI,fG,i1,i2]:=by simp at a⊢;rcases a with q|q|q|q<;>simp[q]
def Xw!(a:∀b∈[z,TI,fG,i1,i2],aYXaIHb)(h:c=i1\/∃u,Hc<*u):c=i1\/c∉[z,fG,i1,i2]:=h.imp id λ⟨u,e⟩=>K0 (λb d=>(a b^NMd).1) e
def XV(B:A.T6=ε)QOA QAB QI7 QDR(r:tE s.ρ TIQEBQFA)(q:tE s.ρ fGcd)(D:d1.pl i1k s.ρ)(s2:d2.pl i2k s.ρ)(P:d1.A7 Hxs)(O:d2.A7 Hys)(C:xs[k]?<*a)(f:ys[k]?<*b)(R:∀h'i,f'XaIσQGO {s with ρ:=h',mU:=i}->IsZip h'z TIfG^oV s⁻¹->tEh'TIQEBQFA->(∃a b,tEh'fGab)->d1.pl i1 (k+1) h'->d2.pl i2 (k+1) h'->Q (δQAY) {s with ρ:=h',mU:=i}):lZQAAAQOlQ E s:=by
 let(f1,P1,tJ,D1,N,l,b1,J):=GT (A:=A.in1) IB P (hi1 (!1)).1 D;let(f2,jF,yR,rR,m2,j,Z,F):=GT (A:=A.in1) IB O (hi2 (!1)).1 s2;show Uz.XJ (_,hz,0) (Uz.Rd D1rR (λcn=>(Ncn).imp id λo=>by let(u,e):=o;show K0QOme) (λcn=>(m2cn).imp id λp=>by let(u,e):=p;show K0QOme) ap hz rqlj (m9C).1 (m9f).1 λyxgi ML Tvt Y Wm U=>?_);show Rgi (I.turnedNew (S:=[z,fG,i1,i2]) U (λbf=>hb^NMf) (m6^by change 2≤16777216;decide,[y,x],.nF (Jkya MC)^.nF (F kxbLf) .nS,(_,m,0,(0),0))) Tv (7,t) (b1__ Y)^Z__ W
def ll!(q:A.T6=ε)(v:ZEz TIfGi1i2TITI)QAB(f:∀b∈[z,TI,fG,i1,i2],aYXaIHb)QDR(j:tE s.ρ TIQEBQFA)(l:d1.pl i1 xs.β s.ρ)(n:d1.A7 Hxs)(t:∀h'a,f'XaIσH {s with ρ:=h',mU:=a}->Qε {s with ρ:=h',mU:=a}):lZQAAAQOlQ E s:=by
 let(B,P1,D,x,m,d,C,y):=GT (A:=A.in1) Iqn (fi1 (!1)).1 l;show Uz.XJ (_,hz,0) (Uz.ec x (λc h=>Xw! f^mch) v hz jd λgeaui=>by let(o,p,h):=i;show(o,e,0,p,h,tga^I.turnedL (S:=[z,fG,i1,i2]) u λbr=>fb^NMr))
end
def Ko! QC1 QNv(z TIfGi1i2:θ)(t:ZEz TIfGi1i2TITI):H2PwK (.Zv es kt pt) (LFd1d2) [z,TI,fG,i1,i2] z (λih=>IsZip h z TIfG .ε/\tEh TIQEBQFA/\(∃a b,tEhfGab)/\d1.pl i1ih/\d2.pl i2ih)  where
 mem:=by simp
 obj:=λihDcr=>by
  let(hz,f,(a,b,j),n,s2):=D;simp only[u3,i7,w7]at r;rcases r with ζ|rfl|rfl|rfl|rfl
  .exact (_,hz,λvq=>by cases q)
  .exact (_,f,λvq=>by cases q)
  .exact (_,j,λvq=>by cases q)
  .exact PNn
  .exact PNs2
 AP:=λihh'⟨hz,f,⟨a,b,j⟩,n,s2⟩k=>
  (kz (!1) _ hz,k TI (!1) _f,(a,b,kfG (!1) _j),GRn^ki1 (!1),GRs2^ki2 (!1))
 item:=by
  rintro X F hw J r i x s T H E I B⟨hz,f,⟨a,b,j⟩,n,s2⟩⟨xs,ys,va,Q,l,p,A,y⟩;subst F hw J;show XVQMOt IB hz fjn s2lp Ay λgC O W N⟨c,d,M⟩g1Z=>(2,wpAny_letOwnedTupleGo_zip! (s:={s with ρ:=g,mU:=C}) W λg'L Y=>?_);let R:∀b∈[z,TI,fG,i1,i2],mEH s⁻¹ (.iT [va,Q]) b=ε:=λb m=>by
   let U:b<s⁻¹:=by
    let(o1,e1,_):=PNn;let(o2,e2,_):=PNs2;simp only[u3,i7,w7]at m;rcases m with ζ|rfl|rfl|rfl|rfl
    .exact oN hz
    .exact oNf
    .exact oNj
    .exact oNe1
    .exact oNe2
   rw[a'^p8U];show(Bbm).1
  let u:∀bo,b≠z->g.Ξ b<*o->g'.Ξ b<*o:=λbome=>(Y.2 b m).ξ e;show(.ο s⁻¹,_,O.turnedL (S:=[z]) (t':=C) (λbome=>ubo (λq=>m^by simp[q]) e) (λb m=>by rw[o6m];show(Rz (!1),(Bz (!1)).2)),0,
   (_,xs,ys,va,Q,l,p,A,y,0,I.rv.ax^nZ_,0),(L,u__ t.TIz N,(7,u__ t.TOz M),GRg1 λoe=>u_o t.i1z e,GRZ λoe=>u_o t.i2z e),R)
 done:=by
  rintro X F hw J r i x s T H E I B⟨hz,f,_,n,s2⟩⟨xs,ys,l,p,eG,ζ⟩;subst F hw J;show ll! QMOt IB hz f nl λgC O=>(0,O)
 self:=λ_____ st h=>wpAny_pyIter_zip! st.1 h
def JZ QTi QKS(s:∀bo,Hb<*o->H'b<*o):d.A7 H'xs:=by
 cases d with
 |lY x k=>show h
 |xJ a=>show s__h
 |ls a=>show s__h
abbrev uJ.y4:uJ->Tok->uJ
 |.lY x _,k=>.lY xk
 |d,_=>d
def TU QTi QKS:(d.y4 k).A7 Hxs:=by cases d<;>show h
def m_! QTi(e:nT d.eT u):∃k,u=(d.y4 k).z6:=by
 cases d with
 |lY x k=>show(show ∃t,u=η.uM xt from e)
 |xJ a=>cases e;show((0),0)
 |ls a=>cases e;show((0),0)
inductive xB! QBn QAJ QD4:Prop
 |mk QNv QS5 (_:vs=[d1.eT,d2.eT]) (_:d1.A7 H1xs) (_:d2.A7 H1ys) (_:∀k1k2,R (LF (d1.y4 k1)^d2.y4 k2) H1)
abbrev sU QHR:TI:=λσH R=>tσH^xB! R
def VW{Q:γbI}{z:χ}{y:nV}QGn(J:pUX "zip")(F:X.mg "zip"=ε)(L:qTX [a,b] w)(E:QJ3>>>4)(j:((pNb8^Ψ [b] X.fN).I9 QBA=ν)>>>4):vZX (.Zv Qz y) (.Wm (.Ip "zip" p) [a,b] [] b8)^sUw:=by
 intro e svH R Ih;show y0^CJI J F boot_zip!^WC.Rows.Wx (nb (Lb8e svH_ Ih) λusdl=>?_) Ej;let(vs,W,i,x,d1,d2,xs,ys,P,D,C,q):=l;subst P;let(Z,Y,ζ,T,S):=IYx;let(k1,ζ):=m_! T;let(k2,ζ):=m_! S;let q:=qk1k2;let(B,r):=UOi^TU (k:=k1) D;let(A,o):=UOi^TU (k:=k2) C;generalize d1.y4 k1=d1 at q r;generalize d2.y4 k2=d2 at q o;show Uz.Dk ro λgunm O N M=>wpAny_pyIter_zip! (s:={d with ρ:=g}) u ?_;let U:ZE (d⁻¹+4) QUo (d⁻¹+3) d⁻¹ (d⁻¹+1) QUoQUo:=by
  constructor<;>show VZ (!6)
 show(_,[d⁻¹+4,d⁻¹+2,d⁻¹+3,d⁻¹,d⁻¹+1],_,LFd1d2,W,0,i.Zo (t':=d.mU) M,Ko! d1d2_____ U,
  (u,n,(7,m),O,N),λc t=>?_,q)
 let f:d⁻¹≤c:=by
  simp only[u3,i7,w7]at t;rcases t with ζ|rfl|rfl|rfl|rfl<;>first|show Zn! __|show nZ_
 show i.fpOk f^i.rv.ax f
abbrev S0(dF:b9)(x:ω)(v:η):Prop:=(dF=π/\∃b:b9,v=.bC b/\x=if b then 1 else 0)\/(dF=ν/\∃t,v=.tV xt)
abbrev Ol! QLB QBg(dF:b9)(x:ω):ω:=if dF=π then reduceHash! x else(w8Pw).hash x
section
variable{P:nA}{w:o4}{dF:b9}
def S0.WZ QS6(b:S0dFyv):x=y:=by
 rcases a with⟨rfl,c,ζ,ζ⟩|⟨rfl,t,ζ⟩
 .rcases b with⟨_,d,e,ζ⟩|⟨e,_⟩
  .cases e;rfl
  .cases e
 .rcases b with⟨e,_⟩|⟨_,t',e⟩
  .cases e
  .cases e;rfl
def S0.pyHash QS6(q:Q (Ol! PwdFx) {s with mU:=s.mU+1}):lZQBEA (pyHash! v) Q E s:=by
 rcases a with⟨rfl,b,ζ,ζ⟩|⟨rfl,t,ζ⟩
 .exact (L4Pw).pyHash (k:=b) (by cases b<;>rfl) q
 .exact (w8Pw).pyHash (k:=x) QIEq
def S0.eq(a:S0dFxu)(b:S0dFyv):Wj.sf A suv^decide (x=y):=by
 rcases a with⟨rfl,c,ζ,ζ⟩|⟨rfl,t,ζ⟩
 .rcases b with⟨_,d,ζ,ζ⟩|⟨e,_⟩
  .let h:=Wj.sf.bool_bool (A:=A) (s:=s) c d;rw[show(c==d)=decide ((if c then(1:ω)else 0)=if d then 1 else 0) by cases c<;>cases d<;>rfl]at h;show h
  .cases e
 .rcases b with⟨e,_⟩|⟨_,t',ζ⟩
  .cases e
  .let h:=Wj.sf.int_int (A:=A) (s:=s) xtyt';rw[show(x==y)=decide (x=y) by rw[b9.Mc];simp]at h;show h
def S0.byValue QS6:carriedByValue! v=π:=by
 rcases a with⟨rfl,c,ζ,ζ⟩|⟨rfl,t,ζ⟩<;>rfl
end
section
variable(P:nA)(w:o4)(dF:b9)
abbrev LS QJx(k:γω)QCw:Prop:=∃(o:pZ)(n:χ)(v:η)(b:θ)(x:ω)(ks:γω),k=x::ks/\h.Ξ a=δo/\o.dM=.TB "tuple"/\o.mY=.Yv #[v,.ο b] n/\S0dFxv/\IsTupleKey! QCMhksb
abbrev jK!:γω->ω
 |[]=>0
 |x::ks=>reduceHash!^Builtin.Zv.tupleHashOf [Ol! PwdFx,tupleKeyHash! QCMks]
end
section
variable{P:nA}{w:o4}{dF:b9}
def LS.WZ(g:LSPwdFhxa)(f:LSPwdFhya):x=y:=by
 let(o,n,v,b,A,xs,ζ,h1,_,k,j,i):=g;let(B,C,e,u,z,ys,ζ,d,_,c,m,l):=f;rw[h1]at d;cases d;rw[k]at c;injection c with t _;let s:[v,η.ο b]=[e,.ο u]:=oR pV.Zh t;injection s with r q;injection q with p _;cases p;subst r;rw[j.WZ m,i.WZ l]
def LS.hL{pq}(x:LSPwdFhka)(c:h.Ξ d<*o)(e:o.mY=.wF pq)(f:zNdhh'):LSPwdFh'ka:=by
 let(j,n,v,b,i,xs,ζ,h1,h2,g,m,l):=x;show(j,n,v,b,i,xs,0,(f.2 a ?_).ξ h1,h2,g,m,l.hL c ef);rintro ζ;rw[h1]at c;cases c;rw[g]at e;cases e
def EL!(d:A.Wb+1<r4)QRV(q:Q (jK! PwdFk) {s with mU:=s.mU+(k.β+2)}):lZQBEA (pyHash! QAe) Q E s:=by
 let(o,n,v,b,c,xs,ζ,h1,h2,h,g,f):=x;show Δ.W.pyHash_slot (T:="tuple") QQB F.slot_tuple_hash F.entry_tuple_hash QOgQID (.P2^FB d) ?_;show lT (m:=Builtin.Zv.tupleItemsOf QAe)^wpAny_tupleItemsOf! h1hQDr;rw[<-forIn_toList!];change lZ__ (forIn [v,η.ο b] __) ___;rw[DR];show lT^lT^g.pyHash QTX;dsimp only;rw[DR];show lT^lT^wpAny_pyHash_tuple! (knd:=w8Pw) (by change A.in1.Wb<r4;rw[o7.in1_units];show d) fQTX;dsimp only;rw[ZY];show mR^lTQN9;let e:s.mU+1+(xs.β+1)+1=s.mU+((c::xs).β+2):=by rw[oY];lia
 simpa[e,jK!]using q
def Qy!(D:A.Wb+1<r4)(r:LSPwdF s.ρ xa)(p:LSPwdF s.ρ yb)QBO(Q:b9->Θ->Prop)QQM:lZQBEAQVfQ E s:=by
 by_cases h:a=b
 .subst h;rw[uO^r.WZ p]at q;show Wj.sf.Ki QAePw EQq
 .obtain ⟨o,n,v,c,g,xs,ζ,h1,h2,I,H,F⟩:=r;let(z,B,m,l,f,ys,ζ,O,N,M,L,J):=p;let k:A.in1.Wb<r4:=by rw[o7.in1_units];show D
  let d:Wj.sf A.in1 s (.ο c) (.ο l)^decide (xs=ys):=λTt W Uu=>wpAny_eqBool_tuple! (knd:=w8Tt) k (Z4F) (Z4J) u;let u7:=Wj.sf.of_refs (A:=A) h^Wj.RcAt.tuples (s:=s) (e:=λj=>if j=0 then decide (g=f)else decide (xs=ys)) (o,h1,h2,n,I) (z,O,N,B,M) (FB D) (λjiC=>by
   match j,i,C with
   |0,_,_=>show H.eq L
   |1,_,_=>show d
   | n+2,i,_=>show mWi^by change ¬ (n+2<2);lia)
  show u7Pw EQ ?_;let e:((γ.b_^min (#[v,.ο c]:pVη).fC (#[m,.ο l]:pVη).fC).u7 (λj=>if j=0 then decide (g=f)else decide (xs=ys))&&(#[v,.ο c]:pVη).fC==(#[m,.ο l]:pVη).fC)=decide (g::xs=f::ys):=by
   change (decide (g=f)&&(decide (xs=ys)&&π)&&π)=_;by_cases S:g=f<;>by_cases R:xs=ys<;>simp[S,R]
  rw[e];show q
def rX! QRV(q:Qπ s):lZQBEAQUjQ E s:=by
 let(o,n,v,b,l,xs,ζ,h1,h2,f,e,d):=x;show KJ (n:=7) (o,h1,h2,n,f) (λuc Rr=>?_) q;rcases u3.mp (show u∈[v,.ο b]from c)with ζ|c
 .rw [eqIsQuiet_byValue! _ e.byValue];show mRr
 .rw [o6c];let(o,eE,n,j,i,h,g):=d;show KJ (n:=6) (o,j,i,n,h) QMIr;rw[eqIsQuiet_byValue! _^g.byValue vc];show mRr
end
abbrev Yx! QLB QBg(dF:b9):HeapKind! Pw (γω) where
 is:=LSPwdF
 hash!:=jK! PwdF
 draws!:=λk=>k.β+2
 room:=λA=>A.Wb+1<r4
 WZ:=λa b=>a.WZ b
 hL!:=λxdI hd hs=>x.hL dI hd hs
 pyHash!:=λhOhZh=>EL! hOhZh
 eqBool!:=λhOc9d7h=>Qy! hOc9d7__h
 quiet!:=λhZh=>rX! hZh
abbrev xD!(dF:b9)(x:ω):V:=if dF=π then .dW (decide (x=1))else .tV x
abbrev Mf!(dF:b9)QAH(k:γω)QCw:Prop:=∃(b:θ)(x:ω)(ks:γω),k=x::ks/\(dF=π->x=0\/x=1)/\Ha=δQRW/\FTHksb
abbrev Om! QLB QBg(dF:b9):EIPw (γω) where
 knd:=Yx! PwdF
 kin:=Mf! dF
 ok:=λ{Hhka}e ok=>by
  let(b,x,ks,ζ,e0,e1,e2):=e
  let(_,eE,r,o,h1,h2,n,h3):=(show qNPwHhaQRW from ok a_e1)
  let(HE,u2,ζ,r1,r2):=IYr
  cases(show u2=η.ο b from r2)
  show(o,n,HE,b,x,ks,0,h1,h2,h3,3,zg! e2 ok)
  cases dF with
  |π=>
   cases(show HE=η.bC (decide (x=1))from r1)
   rcases e0ζ with ζ|rfl
   .exact .UR (0,ν,5)
   .exact .UR (0,π,5)
  |ν=>
   let(t,ζ):=(show ∃t,HE=η.tV xt from r1)
   show .P2 (0,t,0)
 room:=λ{A}hO=>(by change A.in1.Wb+1<r4;rw[o7.in1_units];show Jl! hO,by change A.Wb+1<r4;show Hc! hO)
 Zx!:=λs hZ2!=>by let(b,x,ks,e,e0,e1,e2):=hZ2!;show(b,x,ks,e,e0,s__e1,s__e2)
inductive A3 where
 |i|t|q|p
 deriving wA
abbrev r6 QLB QBg:A3->EIPw (γω)
 |.q=>Om! Pwπ
 |.p=>Om! Pwν
 |_=>N4Pw
def Ib!(k:ω)QIx:η.isInt k^.tV k t=π:=by simp[η.isInt]
abbrev Ve QLB QBg QAH QM5(y:V)(r:ψ V):Prop:=
 (∃bZk,Hd=δ^x6QCMdbZ/\y=.tV k/\r=tWbZk) \/
 ∃cSbZkb,Hd=δQOn/\QDG/\y=.ο b/\(r6PwcS).kin Hkb/\r=aPbZk
abbrev On! QLB QBg QAH QM5(yv:V)QBe:Prop:=
 (∃bZk,Hd=δ^x6QCMdbZ/\y=.tV k/\tWbZk=ε/\bZ.β<Φ/\H'=mEHd^x6QCMdQNR) \/
 ∃cSbZkb,Hd=δQOn/\QDG/\y=.ο b/\(r6PwcS).kin Hkb/\aPbZk=ε/\bZ.β<Φ/\H'=mEHd^xRQGydQEt
section
variable{X:n8}
inductive zC! QLB QBg(x:V)(y:V)QAH QAR:Prop
 |mk (d o:_) (_:y=.ο d) (_:Ve PwHdxo) QRT
def Yy!(m:X.A.Wb+64<r4):pMXQR1^zC! X.Ω X.w:=by
 intro f srHxyvuQ Icjh;let(d,o,ζ,g,q):=h;cases j;rcases g with⟨bZ,k,e,ζ,ζ⟩|⟨i,bZ,k,b,e,n,ζ,l,ζ⟩
 .obtain ⟨t,ζ⟩:=(show ∃t,v=η.tV k t from c);let(ns,_,vs,a,dd):=BM I.rv e;show wpAny_notIn_of! (knd:=w8 X.Ω X.w) (k:=k) QTjns dd.mapOf ?_;rw[<-bH!^a.val k];show QTa
 .cases c;show kC! (D:=r6 X.Ω X.w i) m Ienl λs'p=>(.dW _,H,p,0,q)
def yc!{c:St}QMv(g:Ve X.Ω X.w Hdyo):s.Yf QDC "dict":=by
 rcases g with⟨bZ,k,e,_⟩|⟨f,bZ,k,b,e,h,_⟩
 .obtain ⟨_,_,vs,_,dd⟩:=BM I.rv e;show dd.YQ
 .obtain ⟨_,_,vs,_,dd⟩:=N9 (D:=r6 X.Ω X.w f) I.rv eh;show dd.YQ
inductive Mg! QLB QBg(x:V)(y:V)QAH QAR:Prop
 |mk (dv:_) QNP (_:Ve PwHdyQFq) QKs
def xt!(C:X.A.Wb+64<r4):yPX^Mg! X.Ω X.w:=by
 intro cfm s MHxyvuQ Irjh E;let(d,z,ζ,g,q):=h;cases r;show tail_any! (ops!:=[.ο d,u]) (yc! Ig) Δ.F.slot_dict_getitem.ς ?_ E;rcases g with⟨bZ,k,e,ζ,l⟩|⟨p,bZ,k,b,e,J,ζ,B,l⟩
 .obtain ⟨t,ζ⟩:=(show ∃t,u=η.tV k t from j);let(ns,_,vs,i,dd):=BM I.rv e;let(n,hw,a):=aE.some_of (v:=z) (o:=BVvsk) (by rw[l];show i.val k);show wpAny_getItem_of! (knd:=w8 X.Ω X.w) (k:=k) QTj dd.mapOf hw QVg
 .cases j;show GL! (D:=r6 X.Ω X.w p) C Ie JBl λn s'La=>(z,H,L,a,q)
inductive Qz! QLB QBg(o:V)(i:V)(v:V)QAH QNL:Prop
 |mk (dH':_) (_:o=.ο d) (_:On! PwHdivH') (_:Q H')
def sy!(B:X.A.Wb+64<r4):W7X^Qz! X.Ω X.w:=by
 intro n s JHoivLzuQ Irmlh;let(d,H',ζ,g,q):=h;cases r;rcases g with⟨bZ,k,e,ζ,f,j,ζ⟩|⟨p,bZ,k,b,e,E,ζ,y,f,j,ζ⟩
 .obtain ⟨t,ζ⟩:=(show ∃t,z=η.tV k t from m);let(ns,hz,vs,a,dd):=BM I.rv e;show wpAny_setItem_pairs! (knd:=w8 X.Ω X.w) (k:=k) (hsz:=by rw[<-a.β];show hz) QTj dd λh'cC=>(_,3,q);let x:=aE.none_of (show aEεQRS by rw[<-f];show a.val k);rw[KMx]at c;show JPI (by rw[e];show vN.Vw) C (by let(o,_,_,q,_):=c;show (o,q))^MFns (by rw[o9];show j) (XMal) c
 .cases m;show Pj! (D:=r6 X.Ω X.w p) B Ie Eyfjl λs'F=>(_,F,q)
abbrev wT QLB QBg QM5:A3->j7
 |.i=>x6QCMd []
 |k=>xR (r6Pwk) d []
def QA QJx QRD(k:A3):qNPwH (h.Uu {dM:=.TB "dict",mY:=.wF #[]}) h.u_.fC^wTPw h.u_.fC k:=by
 let ns:(h.u_.fC==V4)=ν:=Ul.Ui QNS;cases k with
 |i=>show MF (knd:=w8Pw) nsQDx .nS QKO
 |t=>show R7 (D:=r6Pw .t) nsQDx .nS QFS
 |q=>show R7 (D:=r6Pw .q) nsQDx .nS QFS
 |p=>show R7 (D:=r6Pw .p) nsQDx .nS QFS
def QB!(h:k≠.i):wTPwdk=xR (r6Pwk) d []:=by
 cases k with
 |i=>show mWζh
 |_=>rfl
abbrev QC! QLB QBg(j8gG:TE):TE:=λσHQ=>∃cS:A3,∀p,Hp=ε->j8σ (mEHp^wTPwpcS) λxH1=>gGσH1 λybF=>bFp=δ^wTPwpcS/\
 ((cS=.i/\∃k,x=.tV k/\Q QAl^mEbFp^x6QCMp [(k,y,)])\/(cS≠.i/\∃bk,x=.ο b/\(r6PwcS).kin bFkb/\Q QAl^mEbFp^xRQGyp [(k,b,y,)]))
def Wt!(L:X.A.Wb+64<r4)(O:mPXkp)(J:mPXvgG):mPX (.Dict [δk] [v] b8)^QC! X.Ω X.w pgG:=by
 intro e slHQ Ih;let(f,h):=h;let N:=I.rv.ax^nZ s⁻¹;let R:=I.laid (a:=s⁻¹) (o:=wT X.Ω X.w s⁻¹ f) (t':=s.mU) (λ__q=>nN {dM:=.TB "dict",mY:=.wF #[]} q) QBF^QA s.ρ I.bigS f;let i:=zip_pairTrees! [δk] [v] X.fN b8ζζ;rw[arm_eval_Dict!,i,dictDisplay_pairs! (pairTrees! [δk] [v] X.fN b8) (!5)^by change 1<17;decide];show lT^F9QDr;unfold subDict!;show lTQM9;rw[mG^show(pairTrees! [δk] [v] X.fN b8).β≤15 by change 1≤15;decide];show lT (pairTrees_cons_walk!^nb (Oe_l__ R^h_ N) λuBh0=>h0.jW λx S Pnq1=>nb (JeBl S_ Pq1) λr s2⟨y,T,g,m,b5,q2⟩=>pairTrees_nil_walk!^tOQDr);rw[DR];rcases q2 with⟨rfl,k,ζ,q2⟩|⟨M,b,k,ζ,E,q2⟩
 .obtain ⟨t,ζ⟩:=(show ∃t,u=η.tV k t from n);let(ns,hz,vs,c,dd):=BM (knd:=w8 X.Ω X.w) (bZ:=[]) g.rv b5;show lT (lT^wpAny_dictSet_pairs! (knd:=w8 X.Ω X.w) (k:=k) (hsz:=by rw[<-c.β];show hz) QTj dd λh'dj=>mR ?_);dsimp only;rw[ZY];show mRQIR;let C:=aE.none_of (show aEεQRS from c.val k);rw[KMC]at d;show JPg (by rw[b5];show vN.Vw) j (by let(o,_,_,q,_):=d;show (o,q))^MFns (m6^by change 1≤16777216;decide) (XM (bZ:=[]) cm) d
 .cases n;rw[QB! M]at b5;let(ns,hz,xs,c,dd):=N9 (D:=r6 X.Ω X.w f) (bZ:=[]) g.rv b5 (λx F=>by simp at F);show lT (lT^wpAny_dictSet_heap! (knd:=(r6 X.Ω X.w f).knd) (hsz:=by rw[<-Y8.β c];show hz) ((r6 X.Ω X.w f).room L).2 ((r6 X.Ω X.w f).ok E g.rv) dd λh'dj=>mR ?_);dsimp only;rw[ZY];show mRQIR;show Od! (D:=r6 X.Ω X.w f) (bZ:=[]) gb5ns (m6^by change 1≤16777216;decide) cζmdj
end
end _F
namespace _b
open _F
abbrev BY:A3->m1->lU->θ->Prop
 |.q,H,k,b=>∃(c:θ)(x:χ)(ks:lU),k=x::ks/\x≤1/\Hb=δ^.iT [.dW^decide (x=1),.ο c]/\Hc<*.iT^mJks
 |.p,H,k,b=>∃(c:θ)(x:χ)(ks:lU),k=x::ks/\Hb=δ^.iT [.tV (x:ω),.ο c]/\Hc<*.iT^mJks
 |_,H,k,b=>Hb<*.iT^mJk
abbrev pJ(cS:A3)QAH QFi(v:V):Prop:=if cS=.i then ∃n:χ,k=[n]/\v=.tV (n:ω)else ∃b,v=.ο b/\BYcSHkb
def BY.Ki(h:BYfHkb)QAp:BYfH'kb:=by
 cases f with
 |q=>
  let(c,x,ks,e,g,d,a):=h;show(c,x,ks,e,g,s__d,s__a)
 |p=>
  let(c,x,ks,e,d,a):=h;show(c,x,ks,e,s__d,s__a)
 |_=>show s__h
def uQ! QFi:(zsk).Tx V.tV=mJk:=by rw[zs,mJ,map_map!];rfl
def BY.kin(h:BYgHkb):(r6Pwg).kin H (zsk) b:=by
 let a:∀{ks:lU}{c:θ},Hc<*.iT^mJks->FTH (zsks) c:=λe=>by unfold FT;rw[uQ!];show e
 cases g with
 |q=>
  let(c,x,ks,ζ,i,f,d):=h;show(c,(x:ω),zsks,0,λ_=>?_,3,a d)
  .lia
  .rw [f,show xD! π (x:ω)=.dW (decide ((x:ω)=1))from ζ,show decide ((x:ω)=1)=decide (x=1) by rw[b9.Mc];simp;lia]
 |p=>
  let(c,x,ks,ζ,f,d):=h;show(c,(x:ω),zsks,0,λz=>(by cases z),f,a d)
 |_=>show ah
def pJ.Ki(h:pJaHkv)QAp:pJaH'kv:=by
 unfold pJ at h⊢;split
 .rename_i c;rw[mGc]at h;show h
 .rename_i c;rw[mFc]at h;let(b,e,d):=h;show(b,e,d.Ki s)
abbrev EM:n0->χ->γ (ω×V)
 |[],_=>[]
 |k::r,n=>(((k.headD 0:χ):ω),.tV (n:ω),)::EMr (n+1)
def bh!:∀(ts:n0)QCv,(EMtsn).β=ts.β
 |[],_=>rfl
 |_::r,_=>oRQTW^bh! r_
def CQ! QFi:∀(ts:n0)QCv,EM (ts++[k]) n=EMtsn++[(((k.headD 0:χ):ω),.tV ((n+ts.β:χ):ω),)]
 |[],n=>rfl
 |t::r,n=>by
  change _::EM (r++[k]) (n+1)=_::(EMr (n+1)++_);rw[CQ! kr (n+1),oY,show n+1+r.β=n+(r.β+1) from S4]
abbrev DP(ts:n0)QFi:ψχ:=if k∈ts then δ (ts.UL k)else ε
def ek!(h:t≠k):DP (t::r) k=(DPrk).Tx QTW:=by
 unfold DP;by_cases a:k∈r
 .rw [mGQTk,mGa,idxOf_cons!,show(t==k)=ν from Ul.Ui h];rfl
 .rw [mF^λz=>(u3.mp z).Q5 (λy=>h y.UH) a,mFa];rfl
def kz!{m:χ}:∀{ts:n0}QLU,(∀t∈ts,∃a,t=[a])->tW (EMtsn) (m:ω)=(DPts [m]).Tx λ(i:χ)=>V.tV ((n+i:χ):ω)
 |[],_,_=>rfl
 |t::r,n,h=>by
  let(a,ζ):=ht (!1);by_cases e:a=m
  .subst e;change tWQSK_=_;rw[lu! (k:=(a:ω))^show((([a]:lU).headD 0:χ):ω)=(a:ω)from ζ,DP,mG (!1),γ.idxOf_cons_self];rfl
  .change tWQSK_=_;rw[VO^λz=>eQMH,kz! (n:=n+1)^λtb=>ht^by simp[b],ek!^λz=>e^by injection z];cases DPr [m]with
   |ε=>rfl
   |δ i=>
    change δQPi<*V.tV ((n+(i+1):χ):ω);rw[show n+1+i=n+(i+1) from S4]
abbrev y8 QLB QBg QAH QM5(cS:A3)(ts:n0):Prop:=
 if cS=.i then Hd=δ^x6QCMd^EMts 0/\∀t∈ts,∃a,t=[a]
 else ∃bZ:γ (γω×θ×V),Hd=δQOn/\QDG/\bZ.β=ts.β/\∀QAu QFi(x:γω×θ×V),ts[i]?<*k->bZ[i]?<*x->x.1=zsk/\x.2.2=.tV (i:ω)
def qj!:∀QLU,bZ.β=ts.β->(∀QAu QFi(x:γω×θ×V),ts[i]?<*k->bZ[i]?<*x->x.1=zsk/\x.2.2=.tV ((n+i:χ):ω))->aPbZ^zsk=(DPtsk).Tx λ(i:χ)=>V.tV ((n+i:χ):ω):=by
 induction bZ generalizing ts with
 |nS=>
  intro n ah;cases ts with
  |nS=>rfl
  |nF t r=>cases a
 |nF x xs d=>
  intro n ah;cases ts with
  |nS=>cases a
  |nF t r=>
   let(b,j):=h 0 txζζ;by_cases e:t=k
   .subst e;rw[DP,mG (!1),γ.idxOf_cons_self];simp[aP,Ds,b,j]
   .let e':¬ x.1=zsk:=λz=>e^Z1^b.UH.ξ z;let l:aP (x::xs)^zsk=aPxs^zsk:=by simp[aP,Ds,e']
    rw[l,d (n:=n+1) (by simpa using a) (λik'ch1h2=>by
     let(g,f):=h (i+1) k'ch1h2;show(g,by rw[f,show n+(i+1)=n+1+i from Gp!])),ek! e]
    cases DPrk with
    |ε=>rfl
    |δ i=>
     change δQPi<*V.tV ((n+(i+1):χ):ω);rw[show n+1+i=n+(i+1) from S4]
section
variable{P:nA}{w:o4}{H:m1}{d:θ}{cS:A3}{ts:n0}{k:lU}{v:V}
def y8.get QJv(e:pJcSHkv):Ve PwHdv ((DPtsk).Tx λ(i:χ)=>V.tV (i:ω)):=by
 unfold y8 at h;unfold pJ at e;by_cases c:cS=.i
 .subst c;rw[mGζ]at h e;let(n,ζ,ζ):=e;show .UR (7,h.1,0,3);rw[kz! h.2];simp
 .rw [mFc]at h e;let(bZ,h1,h2,j,g):=h;let(b,ζ,f):=e;show .P2 (cS,bZ,zsk,b,h1,h2,0,f.kin,3);rw[qj! (n:=0) j^λikxab=>by rw[χ.WL];show gikxab];simp
def y8.put QJv(m:pJcSHkv)(y:k∉ts)(r:ts.β<Φ):∃f,On! PwHdv (.tV (ts.β:ω))^_F.mE Hdf/\y8Pw (_F.mE Hdf) dcS (ts++[k]):=by
 let o:DPtsk=ε:=mFy;let A:∀bxs,Hb<*.iT xs->∀φ,Hd<*.ext φ->∀f,_F.mE Hdfb<*.iT xs:=λbxseφCf=>by
  rw[a'^qSeC (!5)];show e
 unfold y8 at h;unfold pJ at m;by_cases c:cS=.i
 .subst c;rw[mGζ]at h m;let(n,ζ,ζ):=m;show(x6QCMd^EM (ts++[[n]]) 0,.UR (7,h.1,0,3,by rw[bh!];show r,3),3)
  .rw [kz! h.2,o];rfl
  .rw [CQ!,χ.WL];rfl
  .unfold y8;rw[mGζ];show(hJ,λtu=>?_);rcases lp.mp u with z|z
   .exact h.2 tz
   .exact (n,o6z)
 .rw [mFc]at h m;let(bZ,h1,h2,l,s):=h;let(b,ζ,B):=m;let p:(r6PwcS).kin H (zsk) b:=B.kin;let eZ:∀fbxs,Hb<*.iT xs->_F.mE Hdfb<*.iT xs:=λfbxse=>Abxse_h1f;show(xRQGyd (bZ++[(zsk,b,.tV (ts.β:ω),)]),.P2 (cS,bZ,zsk,b,h1,h2,0,p,3,by rw[l];show r,0),3)
  .rw [qj! (n:=0) l (λikxab=>by rw[χ.WL];show sikxab),o];rfl
  .unfold y8;rw[mFc];show(_,hJ,λxg=>?_,by rw[o9,o9,l];rfl,λik'xjg=>?_)
   .rcases lp.mp g with z|z
    .exact (r6PwcS).Zx (eZ_)^h2xz
    .rw [o6z];show(r6PwcS).Zx (eZ_) p
   .by_cases q:i<ts.β
    .rw [u1q]at j;rw[u1^by rw[l];show q]at g;show sik'xjg
    .rw [w5^xGq]at j;rw[w5 (by rw[l];show xGq),l]at g;let hz:i-ts.β=0:=by
      have:=(m9j).1;simp at this;omega
     rw[hz]at j g;cases j;cases g;show(0,by rw[show i=ts.β from Tz! hz q])
def y8.Ki QJv(s:∀bo,Hb<*o->(b=d\/∃xs,o=.iT xs)->H'b<*o):y8PwH'dcSts:=by
 unfold y8 at h⊢;by_cases c:cS=.i
 .subst c;rw[mGζ]at h⊢;show(s__ h.1 QAv,h.2)
 .rw [mFc]at h⊢;let(bZ,h1,h2,g,f):=h;show(bZ,s__h1QAv,λxa=>(r6PwcS).Zx (λbxse=>s__e^.P2 (_,0))^h2xa,g,f)
end
end _b
namespace _F
open PySem.Spec PyProof.Rows
namespace Uz
abbrev CY(T:θ)QKD(TIfG:θ):pZ:={dM:=.TB "zip",wF:=ε,mY:=.xq #[oVT,.bC b,.bC ν,.ο TI,.ο fG],slots:=#[]}
section
variable{Ω:nA}{w:o4}{A:o7}{E:η->Θ->Prop}{s:Θ}{z TIfGi1i2T:θ}{f1f2:γθ}{n1n2k:χ}{P1jF:χ->η->Prop}{tJyR:χ->n3->Prop}{b1:b9}{oT:pZ}
def mb! QMP(a:s.ρ.Ξ T<*oT)(h:∀h',h'.Ξ z<*CYTπ TIfG->zNz s.ρ h'->Qν {s with ρ:=h'}):lZQASA (Builtin.Wy.ownedTupleIsFree QGN) Q E s:=by
 unfold Builtin.Wy.ownedTupleIsFree;show lT (qU hz ζ (x:=oVT) ζ ?_);change lZ__ (loadIfAlive! ((T:ω).UD)>>=_) ___;rw[DM];show lT (Δ.W.kdx_alive a ?_);show vM (!1)^lT (qU hz ζ (x:=.bC b1) ζ ?_);cases b1 with
 |π=>show vM (!0)^mR^h_ hz (0,λ__=>rfl)
 |ν=>show TJ (!0) (lT^YO hz (!1) λh'ec=>mR^hh'ec)
def Xv!{Q:η->Θ->Prop}(F:Draws Ωw Ai1f1n1P1tJ)(D:Draws Ωw Ai2f2n2jFyR)(P:∀c∈f1,c=i1\/c∉[z,fG,i1,i2])(m2:∀c∈f2,c=i2\/c∉[z,fG,i1,i2])(b:ZEz TIfGi1i2TITI)(hz:s.ρ.Ξ z<*CYTb1TIfG)(W:s.ρ.Ξ T<*oT)(i:tE s.ρ TI (.ο i1)^.ο i2)(h1:tJk s.ρ)(h2:yRk s.ρ)(U:k<n1)(R:k<n2)(X:∀xyh'J,P1kx->jFky->h'.Ξ z<*CYTπ TIfG->tEh'TI (.ο i1)^.ο i2->tJ (k+1) h'->yR (k+1) h'->tEh' s⁻¹ xy->
   (∀c o,c∉[z,fG,i1,i2]->s.ρ.Ξ c<*o->h'.Ξ c<*o)->Q (.ο s⁻¹) {s with ρ:=h',mU:=J}):lZ (oPΩw) A (Builtin.«zip.__next__» ([.ο z],[])) (λB s'=>∃v,B=.done^.ret v/\Qv s') E s:=by
 unfold Builtin.«zip.__next__»;show lT (uZ (a:=QJN) ζ^lT^qU hz ζ (x:=.bC ν) ζ^lT^qU hz ζ (x:=.ο TI) ζ^lT^FEiζ^vM (!1)^lT^mb! hz W λY Ic1=>vM (!0) ?_);dsimp only;let k1:LW [z,fG,i1,i2] s.ρ Y:=.uR c1 (!1);let l:∀QMw{gg':n3},QBM->tJjg->QKu->tJjg':=λk st e=>F.fm ___ st λc h=>by
  rcases Pch with ζ|u
  .exact e
  .exact λoq=>kcouq
 let C:∀QMw{gg':n3},QBM->yRjg->QKv->yRjg':=λk st e=>D.fm ___ st λc h=>by
  rcases m2ch with ζ|u
  .exact e
  .exact λoq=>kcouq
 rw[<-forIn_toList!];change lZ__QJU___;simp only[DR,ZY];show lT (lT^lT^tO^lT (m:=Builtin.Wy.nextOf QEB)^F.item k___ U (l k1.2 h1 λoe=>(c1.2 i1 b.i1z).ξ e) λx Zt2Od1p=>mR ?_);dsimp only;show mR (lT^lT^tO^lT (m:=Builtin.Wy.nextOf QFA)^D.item k___ R (C (k1.ξ QKw).2 h2 λoe=>(p.2 i2 b.i12.UH).ξ^(c1.2 i2 b.i2z).ξ e) λydL Nd2n=>mR ?_);dsimp only;show mR^mR^lT^wpAny_newTuple! (hsz:=m6^by change 2≤16777216;decide)^mR (2,3);let k3:LW [z,fG,i1,i2] s.ρ d:=(k1.ξ QKw).ξ^.uR n (!1);let H:d.Ξ z<*CYTπ TIfG:=(n.2 z b.i2z.UH).ξ^(p.2 z b.i1z.UH).ξ I;let r:tEd TIQEBQFA:=k3.2 TI_ (by simp[b.TIz,b.TITO,b.TIi1,b.TIi2]) i;let M:d.u_.fC=s⁻¹:=k3.1;let t:tJ (k+1) d:=l (LW.uR (S:=[z,fG,i1,i2]) n (!1)).2 d1 λoe=>(n.2 i1 b.i12).ξ e;let f:tE (d.Uu {dM:=.TB "tuple",mY:=.Yv #[x,y]}) d.u_.fC xy:=t8_ζ;change Q (.ο d.u_.fC) _;rw[M]at f⊢;show Xxy_L O N (nN_H) (nN_r) (F.fm ___t λc_oe=>nN_e) (D.fm ___d2 λc_oe=>nN_e) f λc ohe=>nN_^k3.2 c ohe
def n_!(f:Draws Ωw Ai1f1n1P1tJ)(j:∀c∈f1,c=i1\/c∉[z,fG,i1,i2])(y:ZEz TIfGi1i2TITI)QMP(p:s.ρ.Ξ T<*oT)(d:tE s.ρ TIQEBQFA)(h1:tJn1 s.ρ)(t:∀h'eh,QFV->(∃o,h'.Ξ e=δo/\o.dM=.TB "StopIteration")->EQAm {s with ρ:=h',mU:=h}):lZQASA (Builtin.«zip.__next__» QQT) Q E s:=by
 unfold Builtin.«zip.__next__»;show lT (uZ (a:=QJN) ζ^lT^qU hz ζ (x:=.bC ν) ζ^lT^qU hz ζ (x:=.ο TI) ζ^lT^FEdζ^vM (!1)^lT^mb! hz p λvBc1=>vM (!0) ?_);dsimp only;rw[<-forIn_toList!];change lZ__QJU___;simp only[DR,ZY];let i:tJn1v:=f.fm ___h1 λcboe=>by
  rcases jcb with ζ|l
  .exact (c1.2 _ y.i1z).ξ e
  .exact (c1.2 c λq=>l^by simp[q]).ξ e
 show lT (lT^lT^tO^lT (m:=Builtin.Wy.nextOf QEB)^f.done ___i λuegn=>?_);show tue s.mU (λc obq=>gco (λr=>b^by simp[r])^(c1.2 c λr=>b^by simp[r]).ξ q) n
end
def wt!:typeLookup! (.TB "zip") "__len__"=pure ε:=by rw[W4,I2];kernel_rfl
def Ct!:typeLookup! (.TB "zip") "__length_hint__"=pure ε:=by rw[W4,I2];kernel_rfl
end Uz
section
variable{X:n8}{aI:γQA8}{σ:St}{H:m1}{s:Θ}{z TIfGi1i2S:θ}{d1d2:uJ}{k:χ}{A:o7}{E:η->Θ->Prop}{xsys:γ V}
abbrev EN(z TIfGi1i2:θ)QNv QGT QAH QJx:Prop:=
 ((IsZip h z TIfG .ε/\∃a b,tEhfGab)\/∃Tb1ws,h.Ξ z=δ^Uz.CY Tb1TIfG/\H T<*.iT ws)/\tEh TIQEBQFA/\d1.pl i1kh/\d2.pl i2kh
def EN.AP(st:ENz TIfGi1i2d1d2kHh)(c:∀b∈[z,TI,fG,i1,i2],∀o,h.Ξ b<*o->h'.Ξ b<*o)(g:∀Tws,H T<*.iT ws->H'T<*.iT ws):ENz TIfGi1i2d1d2kH'h':=
 (st.1.imp (λd=>by let(e,a,b,q):=d;show(cz (!1) _e,a,b,cfG (!1) _q)) λf=>by let(T,i,ws,e,q):=f;show(T,i,ws,cz (!1) _e,g Twsq),c TI (!1) _ st.2.1,GR st.2.2.1^ci1 (!1),GR st.2.2.2^ci2 (!1))
def EN.ty QI8:s.Yf QGN "zip":=st.1.Q5 (λe=>(_,e.1,0)) λ⟨_,_,_,e,_⟩=>(_,e,0)
def Vn!(q:A.T6=ε)(U:ZEz TIfGi1i2TITI)QAB(j:∀b∈[z,TI,fG,i1,i2],aYXaIHb)QI8(O:d1.A7 Hxs)(N:d2.A7 Hys)(t:xs[k]?<*a)(f:ys[k]?<*b)(P:∀h'i,f'XaIσQGO {s with ρ:=h',mU:=i}->ENz TIfGi1i2d1d2 (k+1) QGOh'->Q (δQAY) {s with ρ:=h',mU:=i}):lZQAAAQOlQ E s:=by
 obtain⟨⟨hz,c,d,y⟩|⟨T,R,ws,hz,B⟩,l,M,s2⟩:=id st
 .exact XVq U Ij hz ly M s2O Ntf λh'iiYCh_ FD=>Ph'iiY (.P2 (7,_,C,hJ),h,F,D)
 .obtain ⟨f1,P1,tJ,D1,UT,n,R,Y⟩:=GT (A:=A.in1) Iq O (ji1 (!1)).1 M;let(f2,jF,yR,rR,m2,m,b2,W):=GT (A:=A.in1) Iq N (ji2 (!1)).1 s2;obtain⟨oT,YF⟩:∃o,s.ρ.Ξ T<*o:=by let(_,_,_,o,e,_):=I.rv T_B;show(o,e)
  show Uz.XJ st.ty (Uz.Xv D1rR (λc r=>(UTcr).imp id λx=>by let(u,e):=x;show K0QOoe) (λc r=>(m2cr).imp id λv=>by let(u,e):=v;show K0QOoe) U hz YFlnm (m9t).1 (m9f).1 λL Jgip1ZCh FDpkW=>?_);show Pgi (I.turnedNew (S:=[z,fG,i1,i2]) kW (λbf=>jb^NMf) (m6^by change 2≤16777216;decide,[L,J],.nF (YkLap1t)^.nF (Wk Jb Zf) .nS,(_,p,0,(0),0))) (.P2 (7,ws,C,(a'^oZB I.ax).ξ B),h,R__ F,b2__D)
def Xi!(p:A.T6=ε)(r:ZEz TIfGi1i2TITI)QAB QI7(st:ENz TIfGi1i2d1d2 xs.β H s.ρ)(n:d1.A7 Hxs)(q:∀h'f,f'XaIσH {s with ρ:=h',mU:=f}->Qε {s with ρ:=h',mU:=f}):lZQAAAQOlQ E s:=by
 obtain⟨⟨hz,c,d,x⟩|⟨T,D,ws,hz,y⟩,a,m,s2⟩:=id st
 .exact ll! p r Ih hz a mnq
 .obtain ⟨M,P1,N,F,t,i,D,J⟩:=GT (A:=A.in1) Ipn (hi1 (!1)).1 m;obtain⟨L,C⟩:∃o,s.ρ.Ξ T<*o:=by let(_,_,_,o,e,_):=I.rv T_y;show(o,e)
  show Uz.XJ st.ty (Uz.n_ F (λcj=>Xw! h^tcj) r hz Cai λgefBl=>by let(o,u,j):=l;show(o,e,0,u,j,qgf^I.turnedL (S:=[z,fG,i1,i2]) B λb v=>hb^NMv))
structure Mh!(H0:m1)(S:θ)QS5 QAH QTg:Prop where
 P':H S<*.P' QF2
 eE:∀QAu(t:θ),ts[i]?<*t->∃xy,xs[i]?=δx/\ys[i]?=δy/\Ht<*.iT [x,y]
 eR:ts.qg
 new!:H0S=ε
 Ki!:mIH0H
def li!{h:η}{R:Result!->Θ->Prop}{H0:m1}(P:A.T6=ε)(Q:ZEz TIfGi1i2TITI)(Y:xs.β=ys.β)QSL(D:d1.A7 H0xs)(W:d2.A7 H0ys)(hR:∀H sts,f'XaIσH s->ts.β=xs.β->Mh! H0SxsysHts->R (.ok^.ret h) s):∀QNVQAHQCDQTg,ts.β+m=xs.β->f'XaIσH s->(∀b∈[z,TI,fG,i1,i2],aYXaIHb/\b<s⁻¹)->ENz TIfGi1i2d1d2 ts.β H s.ρ->Mh! H0SxsysHts->
   wI QAA A (.Rm "list.extend.loop" ([.ο S,.ο z,h],[])) R s
 |0,H,s,ts,M,I,d,st,L=>by
  show BR F.entry_extend_loop ?_;rw[o7.Xg F.Yi _];rw[show ts.β=xs.β from M]at st;show lT (Xi! (A:=A.in1) PQ IQTl st (JZD L.Ki) λh'vj=>mR^hRH_tsj ML)
 |m+1,H,s,ts,M,I,d,st,L=>by
  show BR F.entry_extend_loop ?_;rw[o7.Xg F.Yi _];let h1:ts.β<xs.β:=Jd! M
  let h2:ts.β<ys.β:=Y▸h1;let fr:=I.ax;show lT (Vn! (A:=A.in1) PQ IQTl st (JZD L.Ki) (JZW L.Ki) (mOh1) (mOh2) λh'vjB=>?_);let p:∀QBGQUL,Hb<*u->b≠s⁻¹:=λe=>oZe fr;let C:=(a' (H:=H) (o:=.iT [xs[ts.β],ys[ts.β]])^p L.P').ξ L.P';let lt:s⁻¹<h'.u_.fC:=j.rv.lt hJ;let(_,eE,n,r,jW,e):=j.lstM C;let Z:eE.Λ.fC=ts.β:=by rw[q9,<-jW,j']
  let J:=j.lset (its':=eE++[.ο s⁻¹]) (ys:=(ts++[s⁻¹]).Tx V.ο) (f:=(·.Uu QAY)) (t':=v) Ce (!1) (by rw[pY];show r.append QD0) (by rw[j',o9,w9];simp only[γ.length_singleton];lia);let U:∀QBGQUL,b≠S->Hb<*u->mE (mEH s⁻¹^.iT [xs[ts.β],ys[ts.β]]) S (.P'^(ts++[s⁻¹]).Tx V.ο) b<*u:=λc e=>(a'c).ξ^(a'^pe).ξ e;let cg!:∀QBG{ws:γ V},Hb<*.iT ws->b≠S:=λeq=>by rw[q,L.P']at e;cases e
  let yx!:s⁻¹≠S:=λq=>p L.P' q.UH;let YR:∀b∈[z,TI,fG,i1,i2],b≠S:=λbcq=>by rw[q]at c;have:=(d Sc).1.1;rw[L.P']at this;cases this
  show lT (m:=Builtin.γ.listUpdate QMQ (·.Uu QAY)) (show lZ__ (updateSeq! S_) ___ from ZF (s:={s with ρ:=h',mU:=v}) eζ (mR (X9 F.Yi _,li! PQ Yg9D WhRm__ (ts++[s⁻¹]) ?_ J (λbc=>((3,(dbc).1.2),3)) ?_ (hJ,λi tg=>?_,3,L.new,λboq=>?_))) ?_ ?_)
  .rw [o9,γ.length_singleton];show Ge! M
  .rw [a'^YRbc,a'^p8 (dbc).2];show(dbc).1.1
  .rw [n3.size_update];show zP (dbc).2 lt
  .rw [o9];show B.AP (λbcoq=>(y1__^Ne.UH^YRbc).ξ q) λTwsq=>(a' λy=>?_).ξ q;rw[y,C]at q;cases q
  .by_cases O:i<ts.β
   .rw [u1O]at g;let(x,y,q1,q2,l):=L.eE i tg;show(x,y,q1,q2,U (cg! l) l)
   .let N:=(m9g).1;rw[o9,γ.length_singleton]at N;obtain ζ:i=ts.β:=by lia
    rw[w5QBF,sub_self!]at g;cases g;show(7,mOh1,mOh2,(a' yx!).ξ hJ)
  .refine γ.nodup_append.Ui (L.eR,!1,λaeMbcq=>?_);let(i,g):=tl.mp eM;let(_,_,_,_,l):=L.eE iag;show p l^q.ξ^o6c
  .exact U (λy=>by rw[y,L.new]at q;cases q)^L.Ki boq
  .rw [Z,w9];lia
  .change (eE.Λ.Uu _).fC≤_;rw[pV.yW,Z,w9];lia
def xa!(jP:A.T6=ε)QOA QAB(D:∀b∈[z,TI,fG,i1,i2],aYXaIHb/\b<s⁻¹)QDR(st:ENz TIfGi1i2d1d2 0 H s.ρ)(eG:xs.β=ys.β)QSL(c9:d1.A7 Hxs)(Z:d2.A7 Hys)(NG:∀H's'ts,f'XaIσH's'->ts.β=xs.β->Mh! H s⁻¹ xsysH'ts->Q QAYs'):lZQAAA (wG (.TB "list") [.ο z]) Q E s:=by
 show callType_codes! (Q₁!:=λvc=>v=.ο s⁻¹/\c={s with ρ:=s.ρ.Uu {dM:=.TB "list",mY:=.Yv #[]} }) F.called_list (F.typeCall_list_1 _) F.entry_list_init
  (code_list_new! _ (0,0)) λvcC=>?_
 let(rfl,ζ):=C;let N:(s.ρ.Uu {dM:=.TB "list",mY:=.Yv #[]}).Ξ s⁻¹<*{dM:=.TB "list",mY:=.Yv #[]}:=t8_ζ;show((_,N,0),F.args_list_init_2 __,3);let O:=I.ax;let P:=I.lnew (eE:=[]) (t':=s.mU) .nS QDx;let B:∀b∈[z,TI,fG,i1,i2],b<(s.ρ.Uu {dM:=.TB "list",mY:=.Yv #[]}).u_.fC:=λba=>by rw[yW];show ZA (Dba).2
 let u:ENz TIfGi1i2d1d2 0 QKT^s.ρ.Uu {dM:=.TB "list",mY:=.Yv #[]}:=st.AP (λbaoe=>nN_e) λTwsq=>(a'^oZq O).ξ q;let p:∀b∈[z,TI,fG,i1,i2],b≠s⁻¹:=λba=>p8 (Dba).2;let j:mIHQKT:=λboe=>(a'^oZe O).ξ e;let U:∀b∈[z,TI,fG,i1,i2],aYXaIQKTb:=λba=>((a'^pba).ξ (Dba).1.1,(Dba).1.2);let Y:∀bo,s.ρ.Ξ b<*o->(s.ρ.Uu {dM:=.TB "list",mY:=.Yv #[]}).Ξ b<*o:=λboe=>nN_e;generalize s.ρ.Uu {dM:=.TB "list",mY:=.Yv #[]}=g at N P u B Y;generalize ab:s⁻¹=S at *;let P:f'XaIσ (mEH SQB3) {s with ρ:=g,mU:=s.mU}:=P;change lZ__ (do let R <-Builtin.γ.listItems QMQ;Builtin.γ.listUpdate QMQ (λ_=>#[]);letGo! R.Zh.UQ;Builtin.γ.Zl QMQ QGN .ε) ___;show lT ?_;unfold Builtin.γ.listItems;show lT^FENζQBp;change lZ__ (updateSeq! S (λ_=>#[])>>=λ_=>letGo! (#[]:pVη).Zh.UQ>>=λ_=>Builtin.γ.Zl QMQQGN .ε) ___;show lT^ZFNζQQQ;let m:=xFQCqNζ;let r:(g.ei SQCq).u_.fC=g.u_.fC:=n3.size_update ..;let f:=u.AP (h':=g.ei SQCq) (λbaoe=>(y1__^Ne.UH^pba).ξ e) λ__q=>q;let l:∀bo,b≠S->g.Ξ b<*o->(g.ei SQCq).Ξ b<*o:=λboae=>(y1__QJQ).ξ e;generalize g.ei S QCq=n at m l r f;let W:=f.ty (s:={s with ρ:=n});unfold Builtin.γ.Zl;show lT (wpAny_typeOf! W ?_);let e1:Builtin.γ.listSameRef QMQQGN=ν:=by simp[Builtin.γ.listSameRef,Ne.UH^pz (!1)]
 let e2:(η.TB "zip"==η.TB "list")=ν:=by decide
 let e3:(η.TB "zip"==η.TB "tuple")=ν:=by decide
 simp only[e1,e2,e3,b9.w7,b9.false_eq_true,if_false!];show lT^wpAny_pyIter_zip! (s:={s with ρ:=n}) (lz_ (pz (!1))^Yz_ hz)^lT (tO ?_);unfold Builtin.γ.listLengthHint;show lT (YWW Uz.wt ?_);change lZ__ (specialOf! (η.ο z) (bE.WK "__length_hint__")>>=_) ___;show lT^YWW Uz.Ct QBp;change lZ__ (rule "list.extend.makes-room" >>= λ_=>Builtin.γ.listTouch QMQ>>=λ_=>again^.Rm "list.extend.loop" ([.ο S,.ο z,.ε],[])) ___;show lT^Z7QDr;change lZ__ (updateSeq! S (·.Uu .ε)>>=λ_=>updateSeq! S (·.pop)) ___;show lT (ZF (s:={s with ρ:=n}) mζ ?_);let M:=xFQF3mζ;show ZF (hz:=by seq_fits) Mζ ?_;let J:=xFQJVMζ;let d:∀bo,b≠S->n.Ξ b<*o->((n.ei SQF3).ei SQJV).Ξ b<*o:=λboae=>(y1__QJQ).ξ^(y1__QJQ).ξ e;show mR (X9 F.Yi _,li! (A:=A.in1) (S:=S) (H0:=H) jP ap eGg9c9Z (λH's'tsiYh1L=>(0,NGH's'tsiYh1L)) xs.β __ [] (χ.WL _) (P.write (x:=S) (e:=S) (h':=(n.ei SQF3).ei SQJV) (t':=s.mU) (o:=.P' []) (by rw[hJ];trivial) QAv (λboae=>dboa^lboae) (_,J) (pT_,[],_,.nS,J)) (λba=>(3,3)) (f.AP (λbaoe=>dbo (pba) e) λTwsq=>?_) (hJ,λi th=>by simp at h,γ.nodup_nil,O,λboe=>(a'^oZe O).ξ^jboe))
 .exact ((a'^pba).ξ (Uba).1,(Dba).1.2)
 .change b<((n.ei __).ei __).u_.fC;rw[n3.size_update,n3.size_update,r];show Bba
 .exact (a' λy=>by rw[y,hJ]at q;cases q).ξ q
end
def OP QTi(a:d.A7 Hxs)(b:d.A7 Hys):xs=ys:=by
 cases d with
 |lY x k=>show(show xs=_ from a).ξ (show ys=_ from b).UH
 |xJ c=>
  let a:Hc=_:=a;let b:Hc=_:=b;rw[a]at b;cases b;rfl
 |ls c=>
  let a:Hc=_:=a;let b:Hc=_:=b;rw[a]at b;cases b;rfl
def T0{g:TG}{n:oW}QHx(t:xs.β=ys.β)QJC(z:c 0 bH)(u:∀ibH,cibH->d1.A7 Hxs/\d2.A7 Hys)(s:∀ixypbH,xs[i]?<*x->ys[i]?<*y->Hp=ε->cibH->gQAlb (mEHp^.iT [x,y]) λdl=>n {D with pO:=c (i+1),ct:=c (i+1),hU:=D.pO} dl)(w:∀bH,c xs.β bH->D.pO bH):∃W:χ->χ->St->m1->Prop,QHB/\∀imbH,WimbH->
   ((LFd1d2).lP iH/\D.pO bH)\/((LFd1d2).go iH/\∃N:St->m1->Prop,(∀fH',NfH'->∃o,o<m/\W (i+1) ofH')/\∀vH',(LFd1d2).yld iHvH'->gvbH' λdl=>n {D with pO:=N,ct:=N,hU:=D.pO} dl):=by
 show(λimbH=>m=xs.β-i/\i≤xs.β/\cibH,QUl,3);rintro i m b H⟨rfl,I,p⟩;let(h1,h2):=uibHp;by_cases k:i<xs.β
 .refine .P2 ((xs,ys,xs[i],ys[i]'(EJkt),h1,h2,mO_,mO_),c (i+1),λfH'r=>(xs.β-(i+1),D'k,0,k,r),λvH'q=>?_);let(a,j,h,x,y,F,E,C,B,ζ,A,ζ):=q;have:=OPFh1;have:=OPEh2;subst j h;show sixyabHCB Ap
 .let e:i=xs.β:=D7k I
  subst e;show .UR ((xs,ys,h1,h2,t,0),wbHp)
def ku!(h:Ha<*.iT xs\/Ha<*.P' xs)(b:∀d2:uJ,(∀H':m1,H'a=Ha->d2.A7 H'xs)->∀k,R (LFQQUd2) H):xB! R [.uM x,.ο a] H:=by
 rcases h with h|h
 .exact (.lY x 0,.xJ a,_,xs,5,h,λk_=>b (.xJ a) QVhk)
 .exact (.lY x 0,.ls a,_,xs,5,h,λk_=>b (.ls a) QVhk)
structure NR QAw(xbA:bE)QTA QFO(fd:uP):Prop where
 ex:∃(uF:η)(z5:ψθ)(LYkVcR pm:η)(an:ψθ)(bY ct:η)(osl!:pVQMB),
  fd=q3xbAQR'QSAQIgLYkVcR pm an bY ct/\K.ς f=δQTN/\t9KbYbA=π
 C9:Y7KQAr=π
def NR.ok{P:nA}{w:o4}{K:qI}{st:cZ}(F:NRKxbA st fi)(S:n9Nps^hY st)(eN:∀vsHQ E,d vsHQ E->vs.β=ps.β)(a:∀(bY:η)(A:o7)(b7:γ Env)(s:Θ)(H:m1)(vs:γ V)(Q:oE)(E:r3),q4k^A.jq^envOfC bA (hY st) s⁻¹ fbY->d vsHQ E->
   ∃t,tR (aWmsPwK mg υ NbA (hY st) fbYAb7sH E).nox (nR st) t/\t {pO:=λ_H'=>Q .vS H',CF:=Q} (ZRNvs) H):mTPwK mg υms (k+1) fipsd:=by
 let(l,j,m,kV,cR,pm,an,bY,ct,e,ζ,lk,c):=F.ex;show V0 lk c SeN λAb7sHvsQ Egb=>?_;let(t,h,q):=abYAb7sHvsQ Egb;show(t,h.nox,q)
def rh!{P:nA}{w:o4}{K:qI}{mg:bE->ψη}{υ:n3}{st:cZ}{h ekVcR pm ct:η}(lk:K.ς f<*(h,i,.YN^q3xbA (p' st) (nR st) (hY st) ekVcR pm an (.ο c) ct,g))(b:t9K (.ο c) bA=π)(S:n9Nps^hY st)(eN:∀vsHQ E,d vsHQ E->vs.β=ps.β)(a:∀(A:o7)(b7:γ Env)(s:Θ)(H:m1)(vs:γ V)(Q:oE)(E:r3),q4k^A.jq^envOfC bA (hY st) s⁻¹ f^.ο c->d vsHQ E->
   ∃t,tR (aWmsPwK mg υ NbA (hY st) f (.ο c) Ab7sH E) (nR st) t/\t {pO:=λ_H'=>Q .vS H',CF:=Q} (ZRNvs) H):mTPwK mg υms (k+1) f (q3xbA (p' st) (nR st) (hY st) ekVcR pm an (.ο c) ct) psd:=V0 lk b SeNa
end _F
namespace _b
open _F
structure GV QAH(cWdY:θ)QA6(tbGym:θ):Prop where
 ex:∃dx,HdY<*.TM cW dx [("letters",.uM QBX,),("things",.ο t,),("words",.ο bG,),("ways",.ο y,),("marks",.ο m,)]
abbrev oI(ws:n0):γ V:=ws.Tx λw=>V.uM QMR
abbrev N3(cS:A3)QAH(ks:n0)QAJ:Prop:=vs.β=ks.β/\∀QAu QFi(v:V),ks[i]?<*k->vs[i]?<*v->pJcSHkv
def N3.Ki(h:N3cHksvs)QAp:N3cH'ksvs:=(h.1,λikvab=>(h.2 ikvab).Ki s)
def N3.snoc(h:N3dHksvs)(f:pJdHkv):N3dHQHi (vs++[v]):=by
 show(by rw[o9,o9,h.1];rfl,λik'eab=>?_);by_cases c:i<ks.β
 .rw [u1c]at a;rw[u1^by rw[h.1];show c]at b;show h.2 ik'eab
 .rw [w5^xGc]at a;rw[w5 (by rw[h.1];show xGc),h.1]at b;let hz:i-ks.β=0:=by
   have:=(m9a).1;simp at this;omega
  rw[hz]at a b;cases a;cases b;show f
abbrev C0 QAH QFh(R:n0):Prop:=fW.β=R.β/\∀QAu QCw(r:lU),fW[i]?<*a->R[i]?<*r->Ha<*.P'^mJr
structure MM QHZ(nL!:χ)(ks:n0)(R:n0):Prop where
 row:∀QRB(row:lU)QFi,R[r]?<*row->ks[r]?<*k->row.β=nL!/\∀(qx:χ),row[q]?<*x->ks[x]?<*gkq
inductive OR(cS:A3)QA6 QHZ(U:n0)QGp QAJ QAH QAR QA5:Prop
 |mk (kv:_) QPj (_:pJcSHkv) (_:k∈U) QPk (_:∀gsxsH',mIHH'->(H'gs<*.iT xs\/(Hgs=ε/\H'gs<*.P' xs))->xs.β=L.β->(∀(q:χ)(x:V),xs[q]?<*x->pJcSH' (gkq) x)->Q (.ο gs) H')
inductive PS(cS:A3)QVO(U:n0)QGp QAJ QAH QAR QA5:Prop
 |mk (kv:_) QPj (_:pJcSHkv) (_:k∈U) QPk (_:∀H',mIHH'->Q (.dW^mk k) H')
abbrev NF:ψχ->V
 |ε=>.vS
 |δ n=>.tV (n:ω)
inductive vx!(cW:θ)QAJ QAH QAR QA5:Prop
 |mk (x dx Lv:_) (_:vs=[.ο x,.uM QBX,v]) (_:Hx<*.TM cW dx []) (_:∀tbGymH',t≠bG->t≠y->t≠m->bG≠y->bG≠m->y≠m->Ht=ε->HbG=ε->Hy=ε->Hm=ε->(∀bo,b≠x->Hb<*o->H'b<*o)->GVH'cWxLtbGym->H't<*.P' [v]->H'bG<*.P' [.uM^lY []]->H'y<*.P' []->H'm<*.P' []->Q .vS H')
inductive OS(cW:θ)(cS:A3)QA6 QHZ QVO(U:n0)QGp(kIiM:θ)QAJ QAH QAR QA5:Prop
 | mk (s:lU) (eU:V) (most:ψχ) (_:vs=[.uM^lYL,eU,.ο kI,.ο iM,NF most]) (_:ww L) (_:pJcSH seU) (_:s∈U) (_:(∀k∈U,∀q,q<L.β->gkq∈U)) (_:U.β≤100000) (_:Rest! H) (_:∀(dYtbGym:θ)(ks:n0)(vks:γ V)(ws:n0)(fW:γθ)(R:n0)(B:γb9)(H':m1),mIHH'->GVH'cWdYLtbGym->H't<*.P' vks->N3cSH'ks vks->H'bG<*.P'^oIws->H'y<*.P'^fW.Tx V.ο->C0H'fWR->H'm<*.P'^B.Tx V.dW->
  xS g L s ks ws R.β 0->MMg L.β ksR->B.β=R.β->(∀(r:χ)(k:lU)(b:b9),ks[r]?<*k->B[r]?<*b->b=mk k)->(∀k∈ks,k∈U)->ks.β≤U.β->(R.β=ks.β\/∃n,most=δn/\n<ks.β)->Q (.ο dY) H')
end _b
namespace _F
open PySem.Spec PyProof.Rows
namespace Uz
set_option maxHeartbeats 1000000 in
def wX!(d1:uJ)(eE:pVη):Meets! (Builtin.«enumerate.__new__» ([.TB "enumerate",d1.z6],[])) (λ_ R s=>d1.b5 eE s.ρ/\
   R (.ok^.ret^.ο (s.ρ.Uu d1.it0).u_.fC) {s with ρ:=(s.ρ.Uu d1.it0).Uu {dM:=.TB "enumerate",mY:=.xq #[.ε,.bC ν,.ο s⁻¹,oV 0,.ε,.ε]} }):=
 .of_wp λΩw A R sh=>by
  let(b5,g,d,e,os):=s;let(a,h):=h;let b:=sq!
  wp_walk using TRa
  show wpAny_stack_any! λst=>mR ?_;split
  .rename_i c _ _ _ _ _;cases(c==η.TB "enumerate")<;>(wp_walk using TRa;show(2,h))
  .wp_walk using TRa
   show(2,h)
def FX! QTi(f:d.b5 eE s.ρ)(h:∀h',IsEnum! h'QBP s⁻¹ 0 .ε->d.pl s⁻¹ 0 h'->QBY->Q (.ο QBP) {s with ρ:=h'}):lZQASA (wG (.TB "enumerate") [d.z6]) Q E s:=by
 show callType_new! F.called_enumerate (!0) (F.typeCall_enumerate_1 _) (F.newCall_enumerate_1 _) QKU F.entry_enumerate_new (wX! deE) (f,3);generalize c:s.ρ.Uu d.it0=G;let hz:G.u_.fC=s⁻¹+1:=by rw[<-c];show yW ..
 let e:IsEnum! (G.Uu {dM:=.TB "enumerate",mY:=.xq #[.ε,.bC ν,.ο s⁻¹,oV 0,.ε,.ε]}) QBP s⁻¹ 0 .ε:=by
  let q:=t8G (o:={dM:=.TB "enumerate",mY:=.xq #[.ε,.bC ν,.ο s⁻¹,oV 0,.ε,.ε]}) ζ;rw[hz]at q;show q
 change _/\_;rw[hz];show(QKK,h_e (hu!^nN_^by rw[<-c];show t8_^gB! _) λbox=>nN_^by rw[<-c];show nN_x)
end Uz
abbrev FY(d:uJ):zI:=⟨λiH=>∃xsx,d.A7 Hxs/\xs[i]?<*x,λiHvH'=>∃pxxs,d.A7 Hxs/\xs[i]?=δx/\v=.ο p/\Hp=ε/\H'=mEHpQE8,λiH=>∃xs,d.A7 Hxs/\i=xs.β⟩
def yX! QC1(d:uJ)(e it:θ)(n:e≠it):H2PwK (.Zv es kt pt) (FYd) [e,it] e (λih=>(∃a,IsEnum! h e it ia)/\d.pl it ih)  where
 mem:=by simp
 obj:=λih Mcr=>by
  let((a,f),l):=M;simp only[u3,i7,w7]at r;rcases r with ζ|rfl
  .exact (_,f,λvq=>by cases q)
  .exact PNl
 AP:=λihh'Ok=>by let((a,f),l):=O;show((a,ke (!1) _f),GRl λoq=>k it (!1) _q)
 item:=by
  rintro X Q hw R r i t s σ H E I p⟨⟨a,f⟩,l⟩⟨xs,x,B,J⟩;subst Q hw R;let(Z,P1,tJ,U,Y,m,b1,W):=GT (A:=X.A.in1) IQMOB (p it (!1)).1 l;let L:e∉Z:=λz=>(Yez).Q5 n λ⟨u,y⟩=>by rw[(pe (!1)).1]at y;cases y
  show wpAny_pyNext_enum_itemD! Ufm (m9J).1 nL λvgDcNdI st F hsz kW=>(2,3);show wpAny_letOwnedTupleGo_enum! (s:={s with ρ:=g,mU:=D+1}) dI λg' ge! T=>?_;let C:∀bo,b≠e->g.Ξ b<*o->g'.Ξ b<*o:=λbojq=>(T.2 bj).ξ q;let ne:s⁻¹≠e:=IT^oNf;let iT:qN X.Ω X.w (mEH s⁻¹ QE8) g' s⁻¹ QE8:=
   (m6^by change 2≤16777216;decide,[.tV iD,v],.nF (_,0)^.nF (WivxcNJ) .nS,(_,C__ ne F,0,(0),0))
  show(.ο s⁻¹,_,I.turnedNew (S:=[e,it]) (h':=g') (t':=D+1) (λbojq=>Cbo (λz=>j^by simp[z])^kWbo (λz=>j^by simp[z]) (λz=>j^by simp[z]) q) piT,0,
   (_,x,xs,B,J,0,I.rv.ax^nZ_,0),((_,by rw[ω.natCast_succ];show ge!),GR (b1__ st) λoq=>C_o (λz=>n z.UH) q),λbj=>?_)
  let lt:b<s⁻¹:=by
   let(o1,e1,_):=PNl;simp only[u3,i7,w7]at j;rcases j with ζ|rfl
   .exact oNf
   .exact oNe1
  rw[a'^p8 lt];show(pbj).1
 done:=by
  rintro X Q hw R r i t s σ H E I p⟨⟨a,f⟩,l⟩⟨xs,B,ζ⟩;subst Q hw R;let(Z,P1,tJ,U,Y,m,b1,W):=GT (A:=X.A.in1) IQMOB (p it (!1)).1 l;show wpAny_pyNext_enum_endD! Ufm λg T=>(0,3);show I.turnedL (S:=[e,it]) (λbojq=>Tbo (λz=>j^by simp[z]) q) p
 self:=λ_____ Nh=>by let((_,f),_):=N;show wpAny_pyIter_enum! f h
inductive Mi! QBn QAJ QD4:Prop
 |mk (d:uJ) QCR (_:vs=[d.eT]) (_:d.A7 H1xs) (_:∀k,R (FY^d.y4 k) H1)
abbrev Mj! QHR:TI:=λσH R=>tσH^Mi! R
def UZ{F:γbI}{w:χ}{v:nV}QGn(B:pUX "enumerate")(A:X.mg "enumerate"=ε)(C:qTX [a] r)(x:QLI>>>4)(j:QCW>>>4):vZX (.Zv Fwv) (.Wm (.Ip "enumerate" p) [a] [] b8)^Mj! r:=by
 intro e soH R Ih;show y0^CJIB A WC.Rows.boot_enumerate^WC.Rows.Wx (nb (Cb8e soH_ Ih) λusbz=>?_) xj;let(vs,J,i,u,d,xs,ζ,y,q):=z;let(L,ζ,t):=x5u;let(k,ζ):=m_! t;let q:=qk;let(eE,l):=UOi^TU (k:=k) y;generalize d.y4 k=d at q l;show Uz.FX l λgn ED=>wpAny_pyIter_enum! (s:={b with ρ:=g}) n ?_;show(_,[b⁻¹+1,b⁻¹],_,FYd,J,0,i.Zo (t':=b.mU) D,yX! d__^VZ (!6),((_,n),E),λcm=>?_,q);let f:b⁻¹≤c:=by
  simp only[u3,i7,w7]at m;rcases m with ζ|rfl
  .exact Zn! __
  .exact nZ_
 show i.fpOk f^i.rv.ax f
def Iq!{g:TG}{k:oW}QHx(b:χ->St->m1->Prop)(u:b 0 aH)(r:∀iaH,b iaH->d.A7 Hxs)(o:∀ixpaH,xs[i]?<*x->Hp=ε->b iaH->gQAla (mEHpQE8) λcj=>k {D with pO:=b (i+1),ct:=b (i+1),hU:=D.pO} cj)(s:∀aH,b xs.β aH->D.pO aH):∃W:χ->χ->St->m1->Prop,QEr/\∀imaH,WimaH->((FYd).lP iH/\D.pO aH)\/((FYd).go iH/\∃N:St->m1->Prop,(∀eH',NeH'->∃l,l<m/\W (i+1) l eH')/\∀vH',(FYd).yld iHvH'->gvaH' λcj=>k {D with pO:=N,ct:=N,hU:=D.pO} cj):=by
 show(λimaH=>m=xs.β-i/\i≤xs.β/\b iaH,(xs.β,!1,pT_,u),3);rintro i m a H⟨rfl,w,p⟩;let h:=riaHp;by_cases f:i<xs.β
 .refine .P2 ((xs,xs[i],h,mOf),b (i+1),λeH'n=>(xs.β-(i+1),D'f,0,f,n),3);rintro v H'⟨q,x,ys,h1,h2,ζ,t,ζ⟩;obtain ζ:=OPh1h;show oixqaHh2tp
 .obtain ζ:i=xs.β:=D7fw
  show .UR ((xs,h,0),saHp)
def QD!{g:TG}{h:oW}QHx QTb(s:d 0 aH)(n:∀icpaH,x.Ym[i]?<*c->Hp=ε->diaH->gQAla (mEHp^.iT [.tV (i:ω),.uM ⟨#[c]⟩]) λbf=>h {D with pO:=d (i+1),ct:=d (i+1),hU:=D.pO} bf)(o:∀aH,d x.β aH->D.pO aH):∃W:χ->χ->St->m1->Prop,QEr/\∀imaH,WimaH->((FYQQU).lP iH/\D.pO aH)\/((FYQQU).go iH/\∃N:St->m1->Prop,(∀eH',NeH'->∃j,j<m/\W (i+1) jeH')/\∀vH',(FYQQU).yld iHvH'->gvaH' λbf=>h {D with pO:=N,ct:=N,hU:=D.pO} bf):=by
 show Iq! (xs:=x.Ym.Zh.Tx λc=>V.uM ⟨#[c]⟩) d s (λ____=>rfl) (λivpaHlb5q=>?_) λaHq=>oaH ?_
 .rw [na]at l;let(c,r,ζ):=r7l;show nicpaH (by rw[<-X0];show r) b5q
 .rwa [j',IF]at q
end _F
namespace _b
open _F
def EW(h:n≤100000):n<Φ:=by rw[w9];lia
def QE QTO(h:A):if (!decide (V.tV n=V.vS))=π then A else B:=by
 rw[pI^λz=>by cases z];show C3h
structure WI QLB QBg(H0H:m1)(cW:θ)(cS:A3)QA6(dYtbGymd:θ)(ks:n0)(vks:γ V)(ws:n0)QFh(R:n0)QAt:Prop where
 jN:mIH0H
 obj:GVHcWdYLtbGym
 fP:Ht<*.P' vks
 H9:N3cSHks vks
 hw:HbG<*.P'^oIws
 d7:Hy<*.P' QDE
 wr:C0HfWR
 hm:Hm<*.P' QGw
 iI:y8PwHdcSks
 n1:H0t=ε
 n2:H0bG=ε
 Us:H0y=ε
 rt!:H0m=ε
 ef!:H0d=ε
 d1:t≠bG
 d2:t≠y
 d3:t≠m
 d4:bG≠y
 d5:bG≠m
 d6:y≠m
 e1:d≠t
 e2:d≠bG
 e3:d≠y
 e4:d≠m
 e5:d≠dY
 lN:∀a∈fW,a≠t/\a≠bG/\a≠y/\a≠m/\a≠d
section
variable{P:nA}{w:o4}{H0H:m1}{cW:θ}{cS:A3}{L:lU}{dYtbGymd:θ}{ks:n0}{vks:γ V}{ws:n0}{fW:γθ}{R:n0}{B:γb9}
def WI.I9 QAq QBv:WIPwH0H'cWcSLdYtbGymdks vks wsfWRB:=
 {h with
  jN:=h.jN.ξ s
  obj:=by let(dx,e):=h.obj.ex;show (dx,s__e)
  fP:=s__ h.fP
  H9:=h.H9.Ki λbxse=>s__e
  hw:=s__ h.hw
  d7:=s__ h.d7
  wr:=(h.wr.1,λiarh1h2=>s__^h.wr.2 iarh1h2)
  hm:=s__ h.hm
  iI:=h.iI.Ki λboe_=>s__e}
def WI.beside QAq(j:Ha<*.P' xs)(k:H0a=ε)(v:a≠t)(s:a≠bG)(q:a≠y)(p:a≠m)(n:a≠d)(l:a∉fW):WIPwH0QGYcWcSLdYtbGymdks vks wsfWRB:=by
 let f:∀QBGQUL,Hb<*u->b≠a->mEHaob<*u:=λeg=>by rw[a'g];show e
 let c:∀bzs,Hb<*.iT zs->mEHaob<*.iT zs:=λbzse=>fe^qSej (!5);show {h with
  jN:=mI.X6 h.jN k
  obj:=by let(dx,e):=h.obj.ex;show (dx,fe^qSej (!5))
  fP:=f h.fP^Ne.UH v
  H9:=h.H9.Ki c
  hw:=f h.hw^Ne.UH s
  d7:=f h.d7^Ne.UH q
  wr:=(h.wr.1,λibrh1h2=>fQRX λz=>l^by rw[<-z];show v7h1)
  hm:=f h.hm^Ne.UH p
  iI:=h.iI.Ki λbueg=>by
   rcases g with ζ|⟨zs,ζ⟩
   .exact fe^Ne.UH n
   .exact cbzse}
def WI.new QAq(A:pJcSHkv)(s:y8Pw (mEHdn) dcSQHi):WIPwH0 (mEQI9bGQMS) cWcSLdYtbGymdQHi (vks++[v]) (ws++[a]) fWRB:=by
 let o:∃φ,Hd<*.ext φ:=by
  let j:=h.iI;unfold y8 at j;by_cases c:cS=.i
  .rw [mGc]at j;show(_,j.1)
  .rw [mFc]at j;let(bZ,e,_):=j;show(_,e)
 let(φ,o):=o;let l:∀QBGQUL,Hb<*u->b≠d->b≠t->b≠bG->mEQI9bGQMSb<*u:=λeh1h2D=>by rw[a'D,a'h2,a'h1];show e
 let g:∀bzs,Hb<*.iT zs->mE (mE (mEHdn) t^.P' (vks++[v])) bG (.P' (oIws++[.uM^lYa])) b<*.iT zs:=λbzse=>l e (qSeo (!5)) (qSe h.fP (!5))^qSe h.hw (!5);let E:=h.obj.ex;let(dx,q):=E;show {h with
  jN:=mI.X6 (mI.X6 (mI.X6 h.jN h.ef) h.n1) h.n2
  obj:=(dx,lq (Ne.UH h.e5) (qSq h.fP (!5))^qSq h.hw (!5))
  fP:=by rw[a' h.d1,hJ]
  H9:=(h.H9.Ki g).snoc^A.Ki g
  hw:=by rw[hJ,oI,oI,pY];rfl
  d7:=l h.d7 (Ne.UH h.e3) (Ne.UH h.d2)^Ne.UH h.d4
  wr:=(h.wr.1,λibrh1h2=>lQRX (h.lN bQSM).2.2.2.2 (h.lN bQSM).1 (h.lN bQSM).2.1)
  hm:=l h.hm (Ne.UH h.e4) (Ne.UH h.d3)^Ne.UH h.d5
  iI:=s.Ki λbueC=>by
   rcases C with ζ|⟨zs,ζ⟩
   .rw [a' h.e2,a' h.e1];show e
   .let p:b≠d:=λz=>by
     rw[z,hJ]at e;let f:=s;unfold y8 at f;by_cases c:cS=.i
     .rw [mGc,hJ]at f;rw[e]at f;cases f.1
     .rw [mFc]at f;let(bZ,x,_):=f;rw[hJ,e]at x;cases x
    rw[a'p]at e;show gbzse}
def WI.row QAq(o:Ha<*.P'^mJr)(x:a≠t)(v:a≠bG)(l:a≠y)(s:a≠m)(q:a≠d):WIPwH0 (mEHyQMT) cWcSLdYtbGymdks vks ws (fW++[a]) (R++[r]) B:=by
 let f:∀QBGQUL,Hb<*u->b≠y->mEHyQMTb<*u:=λeg=>by rw[a'g];show e
 let c:∀bzs,Hb<*.iT zs->mEHy (.P' (fW.Tx V.ο++[.ο a])) b<*.iT zs:=λbzse=>fe^qSe h.d7 (!5);let p:=h.obj.ex;let(dx,k):=p;show {h with
  jN:=mI.X6 h.jN h.Us
  obj:=(dx,fk^qSk h.d7 (!5))
  fP:=f h.fP h.d2
  H9:=h.H9.Ki c
  hw:=f h.hw h.d4
  d7:=by rw[hJ,pY];rfl
  wr:=by
   show(by rw[o9,o9,h.wr.1];rfl,λibnh1h2=>?_);by_cases j:i<fW.β
   .rw [u1j]at h1;rw[u1^by rw[<-h.wr.1];show j]at h2;show f (h.wr.2 ibnh1h2) (h.lN bQSM).2.2.1
   .rw [w5^xGj]at h1;rw[w5 (by rw[<-h.wr.1];show xGj),<-h.wr.1]at h2;let hz:i-fW.β=0:=by
     have:=(m9h1).1;simp at this;omega
    rw[hz]at h1 h2;cases h1;cases h2;show fol
  hm:=f h.hm^Ne.UH h.d6
  iI:=h.iI.Ki λbueg=>by
   rcases g with ζ|⟨zs,ζ⟩
   .exact fe h.e3
   .exact cbzse
  lN:=λbg=>by
   rcases lp.mp g with z|z
   .exact h.lN bz
   .rw [o6z];show(x,v,l,s,q)}
def WI.mark QAq:WIPwH0 (mEHmQM_) cWcSLdYtbGymdks vks wsfWR (B++[b]):=by
 let f:∀{c:θ}QUL,Hc<*u->c≠m->mEHmQM_c<*u:=λeg=>by rw[a'g];show e
 let a:∀czs,Hc<*.iT zs->mEHm (.P' (B.Tx V.dW++[.dW b])) c<*.iT zs:=λczse=>fe^qSe h.hm (!5);let k:=h.obj.ex;let(dx,j):=k;show {h with
  jN:=mI.X6 h.jN h.rt
  obj:=(dx,fj^qSj h.hm (!5))
  fP:=f h.fP h.d3
  H9:=h.H9.Ki a
  hw:=f h.hw h.d5
  d7:=f h.d7 h.d6
  wr:=(h.wr.1,λicrh1h2=>f (h.wr.2 icrh1h2) (h.lN cQSM).2.2.2.1)
  hm:=by rw[hJ,pY];rfl
  iI:=h.iI.Ki λcueg=>by
   rcases g with ζ|⟨zs,ζ⟩
   .exact fe h.e4
   .exact a czse}
end
def KY QJM(x:χ):mJQLg=mJl++[V.tV (x:ω)]:=by simp[mJ]
def YM QGo QL0{xy:a}QEg(h:l[i]?<*y):QLg[i]?<*y:=by
 rw[u1 (m9h).1];show h
def Lg! QGo QL0{xy:a}(b:i<l.β)(h:QLg[i]?<*y):l[i]?<*y:=by
 rw[u1b]at h;show h
def EY QGo QL0{xy:a}(e:QLg[i]?<*y):l[i]?<*y\/(i=l.β/\y=x):=by
 by_cases b:i<l.β
 .rw [u1b]at e;show .UR e
 .rw [w5^MIb]at e;have:i-l.β=0:=by
   have:=(m9e).1;simp at this;omega
  rw[this]at e;show .P2 (Tz! this b,(ψ.δ.WZ e).UH)
def PK!(h:k∈ts):DPtsk=δ^ts.UL k/\ts[ts.UL k]?<*k:=(mGh,by rw[mO^wZh,WW])
structure CT QHZ(L s0:lU)QVO(UkswsR:n0)QAt(q:χ):Prop where
 g7:xSgL s0ksws R.β q
 le:R.β≤ks.β
 ways!:MMg L.β ksR
 dW:B.β=R.β
 mks!:∀QRBQFiQKD,ks[r]?<*k->B[r]?<*b->b=mk k
 hG:∀k∈ks,k∈U
 left:UEUks+ks.β≤U.β
 wl:∀a∈ws,a.β≤ks.β
abbrev L5 QHZ(ks:n0)QCv(r:lU)(q:χ):Prop:=r.β=q/\∀(q'x:χ)QFi,ks[n]?<*k->r[q']?<*x->ks[x]?<*gkq'
section
variable{g:lU->χ->lU}{L s0:lU}{mk:lU->b9}{UkswsR:n0}{B:γb9}{qn:χ}{rak0:lU}
def CT.ZR(c:s0∈U):CTgL s0 mk U [s0] [[]] [] [] 0 where
 g7:=xS.ZR gL s0
 le:=pT_
 ways!:=⟨λrdkh=>by simp at h⟩
 dW:=ζ
 mks!:=λr kb_h=>by simp at h
 hG:=λke=>by rw[o6e];show c
 left:=by
  let h1:=jo! (U:=U) (ts:=[]) c (!1);let h2:UEU ([]:n0)≤U.β:=γ.countP_le_length;simp at h1⊢;lia
 wl:=λaf=>by rw[o6f];show pT_
def CT.old QMU(b:L.qg)QVi(f:ws[R.β]?<*a)(c:q<L.β)(d:gk0q∈ks):CTgL s0 mk UkswsRB (q+1):=
 {h with g7:=h.g7.old}
def CT.new QMU(j:L.qg)(d:ks[R.β]?<*k0)(f:ws[R.β]?<*a)(o:q<L.β)(e:gk0q∉ks)(i:gk0q∈U):CTgL s0 mk U (ks++[gk0q]) (ws++[a++[L.TC q 0]]) RB (q+1) where
 g7:=h.g7.new jdfoe
 le:=by rw[o9];show n5 h.le QTQ
 ways!:=⟨λrckh1h2=>by
  let m:r<ks.β:=pP (m9h1).1 h.le;let(t,s):=h.ways.row rckh1^Lg! mh2;show(t,λqxl=>YM^sqxl)⟩
 dW:=h.dW
 mks!:=λr kbh1h2=>h.mks r kb (Lg! (pP (by rw[<-h.dW];show(m9h2).1) h.le) h1) h2
 hG:=λkd=>by
  rcases lp.mp d with z|z
  .exact h.hG kz
  .rw [o6z];show i
 left:=by
  let h1:=jo! (U:=U) (ts:=ks) ie;let h2:=h.left;rw[o9];change UEU (ks++[gk0q])+(ks.β+1)≤U.β;show Ji! h1h2
 wl:=λbp=>by
  rw[o9];rcases lp.mp p with z|z
  .exact n5 (h.wl bz) QTQ
  .rw [o6z,o9];show χ.add_le_add_right (h.wl a^v7f) 1
def CT.next(h:CTgL s0 mk UkswsRB L.β)QVi(d:L5gks R.β r L.β):CTgL s0 mk Uksws (R++[r]) (B++[mk k0]) 0 where
 g7:=h.g7.old
 le:=by rw[o9];show(m9e).1
 ways!:=⟨λickh1h2=>by
  rcases EYh1 with z|⟨rfl,ζ⟩
  .exact h.ways.row ickzh2
  .exact (d.1,λqxf=>d.2 qxkh2f)⟩
 dW:=by rw[o9,o9,h.dW];rfl
 mks!:=λikbh1h2=>by
  rcases EYh2 with z|⟨rfl,ζ⟩
  .exact h.mks ikbh1z
  .rw [h.dW,e]at h1;cases h1;rfl
 hG:=h.hG
 left:=h.left
 wl:=h.wl
def L5.nS:L5gksn [] 0:=(0,λqxk_h=>by simp at h)
def L5.grow(h:L5gksnrq)(c:n<ks.β):L5g (ks++[x]) nrq:=(h.1,λb ykh1h2=>YM^h.2 b yk (Lg! ch1) h2)
def L5.snoc(h:L5gksnrq)(d:ks[n]?<*k0)(c:gk0q∈ks):L5gksn (r++[ks.UL QOp]) (q+1):=by
 show(by rw[o9,h.1];rfl,λbxkh1h2=>?_);rcases EYh2 with z|⟨rfl,ζ⟩
 .exact h.2 bxkh1z
 .rw [d]at h1;cases h1;rw[h.1];show(PK! c).2
end
abbrev UA QDu QFi(q:χ):lU:=[(W.TC QSN []).TC q 0]
abbrev B2 QDu:n0:=(γ.b_ W.β).Tx λn=>[n]
abbrev mkW QAt QFi:b9:=B.TC QSNν
def cC!:[n]∈B2W↔n<W.β:=by
 unfold B2;rw[WB!];constructor
 .rintro⟨m,a,e⟩;injection e with e;rw[<-e];show Ug.mp a
 .exact λh=>(n,Ug.Ui h,0)
def uX! QDu:(B2W).β=W.β:=by rw[B2,j',rA]
def ow!(h:k∈B2W):∃n,k=[n]/\n<W.β:=by
 unfold B2 at h;let(n,a,e):=WB.mp h;show(n,e.UH,Ug.mp a)
def QF QUM:∀k∈B2W,∀q,q<L.β->UAWkq∈B2W:=λkcqa=>by
 let(n,ζ,b):=ow! c;show cC.Ui ?_;change (W.TC n []).TC q 0<W.β;let e:W.TC n []=W[n]:=by rw[pu,mOb];rfl
 rw[e];let(h1,h2):=d.row W[n]^vOb;let f:W[n].TC q 0=W[n][q]'(by rw[h1];show a):=by rw[pu,mO^by rw[h1];show a];rfl
 rw[f];show h2_^vO_
def tp! QRB:∀QNVQHy,w.β=m->be QOBL [r] w=[n6L Wrw]:=by
 intro m;induction m with
 |qW=>
  intro w hw;rw[Wc.mp hw];rfl
 |qV m a=>
  intro w hw;obtain⟨c,v,ζ⟩:∃cv,w=v++[c]:=(w.getLast (by intro z;rw[z]at hw;cases hw),w.FD,(γ.Wh _).UH);rw[jg!,avQDt,EV];rfl
def tF.Xk QPS QAp:tFH'mL WB:=by
 let(d,mk,c,h1,h2,j,g,f):=h;show(d,mk,c,s__h1,s__h2,s__j,g,λire=>by let(ws,a,b):=fire;show (ws,a,s__b))
def FZ(s:x8P0HH')(a:tZH P0hN):∀bxs,Hb<*.iT xs->H'b<*.iT xs:=λbxse=>sb_ (λz=>by
 let(ps,c,_):=a;rw[z,c]at e;cases e) e
def J1(a:x8P0Hg)(b:x8P0gf):x8P0Hf:=λc ode=>bcod^a c ode
def Dh! QBv:x8P0HH':=λbo_e=>sboe
def yd! QLU(h:n≠0):decide (V.tV (n:ω)=V.tV 0)=ν:=pI λz=>h^ω.ofNat_inj.mp^V.tV.WZ z
def ly!:TriplesOk! (#[]:pVη).Zh:=trivial
def GW(h:tZH P0hN)QBv:tZH'P0hN:=by
 let(ps,c,h2,d):=h;show(ps,s__c,h2,λxb=>(d xb).imp id λa=>by let(g,f,e):=a;show(g,f,s__e))
end _b
namespace _F
open PySem.Spec PyProof.Rows
section
variable{X:n8}
def uH!(w:X.TN=π):wNX (.Rm "max") (λxsHQ=>∃(a:θ)(ns:γω),xs=[V.ο a]/\Ha=δ^.P' QBI/\0<ns.β/\∀M∈ns,QUp->Q (.tV M) H):=by
 intro d s AHxsusQ Irh;let(a,ns,ζ,y,g,q):=h;let(B,ζ,n):=x5r;cases n;let(eE,m,p,hz):=I.oh^pG.of y;let l:=DB! m;let i:s.ρ.IsList a eE.Λ:=p.Xt;let(xs,e):=l.allInts.items;let b:ns=xs.Zh.Tx QBA:=by rw[<-l.numsOf,<-nums_intItems!,<-e]
 let hsz:0<xs.fC:=by
  rw[b,j',IF]at g;show g
 rw[e]at i;show max_intList! (I.ok.hd w) i hsz λvh'Cou=>?_;let(t,ζ):=intItems_at! o;let(h1,h2):=argBest_gt! (numAt! xs) (xs.fC-1);show(.tV _,H,I.Zo u,(t,0),q_ ?_ λxf=>?_)
 .rw [b,numAt_eq!];show Δ.getD_mem (by rw[j',IF];show Jx! hsz h1)
 .rw [b]at f;let(j,k):=tl.mp f;let c:=(m9k).1;rw[j',IF]at c;have:=h2j (!6);let z:numAt! xsj=x:=by
   rw[numAt_eq!,pu,k];rfl
  rw[<-z];show this
inductive rIndexI!(x:V)QAJ QAH QAR:Prop
 |mk (l:θ) QDn (n:ω) QGF (_:vs=[.tV n]) (_:Hl<*.P' QBI) (_:n∈ns) (_:Q (.tV (ns.UL n:χ)) H)
def we!:SMX "list.index" rIndexI!:=by
 intro C s UHxvsvusQ IL Mh;let(l,bs,d,ζ,ζ,E,R,q):=h;cases L;let(u,ζ,N):=M.uR;let(J,ζ):=(show ∃t,u=η.tV dt from N);let(z,eE,n,r,W,e):=I.lstM E;let f:eE.β=bs.β:=by rw[<-r.β,j']
 let o:bs.UL d<bs.β:=wZR;let k:∀QIL(A:j<eE.Λ.fC),∃(g:j<bs.β)(t:Tok),eE.Λ[j]=.tV bs[j] t:=λj A=>by
  let g:j<bs.β:=by simpa[f]using A
  show(g,3);let(a,T,O):=r.get (i:=j) (x:=.tV bs[j]) (by rw[na,mOg];rfl);let(t,ζ):=(show ∃t,a=η.tV bs[j] t from O);let(_,q):=m9T;show(t,by simpa using q)
 let B:((bs.UL d:χ):ω)<2^63-1:=by
  let S:(bs.Tx V.tV).β≤Φ:=(I.P' E).choose_spec.choose_spec.2.2;rw[j',w9]at S;show Jm! o S
 show call_meets! F.slot_list_index QKK F.entry_list_index QNT (Wj.list_indexAt l eE.Λ nε #[] (.tV d J) (λy=>match y with|.tV b _=>b==d|_=>ν) (bs.UL d) QRY B ?_ ?_) (e,3,QDy)
 .obtain ⟨g,t,w⟩:=k (bs.UL d) QRY;rw[w];change (bs[bs.UL d]==d)=π;rw[WWg];show YJd
 .intro m hm2! D;let(g,t,w):=km hm2!;rw[w];change (bs[m]==d)=ν;by_cases p:bs[m]=d
  .have:=_b.Fo (l:=bs) (c:=d) (i:=m) (by rw[mOg,p]);lia
  .exact Ul.Ui p
 .intro y P;let(j,A,ζ):=pV.mem_iff_getElem.mp P;let(g,t,w):=kj A;rw[w];show Wj.sf.int_int ____
def Ar! QAw(b:mPXea)(c:I8ef X.fN QFN=oFe X.fN)(d:(X.K=K)>>>4):mPXQHe^nD! Kaf:=by
 subst d;show vAbc
def bx!{c a:nV}(K:qI)(i:mPXo to)(j:qTX [e] t)(k:(X.K=K)>>>4)(f:(I8o "index" X.fN^oFo X.fN=oFo X.fN)>>>4)(g:(((pNa^Ψ [e] X.fN).u7 (λx=>!x.1)&&(backToKw! a^ZW [] X.fN).u7 (λx=>x.1.BC)
   && decide ([e].β+([]:γ Keyword).β+(if ([]:γ Keyword).Yj then 0 else 1)<30))=π)>>>4)(d:((c.endLine==a.Zm)=π)>>>4)(h:(Ψ [e] X.fN=(ν,oFe X.fN,)::Ψ [] X.fN)>>>4)(b:((pNa^Ψ [] X.fN).I9 (·.1)=ν)>>>4):mPX (.Wm (.Za o "index" c) [e] [] a)^vFK "list" rIndexI! to t:=by
 subst k;show LUI4 Δ.F.slot_list_index Δ.F.type_list_index we! ijfgdhb
end
end _F
namespace _b
open _F
abbrev Oo! QAH QFh QDu:Prop:=∀QAu(r:θ),fW[i]?<*r->∃ws,W[i]?=δws/\∃o,(o=.P' QOc\/o=.iT QOc)/\Hr<*o
def Vh!:∀{ns:lU},0<ns.β->∃M∈ns,∀x∈ns,x≤M
 |[],h=>by simp at h
 |[a],_=>(a,!1,λxc=>by rw[o6c];show nZ_)
 |a::b::r,_=>by
  let(M,h1,h2):=Vh! (ns:=b::r) (!1);by_cases h:a≤M
  .exact (M,qO_h1,λxc=>by
    rcases u3.mp c with ζ|z
    .exact h
    .exact h2xz)
  .exact (a,!1,λxc=>by
    rcases u3.mp c with ζ|z
    .exact nZ_
    .have:=h2xz;lia)
def ao! QCv:∀QJM,(zsl).UL (n:ω)=l.UL n
 |[]=>rfl
 |x::l=>by
  change ((x:ω)::zsl).UL (n:ω)=_;rw[idxOf_cons!,idxOf_cons!,ao! nl];by_cases h:x=n
  .rw [h];simp
  .rw [Ul.Ui h,Ul.Ui^λe=>h^ω.ofNat_inj.mp e]
end _b
namespace _b
section
variable{κ:Type}[wAκ]
def Ba!:∀QLe,∃r,zUbks=b++r
 |[],b=>([],(vPb).UH)
 |a::ks,b=>by
  change ∃r,zU (if a∈b then b else b++[a]) ks=b++r;by_cases h:a∈b
  .rw [mGh];show Ba! ksb
  .rw [mFh];let(r,e):=Ba! ks (b++[a]);show([a]++r,by rw[e,u4])
def i_!:∀QLe,b.qg->(zUbks).qg
 |[],_,h=>h
 |a::ks,b,h=>by
  change (zU (if a∈b then b else b++[a]) ks).qg;by_cases c:a∈b
  .rw [mGc];show i_! ksbh
  .rw [mFc];show i_! ks_ ?_;rw[γ.nodup_append];show(h,!1,λxdyfe=>?_);rw[o6f]at e;rw[e]at d;show c d
def QG QI0:(pAks).qg:=i_! ks [] γ.nodup_nil
def ti! QI1(h:0<ks.β):(qRks).TC 0 0=0:=by
 cases ks with
 |nS=>simp at h
 |nF k ks=>
  rw[gb! (k:=k) ζ];let(r,e):=Ba! ks [k];have:pA (k::ks)=[k]++r:=by
   change zU (if k∈[]then[]else[]++[k]) ks=_;rw[mF (!1)];show e
  rw[this];simp
def jl! QI1{Mj:χ}(h:M∈qRks)(e:j≤M):j∈qRks:=by
 let(k,d,ζ):=WB.mp h;let a:j<(pAks).β:=VMe^wZ^mem_dis.Ui d;let c:(pAks)[j]∈ks:=mem_dis.mp^vOa;show WB.Ui ((pAks)[j],c,3);let b:=QG ks;let h2:(pAks).UL (pAks)[j]<(pAks).β:=wZ^vOa;show(getElem_inj! b).mp^WWh2
end
section
variable{L:lU}{W:n0}{B:γb9}{k:χ}
def Ml! QBR:(nYWBk).TC 0 0=0:=by
 cases k with
 |qW=>show ti! (by rw[h.dW];show h.n1)
 |qV k=>show ti! (by rw[DG];show h.n1)
def UX!(h:M∈nYWBk)(a:j≤M):j∈nYWBk:=by
 cases k with
 |qW=>show jl! ha
 |qV k=>show jl! ha
end
abbrev xT(R:n0)(gU:lU)QNV:n0:=(γ.b_ m).Tx λj=>(R.TC (gU.UL j) []).Tx λg=>gU.TC g 0
abbrev CU QLu(gU:lU)QNV:γb9:=(γ.b_ m).Tx λj=>Bm.TC (gU.UL j) ν
def jx!(h:j<m):(xTRam).TC j []=(R.TC (a.UL j) []).Tx λg=>a.TC g 0:=by
 rw[xT,pu,na,yUh];rfl
def ut!(h:j<m):(CU Bm a m).TC jν=Bm.TC (a.UL j) ν:=by
 rw[CU,pu,na,yUh];rfl
structure GA(gU:lU)QNV:Prop where
 b8:0<m
 lt:∀x∈gU,x<m
 A7:∀j<m,j∈gU
section
variable{L:lU}{R:n0}{Bm:γb9}{km:χ}
def uq!{l:lU}(h:i<l.β):l.TC i 0∈l:=by
 rw[pu,mOh];show vOh
def LZ QRZ QD1(c:j<m):(nYR Bm k).UL j<R.β/\pr R Bm k^(nYR Bm k).UL j=j:=by
 let h1:=wZ^b.A7 jc;show(by rw[BGa]at h1;show h1,3);rw[pr,pu,mOh1];show WWh1
def ih!(c:GAQAUm)QD1(b:r<R.β):pr R Bm kr<m:=c.lt _ (uq!^by rw[BGa];show b)
def OT QRZ QD1:oOLQDHQJW where
 lt:=a.lt
 n1:=by rw[xT,j',rA];show b.b8
 n60!:=by
  rw[xT,j',rA];let h1:=NJa (b.A7 (m-1)^by have:=b.b8;show FA this);have:=a.n60;lia
 dW:=by rw[CU,xT,j',j']
 row:=λwsh=>by
  rw[xT]at h;let(j,c,ζ):=WB.mp h;let c:=Ug.mp c;let(h1,h2):=zZa (LZbac).1;show(by rw[j'];show h1,λxd=>?_);let(g,e,ζ):=WB.mp d;rw[xT,j',rA];show ih! ba^h2ge
def fc! QRZ QD1:(xTRQAUm).β≤R.β:=by
 rw[xT,j',rA];let h1:=NJa (b.A7 (m-1)^by have:=b.b8;show FA this);lia
def VX!(d:GAQAUm)QD1 QC_(b:r<R.β)(i:c∈L):rYLQDHQJXc=pr R Bm k^rYL Rrc:=by
 let g:L.UL c<L.β:=wZi;let f:=ih! dab;let(h,j):=LZdaf;let p:pr R Bm (k+1) QCn=pr R Bm (k+1) r:=by
  change (nYR Bm (k+1)).TC _ 0=(nYR Bm (k+1)).TC _ 0;rw[st];show j
 let o:=((GMahb).mp p).2 _g;unfold rY;rw[jx! f];let e:L.UL c<(R.TC QCn []).β:=by rw[(zZah).1];show g
 rw[pu,na,mOe];change (nYR Bm k).TC _ 0=_;let n:pRRQCnQBW=(R.TC QCn [])[L.UL c]:=by
  rw[pR,pu (l:=R.TC _ []),mOe];rfl
 rw[<-n];show o
def ng!(e:GAQAUm)QD1 QC_:∀QRC{r:χ},r<R.β->QCJ->n6LQDHQJXw=pr R Bm k (n6L Rrw)
 |[],_,_,_=>rfl
 |c::w,r,b,hw=>by
  let f:c∈L:=hw c (!1);change n6LQDH (rYLQDHQJXc) w=pr R Bm k^n6L R (rYL Rrc) w;rw[VX! ea st bf];show ng! ea st (BJab^wZf) λdg=>hw d (by simp[g])
def ur!(c:GAQAUm)QD1(b:r<R.β):(CU Bm QAUm).TC QJXν=Bm.TC rν:=by
 let d:=ih! c a b;let(e,f):=LZcad;rw[ut! d];show(gm! aeb).mp^gn! aeb (pTk) f
def Mm! QRZ QD1 QC_ QF4:(CU Bm QAUm).TC (n6LQDH 0 w) ν=Bm.TC QQVν:=by
 let e:pr R Bm k 0=0:=Ml! a;have:=ng! ba st a.n1 hw;rw[e]at this;rw[this];show ur! ba^PJa a.n1 hw
end
section
variable{L:lU}{W:n0}{B:γb9}{kswsR:n0}{Bm:γb9}
def si!(b:oOL WB)(k:xSQOBL [0] ksws ks.β 0)QHH(c:R.β=ks.β)QIF(f:ks.β≤W.β):oOL R Bm where
 lt:=b.lt
 n1:=by rw[c];show(m9 k.t0).1
 n60!:=by rw[c];show n5f b.n60
 dW:=dW
 row:=λrh=>by
  let(i,e):=tl.mp h;let d:i<ks.β:=by rw[<-c];show(m9e).1
  let(h1,h2):=a.row ir_e^mOd;show(h1,λxg=>?_);let(q,j):=tl.mp g;rw[c];show(m9^h2qxj).1
def dt!(j:oOL WB)(p:xSQOBL [0] ksws ks.β 0)QHH(i:R.β=ks.β):∀QCvQHy,w.β=n->QCJ->ks[n6L R 0 w]?<*[n6L W 0 w]:=by
 intro n;induction n with
 |qW=>
  intro w hw _;rw[Wc.mp hw];show p.t0
 |qV n g=>
  intro w hw f;obtain⟨c,v,ζ⟩:∃cv,w=v++[c]:=(w.getLast (by intro z;rw[z]at hw;cases hw),w.FD,(γ.Wh _).UH);let h1:=gvQDt λxh=>fx (by simp[h]);let b:L.UL c<L.β:=wZ^fc (!1);let e:n6L R 0 v<R.β:=by rw[i];show(m9h1).1
  let(d,o):=a.row ___ (mOe) h1;let m:=oQBW_ (mO^by rw[d];show b);rw[EV,EV];let k:rYL R (n6L R 0 v) c=R[n6L R 0 v][L.UL c]'(by rw[d];show b):=by
   unfold rY;rw[pu (l:=R),mOe];change (R[n6L R 0 v]).TC _ 0=_;rw[pu,mO^by rw[d];show b];rfl
  rw[k];show m
def ot!(e:oOL WB)(h:xSQOBL [0] ksws ks.β 0)QHH(g:R.β=ks.β)QIF(d:∀QRBQFiQKD,ks[r]?<*k->Bm[r]?<*b->b=mkW Bk)QF4:Bm.TC QQVν=B.TC (n6L W 0 w) ν:=by
 let h1:=dt! ehag_wζ hw;let f:n6L R 0 w<Bm.β:=by rw[dW,g];show(m9h1).1
 rw[pu,mOf];show d___h1^mOf
end
inductive HG QA6 QDu QAt(dU:n0)QNw:Prop
 |mk (kswsR:n0) QLu (km:χ) (_:xSQOBL [0] ksws ks.β 0) (_:MMQOB L.β ksR) (_:R.β=ks.β) (_:Bm.β=R.β) (_:(∀QRBQFiQKD,ks[r]?<*k->Bm[r]?<*b->b=mkW Bk)) (_:(∀k∈ks,k∈B2W)) (_:ks.β≤W.β) QKV (_:nYR Bm (k+1)=nYR Bm k) (_:GAQAUm) (_:dU=xTRQAUm) (_:vW=CU Bm QAUm)
def HG.mach(h:HGL WBcd):oOLcd:=by
 let(ks,ws,R,Bm,k,m,_,_,_,_,_,_,_,a,_,b,ζ,ζ):=h;show OTba
def HG.eN(h:HGL WBcf):c.β≤W.β:=by
 let(ks,ws,R,Bm,k,m,_,_,e,_,_,_,d,a,_,b,ζ,ζ):=h;have:=fc! ba;lia
def HG.takes(h:HGL WBjl)(b:oOL WB)QF4:l.TC (n6Lj 0 w) ν=B.TC (n6L W 0 w) ν:=by
 let(ks,ws,R,Bm,k,m,i,a,g,dW,d,_,n,e,st,f,ζ,ζ):=h;rw[Mm! fe st hw];show ot! b iagdWd hw
section
variable{κ:Type}[wAκ]
end
section
variable{L:lU}{R:n0}{Bm:γb9}{km:χ}
end
section
variable{L:lU}{W:n0}{B:γb9}{kswsR:n0}
def QH!{b:Type}QRs(c:l.qg){ij:χ}{a:b}(e:l[i]?<*a)(d:l[j]?<*a):i=j:=by
 let(h1,g):=m9e;let(h2,f):=m9d;show(getElem_inj! c).mp^g.ξ f.UH
end
def OU QA6 QDu QRB(a b:lU):n6L Wr (a++b)=n6L W (n6L Wra) b:=by
 unfold n6;rw[foldl_append!]
section
variable{L:lU}{W1cE:n0}{eYhV:γb9}{v1v2:χ->lU}
end
section
variable{L:lU}{W:n0}{B:γb9}{ls:lU}{cE:n0}{hV:γb9}
end
section
variable{κ:Type}[wAκ]{g:κ->χ->κ}{L:lU}{s:κ}{ts ts'!:γκ}{ws ws':n0}
end
abbrev gA QDu QFi(q:χ):lU:=k.Tx λr=>(W.TC r []).TC q 0
section
variable{L:lU}{WkswsR:n0}{B:γb9}
end
end _b
namespace _F
open PySem.Spec PyProof.Rows
def jB!(C:X.TN=π):wNX (.Rm "all") (λxsHQ=>∃(a:θ)(bs:γb9),xs=[V.ο a]/\Ha=δ^.P' QQR/\(∀b∈bs,b=π)/\Q QLZH):=by
 intro k sLHxsusQ Irh;let(a,bs,ζ,E,D,q):=h;let(M,ζ,z):=x5r;cases z;let(eE,j,p,hz):=I.oh^pG.of E;let f:s.ρ.IsList a eE.Λ:=p.Xt;let d:a<s⁻¹:=by
  let(o,e,_):=f;show oNe
 show call_all_walk! (T9f ?_);show(s⁻¹,7,7,_,λ_=>π,0,Walks.oh (Ω:=X.Ω) (w:=X.w) (A:=X.A.in1) QSB s⁻¹ a (p8d) eE.Λ,(QCO,f.at λoe=>nN_e),3,λh'tB=>?_)
 .intro iv s'N Ol F;let m:i<bs.β:=by
   have:=(pV.Vq.mp l).1;let h2:=j.β;rw[j']at h2;simp at this;show EA this h2
  let(y,J,u):=j.get (i:=i) (x:=.dW bs[i]) (by rw[na,mOm];rfl);have:v=y:=by
   let c:eE.Λ[i]?<*v:=l;rw[γ.getElem?_toArray,J]at c;show(ψ.δ.WZ c).UH
  subst this;cases u;let g:=D_^vOm;rw[g];show LMF
 .let e:(γ.b_ eE.Λ.fC).u7 (λ_=>π)=π:=by simp
  rw[e];show(.dW π,H,I.Zo (t':=t) λbon=>Bbo (by simp;show p8^oNn)^nN_n,0,q)
section
variable{X:n8}{aI:γQA8}{σ:St}{H:m1}{s:Θ}
end
def cL! QBm(h:t≤xs.β):yAxs (δ (t:ω)) ε=xs.Gd t:=by
 unfold yA;rw[ZC.Cj,ZC.Db,χ.min_eq_left h,vJ^by rw[zM];show nZ_]
section
variable{X:n8}{elt qF:bI}{xy:bE}{g4 py pt b8:nV}{kt:χ}{sc:qA}{qJ:TI}{eJ:TE}{tt:TT}{ifs:γbI}
abbrev wy! QAw(qJ:TI)(tt:TT)QRp:TE:=λσHQ=>qJσH λJH1=>∀D,H1D=ε->∃W:χ->χ->γ V->m1->Prop,
 (∃m,W 0 m []^mEH1D^.P' [])/\∀imysbF,WimysbF->bFD=δ^.P' ys/\((J.lP ibF/\Q (.ο D) bF)\/(J.go ibF/\ys.β<Φ/\∀xbJ,J.yld ibFxbJ->
  ∃p a b,x=.ο p/\n'KbJp [a,b]/\tt (δa::δb::σ) bJ λi3cM=>if i3=π then eJ (δa::δb::σ) cM λyd8=>d8D=δ^.P' ys/\∃m',m'<m/\W (i+1) m' (ys++[y]) (mEd8D^.P' (ys++[y]))else ∃m',m'<m/\W (i+1) m'yscM))
def sm!{st:Θ}(Z:χ->Θ->Prop)(H:∀k t,Zkt->lZ (oPE6d) B (BWo) (λrt1=>match r with
   |ε=>OZQSOt1
   | δ u=>lZ (oPE6d) B (letOwnedTupleGo! mou) (λ_t2=>lZ (oPE6d) B (assign m gu) (λ_v=>
     lZ (oPE6d) B (forIn ifs π λc r=>if r=π then do let ok <-isTrue! cg^oFcg;pure (ForInStep.yield ok)else pure^ForInStep.yield r) (λi n=>
      if i=π then lZQQWB (oF elt g) (λz s=>lZQQWB (wG (.Rm "list.append") [w,z]) (λ_q=>∃j,j<k/\Zjq) QGcs) QGcn
      else ∃j,j<k/\Zjn) (notedBy! (oPE6d) Bg λe s'=>OZ (.G2 e) s') v) (notedBy! (oPE6d) Bg λe s'=>OZ (.G2 e) s') t2) (notedBy! (oPE6d) Bg λe s'=>OZ (.G2 e) s') t1) (notedBy! (oPE6d) Bg λe s'=>OZ (.G2 e) s') t)(k:χ)(hz:Zk st):wI (oPE6d) B (.compLoop (.Xb elt [(m,qF,ifs,(0))] sc b8) 0 owg) OZ st:=by
 let b:∀{p:Type}{x:Sem p}{Q1 A:p->Θ->Prop}{N:η->Θ->Prop}{t:Θ},lZQQWBxQ1 Nt->(∀at',Q1 at'->Aat')->lZQQWBx A Nt:=λh f=>pWhf λ__z=>z;show codeAny_loop! ζ Z (λk t C=>?_) k hz;change lZ_B ((compTurn! (.Xb elt [(m,qF,ifs,(0))] sc b8) 0 owg).onRaise λx=>do noteFrame! x g;theTreesLotGoes! x) __t;show wpAny_noted! ?_;rw[compTurn_list!];show lT (F9^lT^b (HktC) λrt1h1=>?_);match r,h1 with
 |ε,h1=>show mRh1
 |δ u,h1=>
  show lT (bh1 λ_t2h2=>lT^bh2 λ_v F=>lT^b F λi nl=>?_);match i,l with
  |ν,l=>show mR (0,l)
  |π,l=>show lT (lT^bl λz s E=>lT^b E λ_qD=>mR^mR (0,D))
end
section
variable{X:n8}{elt qFdV:bI}{xy:bE}{g4 py pt b8:nV}{kt:χ}{sc:qA}{qJ:TI}{eJ:TE}{tt:TT}{ifs:γbI}
instance yL! QKm(fnx:bE->b9):Prop:=∀{M:Model!}QRq QD7{s:Θ}{g:θ}{cl:γQBH}{bA:bE}{YN:ψθ}{code:η}{b7:Env}{dW:θ}{Q:Env->Θ->Prop},
  (∀h' cl'!,h'.Ns s⁻¹ (λ_=>ε)->(∀bo,s.ρ.Ξ b<*o->h'.Ξ b<*o)->(∀yc,γ.ς y cl'!<*c->fnx y=ν/\cl.ς y<*c\/fnx y=π/\s⁻¹<c/\∃vo,h'.Ξ c=δo/\o.mY=.aQ v)->(∀yc,fnx y=ν->cl.ς y<*c->γ.ς y cl'!<*c)->(∀y,fnx y=π->∃c,γ.ς y cl'!<*c)->
   Q (newEnv! sc s⁻¹ g cl'! bAYN code (δb7) dW) {s with ρ:=h'})->lZM A (newFunctionEnv! sc g cl [] bAYN code (δb7) dW) Q E s
def RP{xx:n8->η->Θ->Prop}{fnx:bE->b9}{ns:γbE}{gx:V->m1->γ V->Prop}(L:γbE)(e8:X.TN=π)(A9:(ns++L).qg)(g6:vZXdVqFqJ)(a:∀(Z:γ (bE×θ))(C:θ)(F:γθ)(s:Θ)(H:m1),FR {rFXx sc ZC F sH with N:=ns++L,fn:=fnx} ifs tt/\mP (n8.wish {rFXx sc ZC F sH with N:=ns++L,fn:=fnx}^xx {rFXx sc ZC F sH with N:=ns++L,fn:=fnx}) elt eJ)(bU:∀(Z:γ (bE×θ))(C:θ)(F:γθ)(s0:Θ)(H0:m1)(g:γ (θ×pZ))(s:Θ)(O:St)(os:γ^ψ V)(H:m1)(y:V)(u:η)(vs:γ V),os.β=ns.β->gx yHvs->f' {rFXx sc ZC F s0H0 with N:=ns++L,fn:=fnx} g (os++O) H s->nTyu->lZ (oP X.Ω X.w) X.A (assign dV (compEnvC! sc ZC X.fN) u) (λ_ s'=>f' {rFXx sc ZC F s0H0 with N:=ns++L,fn:=fnx} g (vs.Tx δ++O) H s') (λ__=>oA) s)(fJ:sc.XA=.XH)(eI:∀y∈sc.TW,y.2=.local->sc.TW.ς y.1<*.local)(a7:yL! sc fnx)(as:∀y∈sc.TW,y.2=.aQ->fnx y.1=π)(aS:∀y,fnx y=π->y=x/\y∈ns/\sc.TW.ς y<*.aQ)(aT:(sc.TW.u7 λy=>y.2 != .VC||X.fN.g8.TW.ς y.1==δ .aQ||X.fN.g8.TW.ς y.1==δ .VC)=π)(b0:(L.u7 λy=>sc.TW.ς y != δ .local)=π)(b1:L.β=X.N.β)(bP:((L.zip X.N).u7 λy=>y.1==y.2||sc.TW.ς y.1==ε)=π)(hs:∀x,Wv! qF X.fN x=pure x){O:St}{Q:oE}(I:f'Xg OH s)(h:qJOH R)(hR:∀JH1,R JH1->∀D,H1D=ε->∃W:χ->χ->γ V->m1->Prop,(∃m,W 0 m []^mEH1D^.P' [])/\∀imysl,Wimysl->l D=δ^.P' ys/\((J.lP il/\Q (.ο D) l)\/(J.go il/\ys.β<Φ/\∀xbJ,J.yld ilxbJ->
   ∃vs,vs.β=ns.β/\gx xbJvs/\tt (vs.Tx δ++O) bJ λi3cM=>if i3=π then eJ (vs.Tx δ++O) cM λyd8=>d8D=δ^.P' ys/\∃m',m'<m/\W (i+1) m' (ys++[y]) (mEd8D^.P' (ys++[y]))else ∃m',m'<m/\W (i+1) m'yscM)))(jE:∀{s2s4:Θ}{lbJ:m1}{F:γθ}{Z:γ (bE×θ)}{DC:θ}{os:γ^ψ V},f'Xg Ol s2->(∀b∈F,aYXglb)->(∀bo,s2.ρ.Ξ b<*o->b≠C)->s2⁻¹≤C->f' {rFXx sc ZC F s2l with N:=ns++L,fn:=fnx} [] (os++O) bJs4->Q (.ο D) bJ->compPost! (oP X.Ω X.w) X.A X.xe use! QQ! (.ο D) C (.ok .next) s4)(b3:∀{s2:Θ}{l:m1}{F:γθ}{Z:γ (bE×θ)}{DC:θ}{ev:η}{s3:Θ},f'Xg Ol s2->(∀b∈F,aYXglb)->s2⁻¹≤C->xx {rFXx sc ZC F s2l with N:=ns++L,fn:=fnx} ev s3->notedBy! (oP X.Ω X.w) X.A (compEnvC! sc ZC X.fN) (λe s4=>compPost! (oP X.Ω X.w) X.A X.xe use! QQ! (.ο D) C (.G2 e) s4) ev s3:=by show λ___f=>f.Q5):lZ (oP X.Ω X.w) X.A (comprehension! (.Xb elt [(dV,qF,ifs,(0))] sc b8) sc X.fN p (newList! []) ν (oFqF X.fN) use!) QQ! X.xe s:=by
 let g7:∀y∈sc.TW,y.2=.VC->(X.fN.F6 y.1<*.aQ\/X.fN.F6 y.1<*.VC):=λyd7e=>by
  let q:=T5.mp aTyd7;rw[e]at q;simpa[Env.F6]using q
 let a8:∀y∈L,sc.TW.ς y≠δ .local:=λyd7e=>by
  let q:=T5.mp b0yd7;rw[e]at q;simp at q
 let(Z,aU,t,dN):=lb! (fN:=X.fN) (sc:=sc) λyd7e=>I.ok.A7 y.1^g7yd7e;show wpAny_comprehension_free! ζhsaUfJeI (nb (g6g s OH_ Ih) λv s1h1=>nb h1 λct s2h2=>?_);let(it,F,vV,J,l,e,j,T,aM,f2,hW):=h2;subst e

 show I3 ?_;show a7 λS al Mk lk a5bM=>?_;dsimp only at M k lk⊢;generalize aV:s2.ρ.Uu {dM:=.TB "list",wF:=ε,mY:=.Yv ([]:γη).Λ}=Ha! at M k lk⊢;let dJ:Ha.u_.fC=s2⁻¹+1:=by rw[<-aV,yW]
 let E:s2⁻¹≤Ha.u_.fC:=by rw[dJ];show le_succ! _
 let i5:∀bo,s2.ρ.Ξ b<*o->b≠Ha.u_.fC:=λboe=>p8^pPQS'E;let ab:∀bo,s2.ρ.Ξ b<*o->S.Ξ b<*o:=λboe=>kbo (aV▸nN_e);let i6:S.Ξ s2⁻¹<*{dM:=.TB "list",wF:=ε,mY:=.Yv ([]:γη).Λ}:=k__ (aV▸t8_ζ);let a2:∀{y:bE}{c:θ},Z.ς y<*c->c<s2⁻¹:=λ{yc}e=>by
  let(v,o,dI,_):=j.aQ yc^t yce;show oNdI
 let a1:∀{y:bE},sc.TW.ς y<*.VC\/y∈L->fnx y=ν:=λ{y}d7=>by
  cases q:fnx y with
  |ν=>rfl
  |π=>
   let(_,z,w):=aSyq;rcases d7 with e|e
   .rw [e]at w;cases w
   .exact mWe ((γ.nodup_append.mp A9).2.2 yzy · ζ)
 generalize eF:s2⁻¹=D at *;generalize iE:Ha.u_.fC=C at *;let bi:l D=ε:=j.rv.ax^G'eF;let b6:lC=ε:=j.rv.ax QUq;let(W,(m0,Uk!),a3):=hR__hWD bi;let Y:∀b∈F,b<D:=λba=>by
  let(o,e,_):=T.obj __aMba;rw[<-eF];show oNe
 let dW:∀{b},b∈F->∀{yc},γ.ς y al<*c->c≠b:=λ{b}a{yc}e=>by
  rcases lk yce with⟨_,w⟩|⟨_,w,_⟩
  .exact (f2ba).2.2.2.2.1 yc^t ycw
  .exact IT^zP (Yba) QTm
 let fM:∀{y},sc.TW.ς y<*.VC->∃c,γ.ς y al<*c:=λ{y}e=>by
  let(c,eW):=dN_ (Δ.Vm e) ζ;show(c,a5yc (a1^.UR e) eW)
 letI kN:n8:={rFXx sc al C F s2l with N:=ns++L,fn:=fnx}
 let aA:∀b∈F,b∉oJ X.US:=λbaz=>by
  rcases u3.mp (j.stkSub bz)with e|e
  .exact (f2ba).2.1 e
  .exact (f2ba).2.2.1 e
 let i4:kN.Ok:=by
  show(j.ok.mod,fJ,j.ok.glob,j.ok.blt,3,λyzce1e2=>?_,λyd7=>?_,λycee2=>?_,j.ok.hd,j.ok.Xe,.UR ζ,λba=>(3,λyce=>?_),j.bs,
   n5 j.ok.bsz j.sz,λboea=>?_,aA,j.US,j.stkFree)
  .change s2⁻¹≤C;show nt! dJeF
  .rcases lk yce1 with⟨_,w1⟩|⟨z1,w1,_⟩<;>rcases lk zce2 with⟨_,w2⟩|⟨z2,w2,_⟩
   .exact j.ok.WZ yzc (t ycw1)^tzcw2
   .exact mW (VMEw2)^χ.lt_asymm^a2w1
   .exact mW (VMEw1)^χ.lt_asymm^a2w2
   .rw [(aSyz1).1,(aSzz2).1]
  .rcases d7 with d7|d7
   .rcases V3 (show(relabel! sc X.fN).TW.ς y<*.aQ from d7)with e|⟨_,e,_⟩
    .exact bMy (as _ (Δ.Vm e) ζ)
    .exact fMe
   .rcases V3 (show(relabel! sc X.fN).TW.ς y<*.VC from d7)with e|⟨e,_⟩
    .exact fMe
    .cases e
  .rcases lk yce2 with⟨w,_⟩|⟨_,w,_⟩
   .rw [show fnx y=π from e]at w;cases w
   .exact eF▸XsQTm
  .exact p8^pP (Yba) (by omega:D≤C)
  .exact dWae
  .rcases (f2ba).2.2.2.1 with z|z
   .exact j.ok.noex boez
   .exact mW (pP (pPQS' j.ok.bsz) z) QD_
 let iV:∀j8,f'kN [] (nM ns.β ε++O) (mElDQB3) {s2 with ρ:=S,mU:=j8}:=λj8=>by
  show(i4,0,j.pH,rJ.laid ab (G'eF) bi,(_,M,λi Pve1e2e3=>?_),λyce=>?_,3,λyce=>?_,λpb5=>?_,j.rv.laid ab (G'eF) ?_,3)
  .let e1:(ns++L)[i]?<*P:=e1;by_cases qP:i<ns.β
   .rw [u1 (by rw[r9];show qP),γ.getElem?_replicate,mGqP]at e2;cases e2
   .rw [w5 (by rw[r9];show MIqP),r9]at e2;rw[w5^MIqP]at e1;let e0:=e1;generalize i-ns.β=i at e0 e1 e2;let e3:HsQUrP:=e3;let aN:P∈L:=v7e0;let U:sc.TW.ς P=δ .VC/\(relabel! sc X.fN).TW.ς P≠δ .local:=by
     rcases e3 with e|e|e
     .rcases V3e with q|⟨q,_⟩
      .exact mWq^a8PaN
      .cases q
     .rcases V3e with q|⟨_,q,_⟩
      .exact mW ((a1^.P2 aN).UH.ξ^as _ (Δ.Vm q) ζ) b9.UF
      .exact (q,by rw[e];decide)
     .rcases V3e with q|⟨q,_⟩
      .exact (q,by rw[e];decide)
      .cases q
    let e1:X.N[i]?<*P:=by
     let g6:i<L.β:=(m9e0).1;let bd:i<X.N.β:=EJg6b1
     let hm:(P,X.N[i],)∈L.zip X.N:=by
      let hz:(L.zip X.N)[i]?<*(P,X.N[i],):=by
       rw[γ.getElem?_zip_eq_some];show(e0,mO bd)
      show v7 hz
     let q:=T5.mp bP_ hm;rcases b9.or_eq_true_iff.mp q with q|q
     .have:P=X.N[i]:=ZZq;rw[mO bd,<-this]
     .let q2:sc.TW.ς P=ε:=by simpa using q
      rw[U.1]at q2;cases q2
    let kc!:X.fN.F6 P<*.aQ\/X.fN.F6 P<*.VC:=g7_ (Δ.Vm U.1) ζ;let(m,g9,eG):=j.loc;let(u,V6,lk):=eGi Pve1e2^.P2 kc!;rcases lk with⟨q,_⟩|⟨_,c,b4,⟨o,dI,hd⟩⟩
    .rcases kc! with z|z<;>(rw[z]at q;cases q)
    .obtain ⟨c',eW⟩:=dN_ (Δ.Vm U.1) ζ;let e4:=t__eW;rw[b4]at e4;cases e4;show(u,V6,.P2 (3,c,a5__ (a1^.P2 aN) eW,(o,ab c odI,hd)));rcases e3 with e|e|e
     .exact mWe U.2
     .exact .UR e
     .exact .P2 e
  .rcases lk yce with⟨_,w⟩|⟨_,_,v,o,w⟩
   .obtain ⟨v,o,dI,hd⟩:=j.aQ yc^t ycw;show(v,o,ab c odI,hd)
   .exact (v,o,w)
  .change mElDQB3C=ε;rw[a'^VZ (!6)];show b6
  .change mElDQB3c=ε;rcases lk yce with⟨_,w⟩|⟨_,w,_⟩
   .rw [a'^p8^a2w];show j.freeC yc^t ycw
   .rw [a'^ITQTm];show j.rv.ax (eF▸XsQTm)
  .exact mW (show p∈([]:γQA8)from b5) (!1)
  .exact (pT_,[],(0),.nS,i6)
  .change (nM ns.β ε++O).β=(ns++L).β;rw[o9,o9,r9,j.eN,b1]
 let(ch,co):=a al C F s2l;let a0:∀{ap:γQA8}QFs,QTn->(∀p∈ap,p.1∉F)->∀b∈F,aYkN ap H'b:=λg9b5ba=>by
  show(g9ba,3,aAba,.UR a,λyce=>dWae,λpqz=>?_)
  .exact p8^pP (Yba) (by omega:D≤C)
  .rcases lp.mp q with q|q
   .exact mW (show p∈([]:γQA8)from q) (!1)
   .exact b5pq (by rw[z];show a)
 let dS:∀j8,wIQAA X.A (.compLoop (.Xb elt [(dV,qF,ifs,(0))] sc b8) 0 QCbQA0^compEnvC! sc al C X.fN) (compPost! QAA X.A X.xe use! QQ! QA0C) {s2 with ρ:=S,mU:=j8}:=λj8=>by
  show sm! (λn s'=>∃iysosH',os.β=ns.β/\f'kN [] (os++O) H's'/\vVi s'.ρ/\QTn/\WinysH') ?_ m0 ((0),[],7,r9,iVj8,T.AP ___aM λbaoe=>ab boe,λba=>?_,Uk!)
  .rintro n s3⟨i,ys,os,bJ,bV,zG,a4,hU,w3⟩;let(jJ,f7):=a3inysbJw3;rcases f7 with⟨lP,iA⟩|⟨go,a9,step⟩
   .refine pW (T.done kNζζζe8i [] s3_bJQGzzG (a0hU (!1)) a4lP) (λr s4B=>?_) λ__f=>f.Q5;let(cT,cr):=B;subst cT;show jEjf2i5QUq cr iA
   .refine pW (T.item kNζζζe8i [] s3_bJQGzzG (a0hU (!1)) a4 go) (λr s4B=>?_) λ__f=>f.Q5;let(u,cT,h4):=B;subst cT;show pWh4 (λ_ s5B=>?_) λ__f=>f.Q5;let(z,d8,I5,NU,y5,an,ce):=B;let fR:=I5.pinned (a0 ce (!1))^T.obj __ an;let(vs,a6,b2,bS):=step z_y5;show pW (bU al C F s2l_ s5Oosd8zuvsbVb2fRNU) (λ_i9iW=>?_) λ__f=>f.Q5;show pW (ch _i9___iWbS) (λbm gMB=>?_) λ__f=>f.Q5;let(H7,hv!,el!):=B;cases bm with
    |ν=>
     let(m',hm,Kp!):=el!;show(m',hm,i+1,ys,7,by rw[j'];show a6,hv.unpinned,T.AP ___ an λbaoe=>(hv.pin QN3QES).1,λba=>?_,Kp!);let(o,e,d):=T.obj __ an ba;show(hv.pin QN3QES).2.1
    |π=>
    show pW (co _gM___ (hv.wish _) el!) (λzkJB=>?_) λev kJf=>b3jf2QUqf;let(yv!,gY,Ty!,V5,cd,cp!):=B;let Ty!:=Ty.Z_;show pW (jn! (X:=kN) _kJ_gYQA0 [yv!] QA0 [z] (λ_ Vl!=>Vl!=mEgYD^.P' (ys++[yv!])) Ty! ζ (.nF V5 .nS) (D,ys,yv!,5,cd,a9,0)) (λ_y7B=>?_) λ__f=>f.Q5;let(_,Vl!,Vv!,_,GS):=B;subst GS;let(m',hm,Kp!):=cp!;show(m',hm,i+1,7,_,by rw[j'];show a6,Vv.unpinned,T.AP ___ an λbaoe=>(Vv.pin QN3QES).1,λba=>?_,Kp!);let(o,e,d):=T.obj __ an ba;show(Vv.pin QN3QES).2.1
  .change mElDQB3b=ε;rw[a'^p8^Yba];show(f2ba).1
 show codeAny_compStart_list! (dS_)^T.self _____ (T.AP ___aM λbaoe=>ab boe)^dS_
def KZ{fnx:bE->b9}{tl:St}(L:f'Xft s s2)(k:∀b∈E,aYXf sb)(g:∀bo,s2.ρ.Ξ b<*o->b≠C)(a:f' {rFXx sc MC E s2s with N:=N,fn:=fnx} [] lhB)(H:Q QA0h):compPost! QAA X.A X.xe ε (xWXftQ) QA0CQSOB:=by
 let(J,p,_):=a.loc;show(J,p,λh'd=>?_);let nC:∀bu,hb<*u->b≠C:=λbuez=>by rw[z]at e;rw[show hC=ε from a.VC]at e;cases e
 let i:y' X.Ω X.w hh':=λbue=>(a.rv bue).Zx (λcvrq=>d.Zt cv (by
  rcases r with z|z
  .rw [z];show nC bue
  .exact nC c_z) q) (λ_q=>q) λ__q=>q
 let un:rJQCNE sh s2.ρ h':=
  (λboen1nm=>d.Zt bo (gboe)^a.υ.AP boen1nm,λboen1nm=>by
    let(F,q):=a.υ.slot boen1nm;show(F,d.Zt b_ (gboe) q),a.υ.VC,λboen1=>by
    let(I,q):=a.υ.Xq boen1;show(I,d.Zt b_ (gboe) q),a.υ.Xk,a.υ.frzs,a.υ.tbls)
 show(.ο D,h,L.call' (s':={B with ρ:=h'}) a.os un i a.pH λbj=>((kbj).2.2.2.1,(kbj).2.1,(kbj).2.2.2.2.1,(kbj).2.2.2.2.2),0,H)
def J2(d:sc.XA=.XH)(f:∀y∈sc.TW,y.2≠.aQ):yL! sc λ_=>ν:=λ{___ s_j______}i=>by
 show wpAny_newFunctionEnv! f (λyh=>mWh (!1)) (λgca=>igjc (λboe=>a.Zt boQGsQJO) (λ__e=>.UR (0,e)) (λ___e=>e) λ_e=>nomatch e) d
def UU{P:bE->Prop}:∀y,(λ_=>ν:bE->b9) y=π->Py:=λ_e=>nomatch e
def J3(h:(x::k).qg)(m:yJQUrx)(q:fnx x=π\/(relabel! sc X.fN).TW.ς x<*.local)(b:γQBH)QGE(j:γθ)(e:Θ)(H0:m1)(a:γQA8)QCD(d:St)(os:γ^ψ V)QAH(y:V)QVK QAJ(n:os.β=1)(p:vs=[y])(I:f' {rFXx sc bCjeH0 with N:=[x]++k,fn:=fnx} a (os++d) H s)(r:nTyu):lZQAA X.A (assign QH4 (compEnvC! sc bC X.fN) u) (λ_ s'=>f' {rFXx sc bCjeH0 with N:=[x]++k,fn:=fnx} a (vs.Tx δ++d) H s') QGzs:=by
 let(o,ζ):=γ.length_eq_one_iff.mp n;show pW (XT (X:={rFXx sc bCjeH0 with N:=[x]++k,fn:=fnx}) (i:=0) (b8:=g4) hζmq_ s_Hyu (λcH'=>c=δy::d/\H'=H) Ir (0,0)) (λ_Bg=>?_) λ__f=>f;let(l,D,z,v,t):=g;subst v t p;show z
def J4{g:St}{Q:oE}{J:zI}{W:χ->χ->γ V->m1->Prop}(h:∀imysa,Wimysa->aD=δQBc/\(QSP\/(J.go ia/\ys.β<Φ/\∀xd,J.yld iaxd->tt (δx::g) d λjf=>if j=π then eJ (δx::g) f λye=>eD=δQBc/\∃c,c<m/\W (i+1) cQBq (mEeDQAP)else ∃c,c<m/\W (i+1) cysf))):∀imysa,Wimysa->aD=δQBc/\(QSP\/(J.go ia/\ys.β<Φ/\∀xd,J.yld iaxd->∃vs:γ V,vs.β=1/\vs=[x]/\tt (vs.Tx δ++g) d λjf=>if j=π then eJ (vs.Tx δ++g) f λye=>eD=δQBc/\∃c,c<m/\W (i+1) cQBq (mEeDQAP)else ∃c,c<m/\W (i+1) cysf)):=
 λimysaw=>(himysaw).imp id λb=>b.imp id λb=>(b.1,b.2.1,λxdk=>([x],5,b.2.2 xdk))
def x9(f:γbE)(A:X.TN=π)QPx(z:vZXQH4qFqJ)(B:∀(u:γQBH)QGE(t:γθ)QCDQAH,FR {rFXx sc uCt sH with N:=x::f} ifs tt/\mP {rFXx sc uCt sH with N:=x::f} elt eJ)(p:QB0>>>4)QNW(c:QAW>>>3)QUN(d:QAT>>>4)(l:QC8>>>4)(n:QOq>>>4)(k:QB4>>>4)(w:QA7>>>7):mPXQAiQG0:=by
 intro o s OHQ Ih;rw[eval_ListComp!];show RP (xx:=λ___=>oA) (fnx:=λ_=>ν) (ns:=[x]) (gx:=λy_vs=>vs=[y]) f AizBQJ4ac (J2ab) QG1UU (T5.Ui λyv=>by rw[T5.mp dyv];rfl) lnkw Ih (λJ PrD E=>?_) λM Fj_Lq=>KZM FjLq;let(W,m,g):=rD E;show(W,m,J4g)
def ji!(f:γbE)(z:X.TN=π)QPx(w:vZXQH4qFqJ)(A:∀(u:γQBH)QGE(t:γθ)QCDQAH,FR {rFXx sc uCt sH with N:=x::f} ifs tt/\mP {rFXx sc uCt sH with N:=x::f} elt eJ)(p:QB0>>>4)QNW(c:QAW>>>3)QUN(d:QA4>>>4)(l:QC8>>>4)(n:QOq>>>4)(k:QB4>>>4)(v:QA7>>>7):mPXQAiQG0:=by
 intro o s MHQ Ih;rw[eval_ListComp!];show RP (xx:=λ___=>oA) (fnx:=λ_=>ν) (ns:=[x]) (gx:=λy_vs=>vs=[y]) fziw AQJ4ac (J2ab) QG1UUdlnkv Ih (λJ OrDB=>?_) λL Ej_ Fq=>KZL Ej Fq;let(W,m,g):=rDB;show(W,m,J4g)
def qv! QVS QMw{y:bE}{Q P:St}QN0(i':X.N[j]?<*y)(T:yJ X.fN.g8 y)(Y:X.fn y=π\/X.fN.g8.TW.ς y<*.local)(L:f'XhQ bFs2)(O:∀b∈bN,aYXhbFb)(l:∀bo,s2.ρ.Ξ b<*o->b≠C)(eF:s2⁻¹≤C)(d:f' {rFXx sc cl CbNs2bF with N:=N} [] Pk M)(iA:rZjQA0Qk DD.pO):compPost! QAA X.A X.xe (δ^assign (.Ip y py) X.fN) (λ_ s'=>SPXh DD! .next s') QA0CQSOM:=by
 let(mC!,I,_):=d.loc;let nC:∀bu,kb<*u->b≠C:=λbuez=>by rw[z]at e;rw[show kC=ε from d.VC]at e;cases e
 let un:rJQCNbNbFk s2.ρ M.ρ:=
  (λboen1Fn=>d.υ.AP boen1Fn,λboen1Fn=>d.υ.slot boen1Fn,d.υ.VC,λboen1=>d.υ.Xq boen1,d.υ.Xk,d.υ.frzs,d.υ.tbls)
 let I5:f'XhQk M:=L.call' (s':=M) d.os un d.rv d.pH λbB=>((ObB).2.2.2.1,(ObB).2.1,(ObB).2.2.2.2.1,(ObB).2.2.2.2.2);let(iU,an,al,W,_):=id I;let s:∃o,s2.ρ.Ξ X.fN.hl<*o:=by let(m,(o,es,eP,z,_),_):=L.loc;show(o,z)
 let E:X.fN.hl≠C:=by let(o,z):=s;show l_oz
 let g:∀yc,X.fN.XL.ς y<*c->c≠C:=λyce=>by let(v,o,r,_):=L.aQ yce;show lcor
 dsimp only[compPost!];show wpAny_assign_Name!^gq! I5JAi'T (v:=.ο D) ζ (λSiWU=>?_) Y;let(a,AG,eM):=U;let J:C≠a:=by
  rcases eM with z|z
  .rw [z];show Ne.UH E
  .exact Ne.UH^g__z
 let H:S.ρ.Ξ C<*iU:=(AG.2 C J).ξ W;show(mC!,I.sameBut AGJ,λi f=>?_);let ab:C<i.u_.fC:=by rw[f.1];show oNH
 let t:y' X.Ω X.w ki:=λbue=>(iW.rv bue).Zx (λcv Zq=>f.Zt cv (by
  rcases Z with z|z
  .rw [z];show nC bue
  .exact nC c_z) q) (λ_q=>q) λ__q=>q
 let R:rJQCN [C] kk S.ρ i:=
  (λboen1Fn=>f.Zt bo (λz=>n^by simp[z]) e,λboen1Fn=>(o.slots,f.Zt bo (λz=>n^by simp[z]) e),λboen1_=>n1,λboen1=>(o,f.Zt bo (λz=>n1^by simp[z]) e),λ__q=>q,λ___q=>q,λbpsq=>(#[],by rw[pV.append_empty];show q))
 show(_,k,iW.call' (s':={S with ρ:=i}) ζ Rt iW.pH^λbB=>?_,iA);let gJ:b=C:=by simpa using B
 subst gJ;show(.P2^n5 L.sz (!2),Ne.UH E,g,λpb5z=>?_);let(z1,_):=L.pin pb5;show l p.1 p.2 z1z
def J5(g:γbE){py d:nV}(Y:X.TN=π)QN0(k:(x::g).qg)(T:X.N[j]?<*y)(p:yJ X.fN.g8 y)(U:vZXQH4qFqJ)(Z:∀(M:γQBH)QGE(L:γθ)QCDQAH,FR {rFXx sc MCL sH with N:=x::g} ifs tt/\mP {rFXx sc MCL sH with N:=x::g} elt eJ)(F:QB0>>>4)QNW(c:QAW>>>3)QUN(f:QAT>>>4)(t:((g.u7 λy=>sc.TW.ς y != δ .local)=π)>>>4)(w:(g.β=X.N.β)>>>4)(o:(((g.zip X.N).u7 λy=>y.1==y.2||sc.TW.ς y.1==ε)=π)>>>4)(S:QA7>>>7)(q:(Z'QAi (δ^.Ip y py) d.Zm X.fN=pure π)>>>4)(z:QIS>>>8):w0X (.Assign [.Ip y py] QAid)^aRQG0^rZj:=by
 intro E s BH O Ih;show Br! q λ_=>RP (xx:=λ___=>oA) (fnx:=λ_=>ν) (Q:=λvl=>rZjvBl O.pO) (ns:=[x]) (gx:=λy_vs=>vs=[y]) g Yk U Z (J3k (.UR^MZF)^.P2^MZF) a c (J2ab) QG1UU (T5.Ui λy R=>by rw[T5.mp fy R];rfl) two S Ih (λJlrDdA=>?_) λjRf2nu A P=>qv! JATpzjRf2nu A P;let(W,m,i):=rDdA;show(W,m,J4 (Q:=λvl=>rZjvBl O.pO) i)
def ve!(J:X.TN=π)(g:(x::y::t).qg)(E:sc.TW.ς x<*.local)(D:sc.TW.ς y<*.local)(j:γQBH)QGE(q:γθ)(m:Θ)(H0:m1)(c:γQA8)QCD(l:St)(os:γ^ψ V)QAH(v:V)QVK QAJ(F:os.β=2)(I:∃p a b,v=.ο p/\n' X.K Hp [a,b]/\vs=[a,b])(R:f' {rFXx sc jCqmH0 with N:=[x,y]++t} c (os++l) H s)(B:nTvu):lZQAA X.A (assign QCh (compEnvC! sc jC X.fN) u) (λ_ s'=>f' {rFXx sc jCqmH0 with N:=[x,y]++t} c (vs.Tx δ++l) H s') QGzs:=by
 let(o,h,ζ):=_b.Ie F
 let(p,P,O,ζ,b5,ζ):=I;let e:(relabel! sc X.fN).TW.ς x<*.local:=MZE;let d:(relabel! sc X.fN).TW.ς y<*.local:=MZD;let r:PG {rFXx sc jCqmH0 with N:=[x,y]++t} QCh^Yw! X.K 2^YB! (rZ 0)^YB! (rZ 1) gNil!:=FMJ^wM (XT (i:=0) gζ (.UR e)^.P2 e)^wM (XT (i:=1) gζ (.UR d)^.P2 d) HV;show pW (r_ s_HQAlu (λkH'=>k=δ P::δ O::l/\H'=H) RB (p,2,b5,0,1,4,5)) (λ_ Sn=>?_) λ__f=>f;let(z,T,Q,M,L):=n;subst M L;show Q

def K3(j:γbE)(A:X.TN=π)(l:(x::y::j).qg)(T:vZXQChqFqJ)(U:∀(E:γQBH)QGE(B:γθ)QCDQAH,FR {rFXx sc ECB sH with N:=x::y::j} ifs tt/\mP {rFXx sc ECB sH with N:=x::y::j} elt eJ)(P:QB0>>>4)(O:QRa>>>4)(c:QEb>>>4)(f:QAW>>>3)(d:QBw>>>3)(g:QA4>>>4)(t:((j.u7 λy=>sc.TW.ς y != δ .local)=π)>>>4)(u:(j.β=X.N.β)>>>4)(o:(((j.zip X.N).u7 λy=>y.1==y.2||sc.TW.ς y.1==ε)=π)>>>4)(S:QA7>>>7):mPX (.Xb elt [(.Zv [.Ip xg4,.Ip y py] kt pt,qF,ifs,(0))] sc b8)^wy! X.K qJ tt eJ:=by
 intro z sσHQ Ih;rw[eval_ListComp!];show RP (xx:=λ___=>oA) (fnx:=λ_=>ν) (ns:=[x,y]) (gx:=λvHvs=>∃p a b,v=.ο p/\n' X.K Hp [a,b]/\vs=[a,b]) j Al T U (ve! Al P O) cf (J2cd) (λyhe=>mWe^dyh) UUgtuo S Ih (λJH1rD Y=>?_) λjRZn_iVq=>KZjRZniVq
 .obtain ⟨W,m,k⟩:=rD Y;show(W,m,λimysbFw=>(kimysbFw).imp id λb=>b.imp id λb=>(b.1,b.2.1,λvbJM=>by
   let(p,L,F,e,b5,R):=b.2.2 vbJM;show([L,F],0,(p,L,F,e,b5,0),R)))
def Op!{fN:Env}:∀{a:γ (bE×lE)}{x:bE},a.ς x<*.aQ->
  (a.Tx λ(n,k)=>if (k==lE.VC&&fN.g8.XA==.XH&&fN.F6 n==δ .aQ)then(n,lE.aQ,)else(n,k,)).ς x<*.aQ
 |[],_,h=>by simp at h
 |(n,k)::r,x,h=>by
  rw[y3];by_cases z:x=n
  .subst z;rw[γ.lookup_cons_self]at h;cases h;change γ.ς x ((x,lE.aQ,)::_)=_;show γ.lookup_cons_self
  .let zb:(x==n)=ν:=Ul.Ui z;let h2:r.ς x<*.aQ:=by simpa only[γ.ς,zb]using h
   let b:=Op! (fN:=fN) h2;dsimp only;split
   .simp only[γ.ς,zb];show b
   .simp only[γ.ς,zb];show b
def wS(f:∀n a,cellsFrom! n sc.TW a=(x,n,)::a)(d:∀h:n3,pushCells! h sc.TW=h.Uu {dM:=.TB "cell",mY:=.aQ ε}):yL! sc λy=>y==x:=λ{___ s_a___b7__}g=>by
 unfold newFunctionEnv!;rw[show(δb7).BC=π from ζ,mGζ];show lT^wpAny_alloc!^lT (wpAny_layCells! _ (λ_k_=>by cases q:k==lE.aQ<;>simp only[q]<;>rfl) ____ ?_);rw[f,d];let e:({s with ρ:=s.ρ.Uu {dM:=.TB "dict",mY:=.wF #[]} }:Θ).ρ.u_.fC=s⁻¹+1:=yW ..;rw[e];show lT ?_;rw[ZY];show mR^mR (g_ (QED::a) ?_ (λboz=>nN_^nN_z) (λyce=>?_) (λycze=>?_) λyz=>(s⁻¹+1,by cases ZZz;show γ.lookup_cons_self))
 .exact (n3.Ns.new s.ρ^.TB "dict").hL λboz=>nN_z
 .cases z:y==x<;>simp only[γ.ς,z]at e
  .exact .UR (z,e)
  .cases e;have:=t8 (s.ρ.Uu {dM:=.TB "dict",mY:=.wF #[]}) (o:={dM:=.TB "cell",mY:=.aQ ε}) ζ;rw[yW]at this;show .P2 (z,A6_,ε,_,this,0)
 .simp only[γ.ς,z];show e
def wc!(f:γbE)(F:X.TN=π)QPx(E:vZXQH4qFqJ)(L:∀(j:γQBH)QGE(z:γθ)QCDQAH,FR {rFXx sc jCz sH with N:=x::f,fn:=λy=>y==x} ifs tt/\mP {rFXx sc jCz sH with N:=x::f,fn:=λy=>y==x} elt eJ)(w:QUs>>>4)(u:(∀nj,cellsFrom! n sc.TW j=(x,n,)::j)>>>7)(o:(∀h:n3,pushCells! h sc.TW=h.Uu {dM:=.TB "cell",mY:=.aQ ε})>>>7)(b:QEb>>>4)(a:QAW>>>3)(d:(∀y∈sc.TW,y.2=.aQ->y.1=x)>>>3)(c:QAT>>>4)(p:QC8>>>4)(t:QOq>>>4)(l:QB4>>>4)(B:QA7>>>7):mPXQAiQG0:=by
 intro v s SHQ Ih;rw[eval_ListComp!];show RP (xx:=λ___=>oA) (fnx:=λy=>y==x) (ns:=[x]) (gx:=λy_vs=>vs=[y]) f Fi EL (J3i (.P2^Op! w)^.UR^YJx) ba (wSuo) (λyhe=>T8.Ui^dyhe) (λye=>by cases ZZe;show(0,cG,w)) (T5.Ui λy A=>by rw[T5.mp cy A];rfl) p tlB Ih (λJ TrD M=>?_) λR Ok_ Pq=>KZR Ok Pq;let(W,m,g):=rD M;show(W,m,J4g)
end
section
variable{X:n8}{elt qF:bI}{xy:bE}{g4 py pt b8:nV}{kt:χ}{sc:qA}{qJ:TI}{eJ:TE}
def J6(e:γbE)(p:X.TN=π)(i:(x::y::e).qg)(o:vZXQChqFqJ)(q:∀(k:γQBH)QGE(j:γθ)QCDQAH,mP {rFXx sc kCj sH with N:=x::y::e} elt eJ)(m:QB0>>>4)(l:QRa>>>4)(b:QEb>>>4)(a:QAW>>>3)(d:QBw>>>3)(c:QA4>>>4)(g:((e.u7 λy=>sc.TW.ς y != δ .local)=π)>>>4)(h:(e.β=X.N.β)>>>4)(f:(((e.zip X.N).u7 λy=>y.1==y.2||sc.TW.ς y.1==ε)=π)>>>4)(n:QA7>>>7):mPX (.Xb elt [(.Zv [.Ip xg4,.Ip y py] kt pt,qF,[],(0))] sc b8)^Z6 X.K qJeJ:=K3epio (λkCj sH=>(t7,qkCj sH)) mlbadcghfn
end
def dq!{K:qI}{J:zI}{tt:TT}{C:TE}{r:St}{Q:oE}(F:χ->V->V->Prop)(o:θ->χ->γ V->m1->Prop)(hz:n≤Φ)(M:∀i d,mIHd->i<n->J.go i d)(L:∀i d xj,mIHd->i<n->J.yld i d xj->∃p a b,x=.ο p/\Fiab/\dp=ε/\j=mEdp^.iT [a,b])(I:∀d,mIHd->J.lP nd)(R:∀D,HD=ε->oD 0 []^mEHD^.P' [])(N:∀(D:θ)(i:χ)(a b:V)(ys:γ V)(H'j:m1)(E:oE)(f5:m1->Prop),HD=ε->i<n->Fiab->mIHH'->H'D<*.P' ys->oDiysH'->mIH'j->
   (∀yk,kD<*.P' ys->mIH^mEkDQAP->oD (i+1) QBq^mEkDQAP->Eyk)->(∀h,mIHh->hD<*.P' ys->oD (i+1) ysh->f5h)->
   tt (δa::δb::r) j λc h=>if c=π then C (δa::δb::r) h E else f5h)(O:∀DysH',HD=ε->mIHH'->H'D<*.P' ys->oDnysH'->Q (.ο D) H'):∀D,HD=ε->∃W:χ->χ->γ V->m1->Prop,
   (∃m,W 0 m []^mEHD^.P' [])/\∀imysd,Wimysd->dD=δ^.P' ys/\((J.lP i d/\Q (.ο D) d)\/(J.go i d/\ys.β<Φ/\∀xj,J.yld i d xj->
    ∃p a b,x=.ο p/\n'Kjp [a,b]/\tt (δa::δb::r) j λSh=>if S=π then C (δa::δb::r) h λyk=>kD=δ^.P' ys/\∃q,q<m/\W (i+1) q (ys++[y]) (mEkD^.P' (ys++[y]))else ∃q,q<m/\W (i+1) qysh)):=by
 intro D s;show(λimysd=>m=n-i/\i≤n/\ys.β≤i/\mIHd/\dD=δQBc/\oDiysd,(n,!1,pT_,!1,mI.mE s,hJ,RD s),3);rintro i m ys d⟨rfl,P,u,g,l,b5⟩;show(l,3);by_cases f:i<n
 .refine .P2 (Midgf,VMu^pPf hz,λxjt=>?_);let(p,a,b,ζ,w,v,ζ):=Lidxjgft;show(p,a,b,0,n'.of hJ,NDiabysd___ sfwglb5 (mI.mE v) (λykB Az=>(B,n-(i+1),N0__f,0,f,by rw[o9];show WJu,A,hJ,z))^λhB Az=>(n-(i+1),N0__f,0,f,W9u,B,A,z))
 .let e:i=n:=ZVP^xGf;subst e;show .UR (Idg,ODysd sglb5)
abbrev sS QFO(bA:bE)(BP:zR)(body:bI)(g8:qA)QEv(c:θ):j7:=.ext λh=>∃pm ctv,h.Ξ f<*kla_obj "<lambda>" bABP body g8cU pm c ctv
def xk!{P:nA}QGa(x:h.Ξ f<*kla_obj "<lambda>" bAagbd pm cj):qNPwHhf^sSfbAagbdc:=
 ((pm,j,x),(_,x),λ__ik=>by let(p,v,e):=i;show(p,v,k_e))
abbrev Mo! QDl(P0:θ)QIO(bA:bE)(BP:zR)(body:bI)QKm:TE:=λ_HQ=>tZH P0hN/\
 ∀QEv(fc:θ)QD4,QIP->QHL->Hf=ε->f≠c->x8P0HH1->tZH1P0hN->
  H1 c<*ol cbA->H1f<*sSfbABP body sc cUc->Q QArH1
def PY QVT{l:zR}{m:bI}{sc:qA}QTe(B:vR X.υ c P0)(C:HN X.υ X.mg)(r:(b8,bA,)∈hN)(p:∀q∈hN,q.1.Zm=b8.Zm->q.1.col=b8.col->q.2=bA)(A:(X.fN.bA++"<lambda>"=bA)>>>4)(u:(defaultsOf! l X.fN=QTo)>>>4)(t:QAT>>>4):mPX (.Xx l m sc b8)^Mo! X P0hNbAlm sc:=by
 intro z s EHQ Ih;show Δ.W.kla_eval u ?_;rw[A];show Al! (λx_vo=>kla_obj "<lambda>" bAlm sc x ((X.mg "__name__").TC .ε) vo) (λxfv=>sSfbAlm sc xv) xk! ζ IBCrpt (λa b de fgijk=>Δ.W.kla_makeFunction (mg:=X.mg) a I.ok.glob b ndefgij λvoh'w=>kvo .ε h'w) (λa b de fgik=>Δ.W.kla_makeFunctionHit (mg:=X.mg) a I.ok.glob b ndefgi λoh'w=>ko .ε h'w)
  (λDq=>(.ο _,_,D,0,q)) h
def PV{P:nA}{w:o4}{K:qI}{mg:bE->ψη}{υ:n3}{NpsZ:γbE}{bA:bE}{a:qA}{f:θ}{d:γ (bE×θ)}{fvs:γ V}{k:χ}{g:zR}{h:bI}{pm B:η}{l:θ}{F:wY}{o:pZ}(dI:υ.Ξ f<*o)(hd:o.mY=.YN^kla_fn "<lambda>" bAghad pm (.ο l) B)(U:υ.Vt (.ο l) bA)(S:xVNpsZa)(C:rGυda Z fvs)(eN:∀vsHQ E,FvsHQ E->vs.β=ps.β)(j:∀(A:o7)(b7:γ Env)(s:Θ)(H:m1)(vs:γ V)(Q:oE)(E:r3),q4k^A.jq^envX! bAa s⁻¹ f (.ο l) d->FvsHQ E->
   ∃t,mP (N2msPwK mg υ NbAaf (.ο l) d Ab7sH E).nox ht/\t (MONvs fvs) HQ):mTPwK mg υms (k+1) f (kla_fn "<lambda>" bAghad pm (.ο l) B) psF:=by
 show(eN,λAb7sH ab usvsQ E RzcYrm=>?_);let eG:=eN____m;let L:s.ρ.NoLimit:=z.mod.nolimit.hL λboe=>(z.bs boe).1;let i:∀y∈ps.zip us,a.TW.ς y.1<*.local:=λXd7=>by let(n,v):=X;show S.par n (of_mem_zip! d7).1
 let x:s.ρ.Vt QGvbA:=by
  let(c,Y,ws,t,e1,e2,e3,e4):=U;show(c,Y,ws,t,e1,(z.bs c Ye2).1,e3,e4)
 show Δ.W.kla_callFunE R.depth (z.bs fodI).1 hd S.co S.gen ζxQFQ;show wpAny_newFunctionEnv! (closure!:=d) (around!:=ε) S.nocell i (λh'T M=>?_) S.XA;let p:∀bo,s.ρ.Ξ b<*o->h'.Ξ b<*o:=λboe=>M.Zt boQGsQJO;show(L.hL p,Δ.W.kla_codeExpr ?_);let(t,fP,e9):=j Ab7sHvsQ E (R.jq _) m;let I:f' (N2msPwK mg υ NbAafQGvd Ab7sH E) [] QFCH {s with ρ:=h',mU:=s.mU+(ps.zip us).β}:=gD! SC R.hd zeGr Tp;show pW (fP [] _QFCH_QN2e9) (λu s'O=>?_) λe s'O=>O.Q5;let(v,H',J,RF,q):=O;let D:=J.Z_;show(v,H',D.os,D.pH,D.υ,D.rv,RF,q)
section
variable{Ω:nA}{w:o4}{A:o7}{E:η->Θ->Prop}{s:Θ}
end
section
variable{X:n8}{elt qF:bI}{x:bE}{g4b8:nV}{ifs:γbI}{sc:qA}{qJ:TI}{tt:TT}{eJ:TE}
end
end _F
namespace _b
open _F
section
variable{X:n8}{aI:γQA8}{σ:St}{H:m1}{s:Θ}
end
def Mn!{K:qI}{m:St}(A:∀R:γ V->m1->Prop,R [.ο c] H->tmH R)(E:o=.P' xs\/o=.iT xs)(q:Hc<*o)(f:θ->χ->γ V->m1->Prop)(hz:xs.β≤Φ)(L:∀D,HD=ε->fD 0 []^_F.mE HD^.P' [])(B:∀(D:θ)(i:χ)(x:V)(ys:γ V)(H'j:m1)(l:oE)(f5:m1->Prop),HD=ε->xs[i]?<*x->mIHH'->H'D<*.P' ys->fDiysH'->mIH'j->
   (∀y g,gD<*.P' ys->mIHQCg->fD (i+1) QBqQCg->lyg)->QBN->
   tt (δ^.tV (i:ω)::δx::m) j λc e=>if c=π then w (δ^.tV (i:ω)::δx::m) el else f5e)(C:∀DysH',HD=ε->mIHH'->H'D<*.P' ys->fD xs.β ysH'->Q (.ο D) H'):wy! K (Mj! t) tt wmHQ:=by
 let u:∀(D:θ)QAu(a b:V)(ys:γ V)(H'j:m1)(l:oE)(f5:m1->Prop),HD=ε->i<xs.β->(a=.tV (i:ω)/\xs[i]?<*b)->mIHH'->H'D<*.P' ys->fDiysH'->mIH'j->
   (∀y g,gD<*.P' ys->mIHQCg->fD (i+1) QBqQCg->lyg)->QBN->
   tt (δa::δb::m) j λc e=>if c=π then w (δa::δb::m) el else f5e:=by
  rintro D i a b ys H' j l f5 J _⟨rfl,I⟩Z Y X W U T;show BDibysH'jlf5J I Z YX W U T
 obtain⟨d,z,F,v⟩:∃d:uJ,[V.ο c]=[d.eT]/\d.A7 Hxs/\∀kQBe,H'c<*o->(d.y4 k).A7 H'xs:=by
  rcases E with ζ|rfl
  .exact (.ls c,0,q,λ__h=>h)
  .exact (.xJ c,0,q,λ__h=>h)
 show A_ (d,xs,z,F,λk=>dq! (K:=K) (n:=xs.β) (λiab=>a=.tV (i:ω)/\xs[i]?<*b) f hz (λir sh=>(xs,xs[i],vkr^s__q,mOh)) ?_ (λr s=>(xs,vkr^s__q,0)) LuC);rintro i r x j s h⟨p,y,zs,S,P,O,N,M⟩;obtain ζ:=OPS^vkr^s__q;show(p,_,y,O,(0,P),N,M)
def bQ!{m:St}(p:∀R:γ V->m1->Prop,R [.ο c] H->tmH R)(s:o=.P' xs\/o=.iT xs)(u:Hc<*o)(h:θ->χ->γ V->m1->Prop)(hz:xs.β≤Φ)(v:∀D,HD=ε->hD 0 []^_F.mE HD^.P' [])(q:∀(D:θ)(i:χ)(x:V)(ys:γ V)(H'l:m1)(j:oE),HD=ε->xs[i]?<*x->mIHH'->H'D<*.P' ys->hDiysH'->mIH'l->
   (∀yk,kD<*.P' ys->mIH^_F.mE kD^.P' (ys++[y])->hD (i+1) (ys++[y])^_F.mE kD^.P' (ys++[y])->jyk)->n (δ^.tV (i:ω)::δx::m) lj)(r:∀DysH',HD=ε->mIHH'->H'D<*.P' ys->hD xs.β ysH'->Q (.ο D) H'):Z6K (Mj! t) n mHQ:=Mn! (tt:=tAlways!) p suh hz v (λDixysH'ljf5abcdefg_=>hI^qDixysH'ljabcdefg) r
def Oq!{d1d2:uJ}{xszs:γ V}{j:St}(o:∀R:γ V->m1->Prop,R [d1.eT,d2.eT] H->tjH R)(h1:d1.A7 Hxs)(h2:d2.A7 Hzs)(u:xs.β=zs.β)(d:θ->χ->γ V->m1->Prop)(hz:xs.β≤Φ)(B:∀D,HD=ε->dD 0 []^_F.mE HD^.P' [])(q:∀(D:θ)(i:χ)(x z:V)(ys:γ V)(H'e:m1)(f:oE),HD=ε->xs[i]?<*x->zs[i]?<*z->mIHH'->H'D<*.P' ys->dDiysH'->mIH'e->
   (∀y g,gD<*.P' ys->mIH^_F.mE gD^.P' (ys++[y])->dD (i+1) (ys++[y])^_F.mE gD^.P' (ys++[y])->fyg)->m (δx::δz::j) ef)(r:∀DysH',HD=ε->mIHH'->H'D<*.P' ys->dD xs.β ysH'->Q (.ο D) H'):wy! K (sUt) tAlways! mjHQ:=by
 show o_ (d1,d2,xs,zs,0,h1,h2,λk1k2=>?_);let l:∀{c:m1},mIHc->(d1.y4 k1).A7 cxs:=λs=>JZ (TUh1) s;let k:∀{c:m1},mIHc->(d2.y4 k2).A7 czs:=λs=>JZ (TUh2) s;show dq! (K:=K) (J:=LF (d1.y4 k1)^d2.y4 k2) (n:=xs.β) (λiab=>xs[i]?=δa/\zs[i]?<*b) d hz (λic sh=>(xs,zs,xs[i],zs[i]'(EJhu),l s,k s,mOh,mO_)) ?_ (λc s=>(xs,zs,l s,k s,u,0)) B ?_ r
 .rintro i c x e s h⟨p,X,bs,a,b,N,M,L,I,F,E,C⟩;obtain ζ:=OPN^l s;obtain ζ:=OPM^k s;show(p,a,b,F,(L,I),E,C)
 .rintro D i a b ys H' e f f5 A W⟨w,v⟩U T S P O Y;show hI^qDiabysH'ef Awv U T S P O
def dl!{d1d2:uJ}{xszs:γ V}{c:St}(g:∀R:γ V->m1->Prop,R [d1.eT,d2.eT] H->tcH R)(h1:d1.A7 Hxs)(h2:d2.A7 Hzs)(k:xs.β=zs.β)(a:θ->χ->γ V->m1->Prop)(hz:xs.β≤Φ)(l:∀D,HD=ε->aD 0 []^_F.mE HD^.P' [])(h:∀(D:θ)(i:χ)(x z:V)(ys:γ V)(H'e:m1)(d:oE),HD=ε->xs[i]?<*x->zs[i]?<*z->mIHH'->H'D<*.P' ys->aDiysH'->mIH'e->
   (∀yb,bD<*.P' ys->mIH^_F.mE bD^.P' (ys++[y])->aD (i+1) (ys++[y])^_F.mE bD^.P' (ys++[y])->dyb)->f (δx::δz::c) ed)(j:∀DysH',HD=ε->mIHH'->H'D<*.P' ys->aD xs.β ysH'->Q (.ο D) H'):Z6K (sUt) fcHQ:=Oq! gh1h2ka hz lhj
def ik! QJM:(mJl).u7 BE=π:=by
 rw[mJ,γ.all_map,T5];show λ__=>rfl
inductive P8 QAJ QAH QAR QA5:Prop
 |mk (m:θ) (v:θ) (o:j7) QA6 QDu QAt QFi QSQ QCX QDf QKW (_:Hv<*o) (_:k.β≤60) QRb (_:∀(l:θ)(ls:γθ)QBe,mIHH'->H'l<*.P'^ls.Tx V.ο->ls.β=L.β->(∀(q:χ)QCw,ls[q]?<*a->H'a<*.P'^mJ^gAWkq)->Q QGvH')
def Yz! QGo QVP(x:a):QLg[l.β]?<*x:=by simp
def mK!{d:Type}[wAd]:∀{a b:γd},a.qg->QVc->a.β≤b.β
 |[],_,_,_=>pT_
 |x::a,b,h,k=>by
  rw[ZL!]at h;let e:x∈b:=kxcG;have:=mK! (a:=a) (b:=b.erase x) h.2 λcf=>(γ.mem_erase_of_ne (λz:c=x=>h.1^by rw[<-z];show f)).Ui^kcQOh;rw[γ.length_erase_of_mem e]at this;have:=γ.length_pos_of_mem e;rw[oY];lia
end _b
namespace _F
open PySem.Spec PyProof.Rows
structure K4 QN5 QFJ(fr:γbE)QKm:Prop where
 XA:sc.XA=.XH
 co:sc.isCoroutine=ν
 gen!:sc.isGenerator=ν
 eR:N.qg
 pre:N.Uj 1=[x]
 suf!:N.Gd QEl=fr
 fit!:1+fr.β≤N.β
 par!:sc.TW.ς x<*.aQ
 only:∀y∈sc.TW,y.2=.aQ->y.1=x
 lay!:∀n acc,cellsFrom! n sc.TW acc=(x,n,)::acc
 Uu!:∀h,pushCells! h sc.TW=h.Uu {dM:=.TB "cell",mY:=.aQ ε}
def FH!{M:Model!}QRq QD7{s:Θ}{a:qA}{globals!:θ}{code:η}(S:K4Nxqa)(n:∀h'j,h'.Ns s⁻¹ QL8->h'.vr QBPQP3->QBY->Q (newEnv! a s⁻¹ globals! (QED::d) bAYN code ε builtins!) {s with ρ:=h',mU:=j}):lZM A (newFunctionEnv! a globals! d [(x,u,)] bAYN code ε builtins!) Q E s:=by
 simp only[ψ.isSome_none,newFunctionEnv!,if_false!,b9.false_eq_true];show lT^wpAny_alloc!^lT (wpAny_layCells! _ (λnm lcs=>by cases z:l==lE.aQ<;>simp[z]) ____ ?_);rw[S.lay,S.Uu];let i:(s.ρ.Uu {dM:=.TB "frame",mY:=.wF #[]}).u_.fC=s⁻¹+1:=yW ..;let k1:∀bo,s.ρ.Ξ b<*o->((s.ρ.Uu {dM:=.TB "frame",mY:=.wF #[]}).Uu {dM:=.TB "cell",mY:=.aQ ε}).Ξ b<*o:=λboe=>nN_QJO;let g:((s.ρ.Uu {dM:=.TB "frame",mY:=.wF #[]}).Uu {dM:=.TB "cell",mY:=.aQ ε}).vr QBPε:=(_,by rw[<-i];show t8_ζ,0);let f:((s.ρ.Uu {dM:=.TB "frame",mY:=.wF #[]}).Uu {dM:=.TB "cell",mY:=.aQ ε}).Ns s⁻¹ QL8:=(n3.Ns.new s.ρ^.TB "frame").hL λboe=>nN_e;dsimp only;rw[i];generalize (s.ρ.Uu {dM:=.TB "frame",mY:=.wF #[]}).Uu {dM:=.TB "cell",mY:=.aQ ε}=p at k1 g f⊢;show lT ?_;rw[DR];let lk:(QED::d).ς x<*QBP:=by rw[zJ];simp
 show lT (lT^wpAny_storeName_cell! (c:=s⁻¹+1) (v₀!:=ε) S.XA S.par lk g λh'mh=>mR ?_);dsimp only;rw[ZY];show mRQBp;let k:∀QBG{o:pZ},s.ρ.Ξ b<*o->b≠s⁻¹+1:=λe=>p8^ZAQS';show nh'_ (f.sameBut hQR5) m λboe=>h.Zt bo (ke)^k1boe
abbrev rH!(r0:CXT)QLB QBg QAw QAy QRH QN5 QFJ(bA:bE)(g8:qA)QFO(cd:η)QEv(A:o7)QER QCD QAH QE4:n8:=N2r0PwK mg υ NbAg8f cd (QED::cU) Ab7sH E
section
variable{r0:CXT}{P:nA}{w:o4}{K:qI}{mg:bE->ψη}{υ:n3}{N fr:γbE}{x:bE}{bA:bE}{g8:qA}{f:θ}{cd:η}{cU:γQBH}{A:o7}{b7:γ Env}{s:Θ}{H:m1}{E:r3}{u:η}{v:V}{fvs:γ V}
def HX!(S:K4Nx fr g8)QQS(B:A.T6=ε)(n:AZPwK mg υ Ab7sH)QI2(t:h'.Ns s⁻¹ QL8)(e:h'.vr QBPQP3)(I:∀bo,s.ρ.Ξ b<*o->h'.Ξ b<*o):f' (rH! r0PwK mg υ NxbAg8f cd cUAb7sH E) [] QNXH {s with ρ:=h',mU:=U}:=by
 let g:∀cv,υ.vr cv->h'.vr cv:=λcvD=>by let(o,l,B):=D;show(o,Ico (n.bs c o l).1,B)
 let d:∀yc,cU.ς y<*c->c≠s⁻¹+1:=λych=>by
  let(v,o,l,_):=C.aQ ych;show p8^ZA^oN (n.bs c o l).1
 let j:(QED::cU).ς x<*QBP:=by rw[zJ];simp
 let k:∀{y},y≠x->(QED::cU).ς y=cU.ς y:=λ{y}h=>by rw[zJ,show(y==x)=ν by simpa using h]
 let lk:∀{yc},(QED::cU).ς y<*c->(y=x/\c=s⁻¹+1)\/cU.ς y<*c:=λ{yc}h=>by
  by_cases z:y=x
  .rw [z,j]at h;show .UR (z,(ψ.δ.WZ h).UH)
  .exact .P2^(kz).UH.ξ h
 show gC! S.XA S.fit S.suf C.eN Bnt I (λyzch1h2=>?_) (λym=>?_) (λych=>?_) (λiy Jh1p=>?_) λiy Jh1p=>?_
 .rcases lk h1 with⟨T,R⟩|a<;>rcases lk h2 with⟨Q,O⟩|b
  .rw [T,Q]
  .exact mWR^d__b
  .exact mWO^d__a
  .exact C.WZ yzcab
 .by_cases z:y=x
  .rw [z];show(_,j)
  .rw [kz];rcases m with m|m
   .exact mW (S.only _ (Δ.Vm m) ζ) z
   .exact C.A7 _ (Δ.Vm m) ζ
 .rcases lk h with⟨_,z⟩|z
  .rw [z];show((_,e),n.rv.ax QIe)
  .obtain ⟨v,o,l,q⟩:=C.aQ ycz;show((v,gcv (o,l,q)),(n.bs c o l).2)
 .obtain ζ:i=0:=χ.lt_one_iff.mp (m9p).1;cases p;let F:(N.Uj 1)[0]?<*y:=by rw[γ.getElem?_take_of_lt (!0)];show h1
  rw[S.pre]at F;cases F;show(u,r,.P2 (.UR S.par,_,j,e))
 .obtain ⟨k1,c,L,k2,k3,M⟩:=C.val ___h1p;show(L,M,.P2 (.P2 k1,c,(k λz=>by rw[z,S.par]at k1;cases k1).ξ k2,gc_k3))
def QI(dI:υ.Ξ f<*o)(hd:o.mY=.YN^Δ.W.fnX cJbAdgg8cU .ε .ε cR pm ε (.ο j) O)(M:υ.Vt (.ο j) bA)(S:K4Nx fr g8)(C:rGυcUg8 fr fvs)(eN:∀vsHQ E,RvsHQ E->vs.β=[x].β)(i:∀(A:o7)(b7:γ Env)(s:Θ)(H:m1)(v:V)(Q:oE)(E:r3),q4k^A.jq^envX! bAg8 s⁻¹ f (.ο j) ((x,s⁻¹+1,)::cU)->R [v] HQ E->
   ∃t,tR (rH! msPwK mg υ NxbAg8f (.ο j) cUAb7sH E).nox g t/\t {pO:=λ_H'=>Q .vS H',CF:=Q} (MON [v] fvs) H):mTPwK mg υms (k+1) f (Δ.W.fnX cJbAdgg8cU .ε .ε cR pm ε (.ο j) O) [x] R:=by
 show(eN,λAb7sH UusvsQ E FzcYrm=>?_);let eG:=eN____m;let(v,ζ):=γ.length_eq_one_iff.mp eG
 let(u,ζ,Y):=x5r;let D:s.ρ.NoLimit:=z.mod.nolimit.hL λboe=>(z.bs boe).1;let p:s.ρ.Vt (.ο j) bA:=by
  let(c,T,ws,t,e1,e2,e3,e4):=M;show(c,T,ws,t,e1,(z.bs c Te2).1,e3,e4)
 show eC! F.depth (z.bs fodI).1 hd S.co S.gen ζpQFQ;show FH! S λh'XLhn=>?_;show(D.hL n,codeAny_func! ?_);let(t,Z,e9):=i Ab7sHvQ E (F.jq _) m;let I:f'QFD [] QNXH {s with ρ:=h',mU:=X}:=HX! SC F.hd z YLhn;show pW (Z.nox [] _QNXH_ Ie9) (λj6s'l=>?_) λe s'l=>l;let y:∀{a:St}QFs{v:V}{u:η},f'QFD [] aH's'->nTvu->Qv H'->CEb7PwH sQu s':=
  λ{aH'vu}JBq=>(v,H',J.os,J.pH,J.υ,J.rv,B,q)
 cases j6 with
 |ret u=>
  let(v,a,H',J,B,q):=l;show y JBq
 |next=>
  let(a,H',J,q):=l;show y (v:=V.vS) (u:=η.ε) Jζq
 |brk=>
  let(_,_,_,q):=l;show oA.Q5 q
 |cont=>
  let(_,_,_,q):=l;show oA.Q5 q
end
instance vBM:γη:=[.TB "ValueError",.TB "Exception",.TB "BaseException",.TB "object"]
instance AI QGE(dd:ψθ)(a0:η):pZ:={dM:=.ο C,wF:=dd,mY:=.xq #[a0,.ε,.ε,.ε,.bC ν,.ε]}
section
variable{P:nA}{w:o4}{A:o7}{E:η->Θ->Prop}{h:n3}{g:pV GenState!}{d:Drawn!}{t:χ}{os:OsState!}
variable{nm q:bE}{C N:θ}{bs bm:γη}{r5:b9}{sn:γbE}{hG:γη}{ab:b9}{col:ψb9}{dd:ψθ}{k0k1k2k3k5:ψη}
def BK!(i:OwnTail! h vBM bm)(f:h.Ξ C<*X3 nm qC Nbs bm r5 sn hG ab col dd k0k1k2k3k5 "ValueError.__new__")(n:h.Ns NmN)(p:mN "__init__"<*.ο fI)(B:h.Ξ fI<*m)(y:m.dM=.TB "function")(s:us.β≤Φ)(x:∀h'e,h.u_.fC≤e->n3.MadeExcOf hh'eQAkus->lZQBEAQNY (λr s'=>r=.ε/\Q (.done^.ret QAm) s') EQOr):lZQBEA (Builtin.«type.__call__» (.ο C::us,[])) Q EQKz:=by
 let a:=nr!;let l:vBM.Hr^.TB "ValueError"=π:=ζ;repeat (first|with_reducible show X1f ?_|with_reducible show wpAny_madeBy_exc! f ?_|wp_step)
 show codeAny_call_builtin_code! (Code.quiet_builtin _ a.quiet) (wpAny_check_new_subU! a lif ?_);show codeAny_exc_new_subU! a laif ?_ s;change lZ______;let c:∀bo,h.Ξ b<*o->((h.Uu {dM:=.TB "tuple",mY:=.Yv us.Λ}).Uu QEE).Ξ b<*o:=λboz=>nN_^nN_z;let c1:=c__f;let D:=c__B;let n1:((h.Uu {dM:=.TB "tuple",mY:=.Yv us.Λ}).Uu QEE).Ns NmN:=(by let(o,F,H,z,r):=n;show (o,F,H,c__z,r));let k:((h.Uu {dM:=.TB "tuple",mY:=.Yv us.Λ}).Uu QEE).Ξ QSJ<*AICε^.ο h.u_.fC:=by heap_get
 let j:(η.ο C::bm).Hr QAk=π:=by simp
 let t1:=i.hL (h':=(h.Uu {dM:=.TB "tuple",mY:=.Yv us.Λ}).Uu QEE) c;unfold isInstance!;repeat (first|with_reducible show X1k ?_|(with_reducible show wpAny_isSubtype_exc! c1 ?_;rw[j])|wp_step)
 change lZ__ (typeLookup! QAk_) ___;show wpAny_typeLookup_tail! c1n1t1 a.mroIs a.init.ς ?_;rw[p];show tOQDr;unfold bindSpecial!;show lT (wpAny_typeOf! (T:="function") (_,D,y) ?_);rw[mG (!0)];show mR (lT^pW (x_QSJQIe (c,n3.get?_none_of_le QIe,h.u_.fC,k,n3.get?_none_of_le QBF,3)) (λr s'u=>?_) λ__z=>z)
 .exact nN_QOs
 .obtain ⟨rfl,v⟩:=u
  wp_walk
  show v
def nw!(c:OwnTail! h vBM bm)(a:h.Ξ C<*X3 nm qC Nbs bm r5 sn hG ab col dd k0k1k2k3k5 "ValueError.__new__")(i:h.Ns NmN)(k:mN "__init__"<*.ο fI)(o:h.Ξ fI<*f)(n:f.dM=.TB "function")(l:us.β≤Φ)(m:∀h'e,h.u_.fC≤e->n3.MadeExcOf hh'eQAkus->lZQBE (A.under^.Rm "type.__call__" (.ο C::us,[])) QNY (λr s'=>r=.ε/\Q QAms') EQOr):lZQBEAQL_Q EQKz:=by
 let s:=tc_lookup!;let p:=tc_bind! QAk;let b:(QKz:Θ).Yf QAk "type":=(_,a,0);show zO (codeAny_of_tree! ?_);change lZ__ (callAny! QAk_) ___;repeat (any_goals (first|assumption|with_reducible show X1a ?_|wp_step))
 show(0,3);show codeAny_call_builtin_at! (Code.quiet_builtin _ (!3)) entry_typeCall! (wpAny_check_type_call_sub! a^BK! c aikonl λh'ej mk=>?_);show mh'ej mk
def ux!(f:OwnTail! h vBM bm)(l:h.Ξ C<*X3 nm qC Nbs bm r5 sn hG ab col dd k0k1k2k3k5 "ValueError.__new__")(a:h.Ξ e<*AICεQMV)(k:∀h',(∀bo,b≠e->h.Ξ b<*o->h'.Ξ b<*o)->h'.Ξ e<*AICε^.ο h.u_.fC->Q .ε QOr):lZQBEA (wG (.Rm "ValueError.__init__") [.ο e,u]) Q EQKz:=by
 let c:=nr!;let i:e≠h.u_.fC:=p8^oNa;show zO^N' c.init.plain c.initEntry (wpAny_check_init_subU! cflaζ ?_)
 wp_walk
 show k_ (λbojz=>?_) ?_
 .rw [y1__^Ne.UH j];show nN_z
 .rw [xF_ (nN_a) ζ];rfl
def FQ!(a:bm.Hr^.TB "BaseException"=π)(i:A.T6=ε)(k:lZM Ax (λvb=>∃ed2a0,v=.ο e/\b.ρ.Ξ C=δ^X3 nm qC Nbs bm r5 sn hG ab col dd k0k1k2k3k5 "ValueError.__new__"/\b.ρ.Ξ e=δ^AICd2a0/\EQAmb) E s):lZM A (raiseStmt! fN (δx) ε) Q E s:=by
 let c:(η.ο C::bm).Hr^.TB "BaseException"=π:=by rw[γ.contains_cons,a,b9.or_true]
 unfold raiseStmt!;show lT (pWk (λvbh1=>?_) λ__z=>z);let(e,d2,a0,ζ,f,l,j):=h1;let(b5,g,d,m,os):=b;repeat (first|with_reducible show X1l ?_|with_reducible show X1f ?_|(with_reducible show wpAny_isSubtype_exc! f ?_;rw[c])|wp_step)
 show wpAny_raiseNew_none! ij
end
abbrev B3 QAw(Cf:θ):Prop:=∃bm N nm iAbsr5 sn hG ab col dd k0k1k2k3k5,K.ς C=δ^X3 nm iAC Nbs bm r5 sn hG ab col dd k0k1k2k3k5 "ValueError.__new__"/\Δ.W.tailIn K vBM bm=π/\Δ.W.nsOkIn K N=π/\nsIn K N "__init__"<*δQAr
def Uq! QC1 QJP(G:h.Ns Nm)(e:nsIn K Nn<*δv):mn<*v:=by
 let(o,f,g,a,d,_,b):=G;unfold nsIn at e;rcases q:K.ς N with _|⟨c0,d0,D,s0⟩<;>rw[q]at e
 .cases e
 cases D with
 |wF es Fq!=>
  dsimp only at e;rcases c:es.Zh.find? (·.key.isStr n) with _|y<;>rw[c]at e
  .dsimp only at e;by_cases l:es.Zh.I9 QR2=π
   .rw[mGl]at e;cases e
   .rw[mFl]at e;cases e
  .let z:=X__q;rw[a]at z;cases z;cases d;rw[<-b];unfold nsFind! findBy!;rw[<-pV.find?_toList,c];injection e
 |_=>cases e
def B3.obj QC1(q:B3KCf)QJP:∃bm N nm dbsr5 sn hG ab col dd k0k1k2k3k5mN,h.Ξ C=δ^X3 nm dC Nbs bm r5 sn hG ab col dd k0k1k2k3k5 "ValueError.__new__"/\h.Ns NmN/\mN "__init__"=δQAr/\OwnTail! h vBM bm:=by
 let(bm,N,nm,d,bs,r5,sn,hG,ab,col,dd,k0,k1,k2,k3,k5,a,e,b,c):=q;let G:h.Ns __:=.of_isNs^Δ.W.isNs_of_in Xb;show(bm,N,nm,d,bs,r5,sn,hG,ab,col,dd,k0,k1,k2,k3,k5,_,X__a,G,Uq! X Gc,Δ.W.tail_of_in Xe)
abbrev Os:η->b9
 |.ο _=>π
 |_=>ν
abbrev s6(l:γη):b9:=l.dropWhile Os==vBM
def r_!(e:s6l=π):(∀a,refuseLoop! a "__setattr__" l=pure ())/\l.Hr^.TB "object"=π/\l.Yj=ν:=by
 induction l with
 |nS=>cases e
 |nF v r b=>
  unfold s6 at e b;rw[γ.dropWhile_cons]at e;cases h:Osv with
  |ν=>
   rw[h,mF b9.UF]at e;rw[ZZe];show(λa=>Δ.F.store_ValueError.passes a,!0,0)
  |π=>
   rw[h,mGζ]at e;let(h1,h2,_):=b e;obtain⟨c,ζ⟩:∃c,v=.ο c:=by cases v<;>first|show(_,0)|cases h
   show(λa=>(refuseLoop_ref! a_cr).ξ^h1a,by rw[γ.contains_cons,h2,b9.or_true],0)
def qC!{Ω:nA}QGa QRq QC1 QDQ(I:Δ.W.InstAt s.ρ x ox! Ct)(b5:(Δ.W.clsIn KC).I9 (λi=>s6 i.mro)=π)(m:takerIn! KCcJ<*ε)(h:∀b,lZQAS A.in1 (Builtin.ObjectAttr.storeInOwnDict QCdQAk (.uM cJd) cJvb) (λg s'=>match g with|.done f=>R (.ok f) s'|.again k=>k.quiet=π/\wIQASAk R s') QPfs):wIQASA (.wG (.Rm "object.__setattr__") ([.ο x,.uM cJd,v],[])) R s:=by
 let(i,j,o):=any_some! b5;let(c,A7,l):=r_! o;let hG:Δ.W.Looks QAS s.ρ (isInstance! QCd^.TB "object") π:=I.TB.andThen (Δ.W.looks_mroIn X^by unfold Δ.W.mroIn;rw[j,ψ.bind_some,mF^by rw[l];decide,A7]);let(attr!,q,n):=ψ.bind_eq_some_iff.mp m;let r:Δ.W.Looks QAS s.ρ (Builtin.ObjectAttr.storeTaker? attr!) ε:=by
  cases attr! with
  |ε=>show .now
  |δ a=>
   let(b,p,e):=r7n;cases b
   .exact (Δ.W.looks_takesIn Xp).andThen .now
   .cases e
 show N' store_object.slot.plain store_object.entry (@Δ.W.check_slot QAS__ s "object.__setattr__" "object" "__setattr__" QCd [.uM cJd,v] [] _ store_object.XA store_object.split hG (store_object.args QCd (.uM cJd) v) ?_);rw[Δ.W.osa_eq,refuse_eq!];show lT^lT^I.TB.here^lT (((looks_clsIn! Xj).andThen .now:Δ.W.Looks QAS s.ρ (mroOf! QAk) i.mro).here ?_);rw[c];show mR^lT^I.TB.here^lT^(Δ.W.Y1 Xq).here^lT^r.here^h_
structure M1 QAw QGE:Prop where
 sa!:Δ.W.Xu KQAk "__setattr__"<*δ^.Rm "object.__setattr__"
 po!:(Δ.W.clsIn KC).I9 (λcd=>s6 cd.mro)=π
 hd:Δ.W.hasDictIn KC=π
structure gg! QAw(R:θ):Prop where
 ga!:Δ.W.specialIn K (.ο R) "__getattribute__"<*δ^.Rm "type.__getattribute__"
 rd!:Δ.W.readsIn K R^.TB "type"=π
 R2:Δ.W.findCls K (.ο R) (.TB "type") "__init__"<*.val^.Rm "ValueError.__init__"
section
variable{Ω:nA}{w:o4}{A:o7}{E:η->Θ->Prop}{s:Θ}{K:qI}{xC dx:θ}{a0:η}{cJ:bE}{v:η}{mA:bE->ψη}
def bc! QDQ(h:s.ρ.Ξ x<*AICεa0)(c:M1KC)(r:takerIn! KCcJ<*ε)(D:∀h'd,s⁻¹≤d->h'.Ξ x<*AICQTpa0->h'.Ns1 d (λy=>if y=cJ then δv else ε)->(∀bo,b≠x->s.ρ.Ξ b<*o->h'.Ξ b<*o)->Q () {s with ρ:=h',mU:=s.mU+2}):lZQASAQJIQ E s:=by
 let J:Δ.W.InstAt s.ρ x (AICεa0) Cε:=(h,5,trivial);show set_plain! X J c.sa (qC! (s:={s with mU:=s.mU+1}) X J c.po r λb=>?_);let(F,u,k):=any_some! c.hd;show lT^mR^lT^lT^wpAny_loadPart! h^lT (Δ.W.Looks.here (s:={s with mU:=s.mU+1}) (looks_clsIn! Xu) ?_);rw[k];let n:(s.ρ.Uu {dM:=.TB "dict",mY:=.wF #[]}).Ξ x<*AICεa0:=nN_h;let f:x≠s⁻¹:=p8^oNh;show lT^wpAny_alloc'!^lT^wpAny_update'! n^mRQDr;let j:((s.ρ.Uu {dM:=.TB "dict",mY:=.wF #[]}).ei x λo=>{o with wF:=δ s⁻¹}).Ξ s⁻¹<*{dM:=.TB "dict",mY:=.wF #[]}:=
  (n3.get?_update_ne ____ f.UH).ξ QOs
 let i:((s.ρ.Uu {dM:=.TB "dict",mY:=.wF #[]}).ei x λo=>{o with wF:=δ s⁻¹}).Ns s⁻¹ QL8:=(_,#[],_,j,0,λet=>mWt (!1),λ_=>rfl);show mR (lT^wpAny_nsSet1! (n3.Ns1.of_empty i) λh'gm=>?_);let l:=g.count^Within.nF cJv Within.nS;let(q,_,_,q1,q2,p):=l;let a:q.mY.pastItsLine=ε:=q2▸pastItsLine_dict! (n5p^by rw[w9];change 1≤_;lia);show lT (wpAny_lookBehind! q1a ?_);show mR (D__QBF ?_ g λboBz=>?_)
 .exact (m.2 xf).ξ^xF_nζ
 .exact (m.2 b^p8^oNz).ξ^(n3.get?_update_ne ____B).ξ^nN_z
def Kl! QDQ(i:s.ρ.Ξ x<*AIC (δ dx) a0)(h:s.ρ.Ns1 dx mA)(c:M1KC)QQA QTD(hsz:ns.β≤Φ)(o:∀h',h'.Ns1 dx QI5->zN dx s.ρ h'->Q () {s with ρ:=h',mU:=s.mU+2}):lZQASAQJIQ E s:=by
 let(k,m,q):=cm! h;let J:Δ.W.InstAt s.ρ x (AIC (δ dx) a0) C^δk:=(i,5,m);show set_plain! X J c.sa (qC! (s:={s with mU:=s.mU+1}) X J c.po l λb=>?_);let(r,n,f):=any_some! c.hd;show lT^mR^lT^lT^wpAny_loadPart! i^lT (Δ.W.Looks.here (s:={s with mU:=s.mU+1}) (looks_clsIn! Xn) ?_);rw[f];show mR (a:=δ dx)^lT^mRQDr;show wpAny_nsSet1! (s:={s with mU:=s.mU+1}) h λh'de=>?_;let g:=d.count QPa;let(p,_,_,q1,q2,j):=g;show lT (wpAny_lookBehind! q1 (q2▸pastItsLine_dict!^n5j^by rw[oY];show FG hsz) ?_);show mR^o_de
end
abbrev rM(eC:θ)(dd:ψθ):j7:=.ext λh=>∃t0:θ,h.Ξ e<*AIC dd^.ο t0
abbrev CP(dx:θ)QUG:j7:=.ext λh=>∃mA,h.Ns1 dx mA/\QMz/\Δ.Within mAQRu
abbrev z9 QAH(e:θ):m1:=λb=>if b=e then ε else Hb
def yN(h:b≠e):z9Heb=Hb:=mFh
def K5:z9Hee=ε:=mGζ
section
variable{X:n8}{aI:γQA8}{σ:St}{H:m1}{s:Θ}{aC dx:θ}{fs:γQDa}{f:bE}{y:V}{u:η}{A:o7}{E:η->Θ->Prop}
def QJ(N:X.ex=[])QAB(e:Ha<*rMaCε)(c:M1 X.K C)QI6(L:nTyu)(P:∀d s',Hd=ε->d≠a->f'XaIσ (mE (mEHa^rMaCQTp) d^CPd [(f,y,)]) s'->Q () s'):lZQAAAQKIQ E s:=by
 let((a0,R),_,_):=I.rv a_e;show bc! I.kIn Rc n.taker λh'dDinsj=>?_;let F:s.ρ.Ξ d=ε:=n3.get?_none_of_le D;let l:Hd=ε:=I.rv.ax D;let J:d≠a:=(oZel).UH;let S:=I.write (x:=a) (e:=a) (o:=rMaCQTp) (h':=h') (t':=s.mU+2) (by rw[e];show vN.Vw) QAvj (_,i) ((a0,i),(_,i),λh1h2Bk=>by let(z,q):=B;show QUt);let h:∀bo,s.ρ.Ξ b<*o->b≠d:=λboqz=>by rw[z,F]at q;cases q
 show Pd_l J (S.track (e:=d) (by rw[a'J];show l) (B4I N F) ?_ (λxcq=>?_) (λpb5=>?_) (_,ns,λg=>?_,λg O=>?_) ?_ ?_)
 .obtain ⟨m,⟨o,T,U,z,_⟩,_⟩:=I.loc;show h_oz
 .obtain ⟨v,o,r,_⟩:=I.aQ xcq;show hcor
 .exact h p.1 p.2 (I.pin pb5).1
 .change aE (γ.ς g [(f,y,)]) (if g=f then δu else ε);by_cases q:g=f
  .let t:(g==f)=π:=T8.Ui q;rw[mGq];simp only[γ.ς,t];show L
  .let t:(g==f)=ν:=Ul.Ui q;rw[mFq];simp only[γ.ς,t];show vN.Vw
 .by_cases q:g=f
  .rw [q];show aL.Ui ζ
  .exact mW (show(if g=f then δu else ε)=ε by rw[mFq]) O
 .obtain ⟨o,_,_,z,_⟩:=ns;show(o,z)
 .exact λh1h2⟨M,z,r⟩k=>(M,z.at k,r)
def QK! QAB(e:Ha<*rMaC^δ dx)(l:H dx<*CP dx fs)(c:M1 X.K C)QI6(J:fs.β<1000)(p:nTyu)(D:∀s',f'XaIσ (mEH dx^CP dx^am fyfs) s'->Q () s'):lZQAAAQKIQ E s:=by
 let((a0,F),_,_):=I.rv a_e;let((d,t,r,i),_,_):=I.rv dx _l;let hz:(fs.Tx QBA).β≤Φ:=by rw[j',w9];show Gi! J
 show Kl! I.kIn Ftc n.taker i hz λh'nsm=>D_ ?_;let j:∃o,h'.Ξ dx<*o:=(by let(o,_,_,z,_):=ns;show (o,z));show I.write (x:=dx) (e:=dx) (by rw[l];show vN.Vw) QAv (λbqBz=>(m.2 bB).ξ z) j ((_,ns,λg=>?_,λgv=>?_),j,λh1h2hk=>by let(d,z,r):=h;show(d,z.at k,r))
 .change aEQTE (if g=f then δu else dg);rw[wO];by_cases q:g=f
  .rw [mGq,mGq];show p
  .rw [mFq,mFq];show r g
 .by_cases q:g=f
  .rw [q];show(JIfyfs).1
  .refine (JIfyfs).2 g (ig λz=>v ?_);change (if g=f then δu else dg)=ε;rw[mFq];show z
end
inductive QL! QAw QRA QM0 QCC(y:V)(x:V)(bF:m1):Prop
 | mk (aC:_) (_:x=.ο a) (_:M1KC) (_:u6KCf) (_:((bFa=δ^rMaCε/\∀d,bFd=ε->d≠a->D.pO σ^mE (mEbFa^rMaC^δd) d^CPd [(f,y,)]) \/
  ∃dx fs,bFa=δ^rMaC^δ dx/\bF dx=δ^CP dx fs/\fs.β<1000/\D.pO σ^mEbF dx^CP dx^am fyfs))
abbrev QM QAw(bWgG:TE)QRA:oW:=λDσH=>gGσH λyH1=>bWσH1^QL! KfDσy
def en!(F:X.ex=[])(N:mPXow)(J:mPXbgG)(L:Z'b (δ^.Za ofi) b8.Zm X.fN=pure ν):w0X (.Assign [.Za ofi] bb8)^QM X.K wgGf:=by
 intro g sjHD Ih;show plainObj_wpAny_Assign_Attribute! (nb (Jg sjH_ Ih) λu Ah0=>h0.jW λy S Rtq=>nb (Ng Aj S_ Rq) λE s2k=>?_) L;let(x,T,v,B,a,C,O,c,n,r):=k;subst O;obtain ζ:E=η.ο a:=B;rcases r with⟨e,m⟩|⟨dx,fs,e,P,l,m⟩
 .exact QJ Fvecnt λdz MQp=>(j,_,p,md MQ)
 .exact QK! ve Pcnlt λzp=>(j,_,p,m)
inductive za! QAw QAR QAJ QD4:Prop
 |mk (eCfu:_) (_:vs=[.ο e,u]) (_:H1e<*rMeCε) (_:B3KCf) (_:Q .vS H1)
abbrev QN QAw QHR:TE:=λσHQ=>tσH^za! KQ
def wf!{p ab8:nV}{pl:Sem b9}(B:gg! X.K R)(Z:X.mg x<*.ο R)(eM:qTX (e::c) t)(gE:pUXx>>>4)(hd:((x==("__debug__":bE))=ν)>>>0)(he:(Ψ (e::c) X.fN=(ν,oFe X.fN,)::Ψc X.fN)>>>4)(v:((pNb8^Ψc X.fN).I9 (·.1)=ν)>>>4)(Y:(oF (.Wm (.Za (.Ip xp) "__init__" a) (e::c) [] b8) X.fN=(do
   let F <-oFQCf X.fN
   standAt! a.atName
   let(f,first,) <-holding! [F]^getMethod! F "__init__" pl
   callWith! b8 f first (pNb8^Ψ (e::c) X.fN) (backToKw! b8^ZW [] X.fN)))>>>4):mPX (.Wm (.Za (.Ip xp) "__init__" a) (e::c) [] b8)^QN X.K t:=by
 intro l s MHQ Ih;show Δ.W.methodCall_KW (pl:=pl) (CGIgEZ ?_ hd) Y;show Δ.W.method_cls I.kIn B.ga (Δ.W.cls_value I.kIn B.rd B.R2 ζ ?_);let J:=eMb8l {s with mU:=s.mU+1} MH_QOYh;rw[he]at J⊢;let n:(pNb8 (QAh::Ψc X.fN)).I9 QBA=ν:=by
  change (ν||(pNb8^Ψc X.fN).I9 QBA)=ν;rw[v];rfl
 show YL.callWith_builtin n (YL.Yt^nb J λuss2y=>?_);let(vs,E,D,r,j,C,f,u,ev,A,U,q):=y;subst ev;let(O,u2,ζ,T,V6):=IYr;obtain ζ:O=η.ο j:=T;let((a0,eO),_,_):=D.rv j_ A;let(bm,N,nm,iA,bs,r5,sn,hG,ab,col,dd,k0,k1,k2,k3,k5,mN,cO,om!,Ac!,P):=U.obj D.kIn;let(jP,g,d,S,os):=s2;show ux! PcOeO λh'mi=>(.vS,E,3,0,q);let L:=D.write (x:=j) (e:=j) (o:=rMjCε) (h':=h') (t':=S) (by rw[A];show vN.Vw) QAvm (_,i) ((_,i),(_,i),λh1h2wk=>by let(z,q):=w;show QUt);let lS:mEEj^rMjCε=E:=by
  funext b;unfold mE;split
  .rename_i z;rw[z,A]
  .rfl
 rw[lS]at L;show L
section
variable{X:n8}{r0:CXT}{k:χ}{fC:θ}{fd:uP}{ps:γbE}{sp:wY}{EeV:r3}{x:bE}{np cpos b8:nV}{e0:bI}{es:γbI}{t:w4}
def zv!{j:St}{Q:oE}(T:X.ex=[])QI_ QJw QAa(W:q4 (k+1) X.A)(Z:p6 X.K fd ps [])(b5:AOr0XeV)(I:f'XbjH s)QGb(U:us.β≤Φ)(h:∀e,He=ε->sp QMWQE9QNZeV):lZQAA X.A QL_ (λu s'=>∃eH',u=.ο e/\X.Xy.ρ.Ξ e=ε/\f'XbjH's'/\Q QAmH') X.xe s:=by
 let(bm,N,nm,iA,bs,r5,sn,hG,ab,col,dd,k0,k1,k2,k3,k5,mN,cO,R,S,L):=M.obj I.kIn;obtain⟨n,fO,R2⟩:∃n,s.ρ.Ξ f=δn/\n.dM=.TB "function":=by
  let(o,q,e):=r7 (show ψ.Tx (λx:pZ=>x.dM)^γ.ς f X.K<*.TB "function"from T8.mp fn);show(o,I.kIn __q,e)
 let(jP,g,d,m,os):=s;show nw! LcOR SfOR2U λh'ees mk=>?_;let(t0,J,vV,qX!):=mk.Xq;let l:f'XbjQE9 (h',g,d,m,os):=I.laid (a:=e) (o:=rMeCε) (h':=h') (t':=m) mk.hL es ((_,J),(_,J),λh1h2pk=>by let(z,q):=p;show QUt);let D:=h e^I.rv.ax es;let B:oG (V.ο e::vs) QFE:=.nF ζr;let Y:(η.ο e::us).β=ps.β:=by
  let z:=B.β;rw[F.eN ____D]at z;show z.UH
 let i:=Z (h',g,d,m,os) QFE l.kIn;rw[vP]at i;show zO (BS (F.n6 _ X.US __QVjQFE__eV (W.make Cus []) (l.env0.make Cus []) (i Y) BD) λr s'c=>?_);cases r with
 |G2 y=>show b5bj__y s'lc
 |ok j6=>
  cases j6 with
  |ret u=>
   let(v,H',zG,O,y,P):=l.after c;subst y;show(O,e,H',0,B4I T mk.new,zG,P)
  |next=>show oA.Q5 c
  |brk=>show oA.Q5 c
  |cont=>show oA.Q5 c
abbrev QX! QGE QE4:oE:=λvH=>match v with
 |.ο e=>∃d,He=δQUu/\EQAkQFWQFF
 |_=>oA
abbrev rQ! QDl QE4:Prop:=∀QAKQCCQAH QCD(eC:θ)(d:ψθ),f'XaIσH s->He<*rMeCd->X.Xy.ρ.Ξ e=ε->EQAkQFWQFF->X.xe QAms
def QO(Z:X.ex=[])QB'(M:X.fN.fm<*X.fN.hl){R:St}(I:f'Xm RH s)(j:He<*rMeCd)QSR(q:EQAkQFWQFF):lZQAA X.A (ZG X.fN QAm) (λ_l=>tP X.Ω X.w X.b7 X.H₀ X.Xy EQAml) (λe'l=>tP X.Ω X.w X.b7 X.H₀ X.Xy Ee'l) s:=by
 let L:s.ρ.V_ X.υ QBr:=eZ▸I.US;let((a0,eO),_,_):=I.rv e_j;let hG:∀b∈oJQBr,b∈e::oJ X.US:=λba=>qO_ (eZ▸a);let r:∀bu,Hb<*u->b≠e->z9Heb<*u:=λbuzn=>(yNn).ξ z;show M7 (Ab! __) (wpAny_leaving_firstW! (υ:=zS s.ρ QQX) (a0:=.ο a0) (by rw[<-eZ];show I.ok.Xe) (L9LhG) MeOQGK (I7_cG) ζζζ λh'GsjO=>?_);let(k1,(_,_,k2),k3,U):=Gs;let fr:∀b∈oJ X.US,∃o,s.ρ.Ξ b=δo/\∀vs,o.mY≠.xq vs:=LA I.US;let g:∀bo,s.ρ.Ξ b<*o->b≠e->b∉oJ X.US->h'.Ξ b<*o:=λbozna=>k1bo (DW_z λp=>(u3.mp p).Q5 n a);let(T,Y,D):=ZMk3;let P:∀b,Hb=ε->b≠e:=λbzy=>by rw[y,j]at z;cases z
 let J:rJQCN [] HQFF s.ρ h':=by
  show(λbozna_=>gboz (Pbn) a,λbozna_=>?_,λbozn_=>by rw[yN^Pbn];show n,λboz_=>?_,λbxsz=>rb_z (qSzj^by intro y;cases y),λbouz=>rb_z (qSzj^by intro y;cases y),λbpsz=>(#[],3))
  .obtain ⟨o',h,N⟩:=fr ba;rw[z]at h;cases h;show Ub_z N
  .by_cases a:b∈oJ X.US
   .obtain ⟨o',h,N⟩:=fr ba;rw[z]at h;cases h;let(vU,F):=Ub_z N;show(_,F)
   .by_cases he:b=e
    .subst he;let(H5,_,_,_,F,_):=D;show(H5,F)
    .exact (o,gboz he a)
  .rw [pV.append_empty];show rb_z (qSzj^by intro y;cases y)
 let i:y' X.Ω X.w QFFh':=λbuz=>by
  let a:b≠e:=λy=>by rw[y,K5]at z;cases z
  rw[yNa]at z;show(I.rv buz).Zx (λcvBy=>?_) (λcy=>rc_y^qSyj (!5)) λcxsy=>rc_y^qSyj (!5);let hH!:∃S,Hc=δ S/\c≠e:=by
   rcases B with ζ|B
   .exact (u,z,a)
   .exact (_,B,qSBj (!5))
  let(S,hw,O):=hH!;show gcvy O λp=>by rw[I.stkFree cp]at hw;cases hw
 let Q:f'Xm RQFF {s with ρ:=h',PF:=s.PF,drawn!:=s.drawn,mU:=s.mU}:=I.wG (g':=s.PF) (d':=s.drawn) (t':=s.mU) (ch:=[]) Ji I.pH QAC;let dT:s.ρ.Ξ T=ε:=by
  cases z:s.ρ.Ξ T with
  |ε=>rfl
  |δ o=>
   let h1:=KGD Q.US;let h2:T≠e:=by let(_,_,_,_,_,_,_,_,y,_):=D;show y
   rw[DW_z λp=>(u3.mp p).Q5 h2h1]at Y;cases Y
 let W:=Q.υ;rw[Z]at W;let Uo!:=OI I.rv dT;show⟨e,T,.ο C,.ο a0,d.Tx (·,π,),z9He,ζ,Q.os,I.pH,W,i,d0,B4I ZdT,K5,by rw[yN^P T Uo!];show Uo!,D.up jOeO (λx z=>by
  let(y,d7,ζ):=r7z;show(d7,λ_=>rfl)),q⟩
abbrev ql!(s0:n3)QGE QPc(EeV:r3)QHR:oW:=λ_σH=>tσH λvsH1=>vs.β≤Φ/\∀e,H1e=ε->sp QMW (mEH1e^rMeCε) (λvbF=>v=.vS/\∃d,bFe=δQUu/\EQAkQFW^z9bFe) eV
def tg!(Z:X.ex=[])QUI(hT:rQ! X E)QI_ QJw QAa(cT:q4 (k+1) X.A)QSS(b5:AOr0XeV)QUv(eM:qTXQTqt)(gE:pUXx>>>4)(hd:((x==("__debug__":bE))=ν)>>>0)(P:(ΨQTq X.fN=(ν,oFe0 X.fN,)::Ψes X.fN)>>>4)(p:((pN cpos QFr).I9 QBA=ν)>>>4):w0X (.Raise (δ^.Wm (.Ip x np) QTq [] cpos) εb8)^ql! X.υ C sp EeVt:=by
 intro b s nHD Ih;let(bm,N,nm,O,bs,r5,sn,hG,ab,col,dd,k0,k1,k2,k3,k5,mN,cO,om!,Ac!,T):=M.obj I.ok.mod.kin;rw[arm_exec_Raise!];show lT^F9^FQ! (C:=C) (nm:=nm) (q:=O) (N:=N) (bs:=bs) (bm:=bm) (r5:=r5) (sn:=sn) (hG:=hG) (ab:=ab) (col:=col) (dd:=dd) (k0:=k0) (k1:=k1) (k2:=k2) (k3:=k3) (k5:=k5) (T.hasType nr.hasBase) (I.ok.hd e8)
  (lT^pW (wpAny_Call_ofName! (CGIgE hm ?_ hd)) (λvLh3=>lT^F9^mRh3) λ__z=>z)
 let R:=eM cpos b s nH_ Ih;let o:(pN cpos^ΨQTq X.fN).I9 QBA=ν:=by rw[P];change QM4=ν;rw[p];rfl
 let S:∀{m:St}QFs{s':Θ},f'XbmH's'->s'.ρ.Ξ C<*X3 nm OC Nbs bm r5 sn hG ab col dd k0k1k2k3k5 "ValueError.__new__":=λiY=>iY.hU __cO;unfold callWith!;show lT^tO (pW (Q:=λ(a:Args!)s2=>a.kw=[]/\∃vsg,f'Xbng s2/\oGvs a.b8/\vs.β≤Φ/\∀e,ge=ε->sp QMW (mEge^rMeCε) (λvl=>v=.vS/\∃d,l e=δQUu/\EQAkQFW^z9le) eV) ?_ QOt λ__z=>z)
 .rw [P]at R⊢;show YL.Yt (nb R λuss2y=>by let(vs,g,j,i,r,q):=y;show(0,vs,g,j,i,r,q))
 let(c,B):=a;let(u,vs,g,j,i,r,q):=h2;obtain ζ:B=[]:=u;let(eF,g2,d2,U,Y):=s2;rw[o];show lT (wpAny_keeperOf_exc! (Sj) ?_);show lT (pW (zv! (Q:=QX! C E) Z M fn FcTcYb5ji (by change c.β≤Φ;let z:vs.β=c.β:=i.β;rw[<-z];show r) λeg9=>qeg9) (λvLdO=>lTQPl) λ__z=>z);let(e,l,ζ,d0,J,d,h1,h2):=dO;let((W,eO),_,_):=J.rv e_h1;show(e,d,.ο W,0,S J,eO,hTbnlLeCd Jh1d0h2)
def Kk!{P:nA}QGa QC1 QEN{υ:n3}QVS:rQ! (aWQBiPwK mg υ NbAafg Ab7sH E) E:=
 λbhjieCd Ih1h2c=>QO (X:=aWQBiPwK mg υ NbAafg Ab7sH E) ζζζ Ih1h2c
end
section
variable{X:n8}{aI:γQA8}{σ:St}{H:m1}{s:Θ}{xygO:bE}{R:θ}{jk:χ}{np hpos! b8pfRj1 ap:nV}{b0:cZ}{suite:γcZ}{ts:oW}{D:Ends}{ps:γbE}{sp:wY}{e:bI}{es:γbI}{t:w4}
end
end _F
namespace _b
open _F
inductive Ot! QAH(fU mk p:θ)QDu QAt(most:χ)QNV QCC QBe:Prop
 |mk QGT (gU:γθ) (s4s5:ψ V) (_:m=UP W.β QC2) (_:σ=[δ^.ο fU,δ^.ο mk,δ^.tV (most:ω),δQAl,s4,s5]) (_:mIHH') (_:H'p<*.P' QK0) QPy (_:PUH'gUWB) (_:∀i<k,nYWB (i+1)≠nYWBi)
def C0.sameL(h:C0Hb R)QBv:C0H'b R:=(h.1,λiardc=>s__^h.2 iardc)
def C0.row(h:C0Hb R)(c:r<R.β):∃a,b[r]?=δa/\Ha<*.P'^mJ^R.TC r []:=by
 let d:r<b.β:=by rw[h.1];show c
 show(b[r],mOd,3);rw[pu,mOc];show h.2 r__ (mOd)^mOc
def C0.toQ(h:C0Ha R):Oo! Ha R:=λire=>by
 let b:i<R.β:=by rw[<-h.1];show(m9e).1
 show(R[i],mOb,_,.UR ζ,h.2 ir_e^mOb)
abbrev E0:χ->n0
 |0=>[[]]
 |n+1=>E0n++(E0n).Tx (·++[n])
def lK!:∀n,(E0n).β=2^n
 |0=>rfl
 |n+1=>by
  change γ.β (E0n++(E0n).Tx _)=_;rw[o9,j',lK! n,χ.pow_succ];lia
def oe!(h:n≤8):(E0n).β≤256:=by
 rw[lK!];show χ.pow_le_pow_right (!0) h
def K6 QSC:∀n,(γ.b_ n).Wo p∈E0n
 |0=>aL.Ui ζ
 |n+1=>by
  change _∈E0n++(E0n).Tx _;rw[γ.range_succ,γ.filter_append];cases h:pn with
  |ν=>
   rw[γ.filter_cons_of_neg^by simp[h],γ.filter_nil,vP];show XS_^K6pn
  |π=>
   rw[γ.filter_cons_of_pos h,γ.filter_nil];show F5_^WB.Ui (_,K6pn,0)
abbrev IW QDu(S:lU)QIL:lU:=(γ.b_ W.β).Wo λr=>S.Hr^pRWrj
abbrev RW QDu QAt:lU:=(γ.b_ W.β).Wo λr=>B.TC rν
abbrev VA(S:lU):b9:=S.Hr 0
section
variable{L:lU}{W:n0}{B:γb9}{g:lU->χ->lU}{s:lU}{mk:lU->b9}{kswsR:n0}{Bm:γb9}
def J7(k:ww L)(l:xSgL sksws ks.β 0)QEO(b:R.β=ks.β)QIF(e:ks.β≤2100):oOL R Bm where
 lt:=k
 n1:=by rw[b];show(m9 l.t0).1
 n60!:=by rw[b];show e
 dW:=dW
 row:=λrh=>by
  let(i,d):=tl.mp h;let c:i<ks.β:=by rw[<-b];show(m9d).1
  let(h1,h2):=a.row ir_d^mOc;show(h1,λxf=>?_);let(q,j):=tl.mp f;rw[b];show(m9^h2qxj).1
def K7(v:lU)QFf:be gL s (v++[c])=g (be gL sv) QBW:=by
 unfold be;rw[foldl_append!];rfl
def iQ!(p:xSgL sksws ks.β 0)QEO(j:R.β=ks.β):∀QCvQHy,w.β=n->QCJ->ks[n6L R 0 w]?<*be gL sw:=by
 intro n;induction n with
 |qW=>
  intro w hw _;rw[Wc.mp hw];show p.t0
 |qV n h=>
  intro w hw f;obtain⟨c,v,ζ⟩:∃cv,w=v++[c]:=(w.getLast (by intro z;rw[z]at hw;cases hw),w.FD,(γ.Wh _).UH);let h1:=hvQDt λxi=>fx (by simp[i]);let b:L.UL c<L.β:=wZ^fc (!1);let e:n6L R 0 v<R.β:=by rw[j];show(m9h1).1
  let(d,o):=a.row ___ (mOe) h1;let m:=oQBW_ (mO^by rw[d];show b);rw[EV,K7];let k:rYL R (n6L R 0 v) c=R[n6L R 0 v][L.UL c]'(by rw[d];show b):=by
   unfold rY;rw[pu (l:=R),mOe];change (R[n6L R 0 v]).TC _ 0=_;rw[pu,mO^by rw[d];show b];rfl
  rw[k];show m
def J8(h:xSgL sksws ks.β 0)QEO(f:R.β=ks.β)QIF(d:∀QRBQFiQKD,ks[r]?<*k->Bm[r]?<*b->b=mk k)QF4:Bm.TC QQVν=mk^be gL sw:=by
 let h1:=iQ! haf_wζ hw;let e:n6L R 0 w<Bm.β:=by rw[dW,f];show(m9h1).1
 rw[pu,mOe];show d___h1^mOe
def vf!(e:oOL WB):∀QMX,QA_->∀r,r<W.β->((be (IWW) LQTru).Hr r=B.TC (n6L Wr u.UQ) ν):=by
 intro uf;obtain⟨n,b⟩:∃n,u.β=n:=(_,0);induction n generalizing u with
 |qW=>
  intro ra;rw[Wc.mp b];change (RWWB).Hr r=_;unfold RW;rw[b9.Mc,Xn!,P5,Ug!];show QST
 |qV n h=>
  intro ra;obtain⟨c,v,ζ⟩:∃cv,u=v++[c]:=(u.getLast (by intro z;rw[z]at b;cases b),u.FD,(γ.Wh _).UH);let j:c∈L:=fc (!1);let d:pRWrQBW<W.β:=BJea^wZj;rw[K7,γ.reverse_append];change _=B.TC (n6L W (rYL Wrc) v.UQ) ν;rw[<-hv (λxi=>fx^by simp[i]) QTs_ (by rw[KI];show d),KI];unfold IW;rw[b9.Mc,Xn!,P5,Ug!];show QST
def oB! QVN(b:∀c∈u,c∈L):VA^be (IWW) LQTru=B.TC (n6L W 0 u.UQ) ν:=vf! aub 0 a.n1
end
def Yq!(a:χ):∀S:lU,A2QQY^mJS=S.Hr a
 |[]=>rfl
 |x::S=>by
  let e:A2QQY^mJ (x::S)=(((x:ω)==(a:ω))||A2 QQY (mJS)):=ζ;rw[e,Yq! a S,γ.contains_cons];congr 1;rw[b9.Mc,T8,T8];constructor
  .intro z;show(ω.ofNat_inj.mp z).UH
  .intro z;rw[z]
def yl:(γ.b_ (i+1)).Wo p=(γ.b_ i).Wo p++(if pi then[i]else[]):=by
 rw[γ.range_succ,γ.filter_append];cases h:pi with
 |ν=>rw[γ.filter_cons_of_neg^by simp[h],γ.filter_nil];rfl
 |π=>rw[γ.filter_cons_of_pos h,γ.filter_nil];rfl
end _b
namespace _F
open PySem.Spec PyProof.Rows
section
variable{X:n8}{elt qF:bI}{x:bE}{g4b8:nV}{ifs:γbI}{sc:qA}{qJ:TI}{tt:TT}{eJ:TE}
end
def ph! QAw QE7:pMX (x' .In)^Vz! Kν:=by
 subst a;show SJ
inductive oH! QAR QAJ QD4:Prop
 |mk (a bxsys:_) QSU (_:H1a<*.iT xs) (_:H1b<*.iT ys) (_:xs.β=ys.β) (_:xs.β≤1000000) (_:∀(l:θ)QTg(bF:m1),ts.β=xs.β->ts.qg->H1l=ε->mIH1bF->bFl<*.P' QF2->(∀QAu(t:θ)QP8,ts[i]?<*t->xs[i]?<*x->ys[i]?<*y->bFt<*.iT [x,y])->Q QGvbF)
abbrev sj!(bW:w4):TE:=λσHQ=>bWσH^oH! Q
def mB!{p mb8f:nV}(w:X.TN=π)(F:pUX "list")(D:X.mg "list"=ε)(E:pUX "zip")(C:X.mg "zip"=ε)(eM:qTX [a,b] W)(R:(Ψ [.Wm (.Ip "zip" m) [a,b] [] f] X.fN=[(ν,oF (.Wm (.Ip "zip" m) [a,b] [] f) X.fN,)])>>>4)(B:QJ3>>>4)(r:((pNf^Ψ [b] X.fN).I9 QBA=ν)>>>4):mPX (.Wm (.Ip "list" p) [.Wm (.Ip "zip" m) [a,b] [] f] [] b8)^sj! W:=by
 intro l s THQ Ih;show y0 (CJI FD boot_list! ?_);show WC.Rows.Wx (e:=.Wm (.Ip "zip" m) [a,b] [] f) (f6:=[]) ?_ Rζ;rw[R];change lZ__ (spliced! ((ν,oF (.Wm (.Ip "zip" m) [a,b] [] f) X.fN,)::pNb8 [])) __ s;show YL.spliced_cons^y0^CJI EC boot_zip!^WC.Rows.Wx (nb (eMfl s TH_ Ih) λusv J=>?_) Br;let(vs,H1,k,Y,A,z,xs,ys,ev,o,n,eG,u,q):=J;subst ev;let(HE,u2,ζ,e1,e2):=IYY;cases e1;cases e2;let(eF,g4):=UO (d:=.xJ A) ko;let(ab,py):=UO (d:=.xJ z) kn;show Uz.Dk (d1:=.xJ A) (d2:=.xJ z) g4 py λg M P Og1g2kW=>YL.spliced_nil ?_;let N:v⁻¹+5≤g.u_.fC:=oNM;show xa! (d1:=.xJ A) (d2:=.xJ z) (s:={v with ρ:=g}) (k.ok.hd w) (by constructor<;>show VZ (!6)) (k.Zo (t':=v.mU) kW) (λcw=>?_) M (.UR (M,7,O),P,g1,g2) eGuon λS s2tsjRUL=>(.ο g.u_.fC,S,jR,0,q g.u_.fC tsS U L.eR L.new L.Ki L.P' λi txyh1h2h3=>?_)
 .let j:v⁻¹≤c/\c<g.u_.fC:=by
   simp only[u3,i7,w7]at w;rcases w with ζ|rfl|rfl|rfl|rfl<;>show(by first|show Zn! __|show nZ_,pP (by first|show χ.lt_add_of_pos_right (!0)|show χ.add_lt_add_left (!0) _) N)
  show(k.fpOk j.1^k.rv.ax j.1,j.2)
 .obtain ⟨_,_,q1,q2,Z⟩:=L.eE i th1;rw[h2]at q1;rw[h3]at q2;cases q1;cases q2;show Z
def LG(nO:bv X UlHd)QDk QCx(m:fvs.β=f.β)(n:∀QAu(y:bE)(v:V),f[i]?<*y->fvs[i]?<*v->(∃j:χ,X.N[j]?=δy/\l[j]?<*δv)/\X.fN.g8.TW.ς y=δ .aQ/\sc.TW.ς y<*.VC):rGdb sc f fvs:=by
 show(λyzch1h2=>nO.WZ yzcQSVQSW,A7,λych=>nO.aQ ycQUw,m,λiyvh1h2=>?_);let((j,t,s),r,k):=niyvh1h2;let(a,e):=A7 (y,.VC,) (Δ.Vm k) ζ;let(c,u,q,p,o):=nO.val jyvt sr;let g:=hG__e;rw[q]at g;cases g;show(k,_,u,e,p,o)
def kQ!(b:∀y,a.ς y=ε)(f:∀y∈sc.TW,y.2≠.VC):rGha sc [] []:=by
 show(λyzch1_=>?_,λyde=>mWe^fyd,λyce=>?_,0,λiyvh1_=>by simp at h1)
 .rw [b]at h1;cases h1
 .rw [b]at e;cases e
def OV{P:nA}{w:o4}{K:qI}{mg:bE->ψη}{υ:n3}{st:cZ}{h ekVcR pm ct:η}(lk:K.ς f<*(h,i,.YN^q3xbA (p' st) (nR st) (hY st) ekVcR pm an (.ο c) ct,g))(b:t9K (.ο c) bA=π)(S:n9Nps^hY st)(eN:∀vsHQ E,d vsHQ E->vs.β=ps.β)(a:∀(A:o7)(b7:γ Env)(s:Θ)(H:m1)(vs:γ V)(Q:oE)(E:r3),q4k^A.jq^envOfC bA (hY st) s⁻¹ f^.ο c->d vsHQ E->
   ∃t,tR (aW (tPPw) PwK mg υ NbA (hY st) f (.ο c) Ab7sH E) (nR st) t/\t {pO:=λ_H'=>Q .vS H',CF:=Q} (ZRNvs) H):mTPwK mg υ (tPPw) (k+1) f (q3xbA (p' st) (nR st) (hY st) ekVcR pm an (.ο c) ct) psd:=V0 lk b SeNa
abbrev MJ QIA:Prop:=∀bo,(∀ps,o≠.tbl ps)->Hb<*o->H'b<*o
def MJ.of QBv:MJHH':=λbo_e=>sboe
def MJ.ξ(a:MJHd)(b:MJdH'):MJHH':=λxoce=>bxoc^axoce
def MJ.ofX(s:x8P0HH')(c:tZH P0hN):MJHH':=λboae=>sbo (λz=>by
 let(ps,d,_):=c;rw[z,d]at e;cases e;show a_ζ) e
def MJ.iT QRc:∀bxs,Hb<*.iT xs->H'b<*.iT xs:=λbxse=>sb_QACe
def MJ.P' QRc(e:Hb<*.P' xs):H'b<*.P' xs:=sb_QACe
abbrev J9 QAH QCw QCR:Prop:=Ha<*.iT xs\/Ha<*.P' xs
def J9.Ki(h:J9Haxs)QIT QIU:J9H'axs:=h.imp (t__)^l__
inductive rIxV!(x:V)(y:V)QAH QAR:Prop
 |mk QJR QCR (i:ω) (z:V) QJu QNO (_:J9Hpxs) (_:qZxsi<*z) (_:Qz H)
def QP:yPX rIxV!:=by
 intro a bc seHxyvuQ Igfhj;obtain⟨p,xs,i,z,m,l,d|d,k,q⟩:=h
 .exact YUabc seHxyvuQ Igf (p,xs,i,z,m,l,n'.of d,k,q) j
 .exact Bq! a bc seHxyvuQ Igf (p,xs,i,z,m,l,pG.of d,k,q) j
end _F
namespace _b
open _F
inductive C4 QAH(m:θ)QA6 QDu QAt:Prop
 |mk (fU mk:θ) QFh QIi QVb (_:J9H mk QGw) QOQ (_:∀QAuQCw,fW[i]?<*a->∃ws,W[i]?=δws/\Ha<*.iT QOc)
def C4.AP QPV QIT QIU:C4H'mL WB:=by
 let(d,mk,c,h1,h2,j,g,f):=h;show(d,mk,c,t__h1,t__h2,j.Ki tl,g,λiae=>?_);let(ws,n,k):=fiae;show(ws,n,t__k)
def tF.l:tFHmL WB->C4HmL WB:=λ⟨b,c,a,h1,h2,f,e,d⟩=>(b,c,a,h1,h2,.UR f,e,d)
def C4.Ki QPV QBv:C4H'mL WB:=h.AP (λbxse=>sb_e) λbxse=>sb_e
def C4.ofT QPV QRc:C4H'mL WB:=h.AP s.iT λbxse=>s.P' e
def Ou! QRc QNr:pGKH'axs:=by
 rcases h with(h|⟨o,h⟩)|h
 .exact .UR^.UR^s.P' h
 .exact .UR^.P2 (o,s__QACh)
 .exact .P2 h
inductive KH!(cWP0:θ)QIO QAJ QAH QAR QA5:Prop
 | mk (m:θ) (L:lU) (W:n0) (B:γb9) (_:vs=[.ο m]) (_:C4HmL WB) (_:oOL WB) (_:tZH P0hN) (_:∀(dYtbGybT:θ)(ks:n0)(vks:γ V)(ws:n0)(fW:γθ)(R:n0)(Bm:γb9)(H':m1),x8P0HH'->tZH'P0hN->GVH'cWdYLtbGybT->H't<*.P' vks->N3 .i H'ks vks->H'bG<*.P'^oIws->H'y<*.P'^fW.Tx V.ο->C0H'fWR->H'bT<*.P'^Bm.Tx V.dW->
  xS (UAW) L [0] ks ws ks.β 0->MM (UAW) L.β ksR->R.β=ks.β->Bm.β=R.β->(∀(r:χ)(k:lU)(b:b9),ks[r]?<*k->Bm[r]?<*b->b=mkW Bk)->(∀k∈ks,k∈B2W)->ks.β≤W.β->Q (.ο dY) H')
abbrev YS QPW QFi QIL:lU:=[pRW1 (k.TC 0 0) j,pRcE (k.TC 1 0) j]
abbrev HJ(n1n2:χ):n0:=(γ.b_ n1).flatMap λa=>(γ.b_ n2).Tx λb=>[a,b]
abbrev Ov! QHS QHa QFi:b9:=rule (eY.TC (k.TC 0 0) ν)^hV.TC (k.TC 1 0) ν
def Y_!(e:a<n1)(d:b<c):[a,b]∈HJn1c:=by
 unfold HJ;rw[mem_flatMap!];show(a,Ug.Ui e,WB.Ui (b,Ug.Ui d,0))
def oz!(h:k∈HJn1c):∃a b,k=[a,b]/\a<n1/\b<c:=by
 unfold HJ at h;let(a,e,h):=mem_flatMap.mp h;let(b,d,ζ):=WB.mp h;show(a,b,0,Ug.mp e,Ug.mp d)
def QS(n1a:χ):(HJn1a).β=n1*a:=by
 unfold HJ;rw[γ.length_flatMap];simp[γ.map_const',γ.sum_replicate_nat]
def Ow!(h1:n1≤8)(h2:a≤8):(HJn1a).β≤64:=by
 rw[QS];show χ.mul_le_mul h1h2
def QT(h1:oOLdj)(h2:oOLci):∀k∈HJ d.β c.β,∀q,q<L.β->YSdckq∈HJ d.β c.β:=λkfqe=>by
 let(a,b,ζ,h,g):=oz! f;show Y_! (BJh1he)^BJh2ge
def Ox!{L:lU}{ed:n0}:∀QMX(a b:χ),be (YSed) L [a,b] u=[n6Leau,n6Ldbu]
 |[],_,_=>rfl
 |c::u,a,b=>Ox! u (pReaQBW)^pRdbQBW
inductive TY QHS QAJ QAH QAR QA5:Prop
 |mk (a b:b9) (_:vs=[.dW a,.dW b]) (_:Q (.dW^rule a b) H)
structure QU QLB QBg QAw QAy QAH(gf7:θ)QHS:Prop where
 ex:∃(bA:bE)(BP:zR)(body:bI)(sc:qA)(cU:γQBH),Hg=δ^sSgbABP body sc cUf7/\Hf7=δ^ol f7bA/\
  (∀(base':n3)(pm ctv:η),base'.Ξ g<*kla_obj "<lambda>" bABP body sc cU pm f7 ctv->base'.Vt (.ο f7) bA->mTPwK mg base' ms 1 g (kla_fn "<lambda>" bABP body sc cU pm (.ο f7) ctv) ["one","two"]^TY rule)/\
  ∀pm ctv:η,p6K (kla_fn "<lambda>" bABP body sc cU pm (.ο f7) ctv) ["one","two"] []
end _b
namespace _F
open PySem.Spec PyProof.Rows
section
variable{X:n8}{elt qF:bI}{xy:bE}{g4 py pt b8:nV}{kt:χ}{sc:qA}{qJ:TI}{eJ:TE}
end
def Vi!(bs:γb9):(γ.b_ bs.β).I9 (λi=>bs.TC iν)=bs.I9 id:=by
 rw[b9.Mc,XI,XI];constructor
 .rintro⟨i,a,h⟩;let a:=Ug.mp a;rw[pu,mOa]at h;show(bs[i],vOa,h)
 .rintro⟨b,c,h⟩;let(i,a,ζ):=γ.mem_iff_getElem.mp c;show(i,Ug.Ui a,3);rw[pu,mOa];show h
def Bi!(E:X.TN=π):wNX (.Rm "any") (λxsHQ=>∃(a:θ)(bs:γb9),xs=[V.ο a]/\Ha=δ^.P' QQR/\Q (.dW^bs.I9 id) H):=by
 intro j sLHxsusQ Irh;let(a,bs,ζ,t,q):=h;let(M,ζ,C):=x5r;cases C;let(eE,g,p,hz):=I.oh^pG.of t;let m:s.ρ.IsList a eE.Λ:=p.Xt;let f:a<s⁻¹:=I.rv.lt t;let l:eE.Λ.fC=bs.β:=by
  let h2:=g.β;rw[j']at h2;simp;lia
 show call_any_walk! (T9m ?_);show(s⁻¹,7,7,_,λi=>bs.TC iν,0,Walks.oh (Ω:=X.Ω) (w:=X.w) (A:=X.A.in1) (I.ok.hd E) s⁻¹ a (p8f) eE.Λ,(QCO,m.at λoe=>nN_e),3,λh'zD=>?_)
 .intro iv s'J Nkd;let n:i<bs.β:=by rw[<-l];show(pV.Vq.mp k).1
  let(y,F,B):=g.get (i:=i) (x:=.dW bs[i]) (by rw[na,mOn];rfl);have:v=y:=by
   let c:eE.Λ[i]?<*v:=k;rw[γ.getElem?_toArray,F]at c;show(ψ.δ.WZ c).UH
  subst this;cases B;let e:bs.TC iν=bs[i]:=by rw[pu,mOn];rfl
  let d:J (bs.TC iν) s':=d;rw[e]at d;show LMd
 .rw [l,Vi!];show(.dW^bs.I9 id,H,I.Zo (t':=z) λbou=>Dbo (by simp;show p8^oNu)^nN_u,0,q)
abbrev b' QNV:lU:=(γ.b_ 8).Wo λk=>m.Vy k
abbrev t5(led:b9)(ks:lU):XE:=(if ks.β<5 then 7 else 31,ks.Λ,#[],(0),led,if ks.β<5 then 0 else 1,π)
abbrev MA(ks:lU)QGT:χ:=(ks.Wo (· < k)).β
abbrev sB(ks:lU)QGT:lU:=ks.Uj^MAksk++k::ks.Gd^MAksk
abbrev DS(t:XE)(ks:lU):XE:={t with BU:=ks.Λ}
abbrev sJ(led:b9)(m k:χ):b9:=
 letI ks:=b'm
 letI t:=t5 led ks
 letI ks':=sB ksk
 ks.Hr k||(decide (t.freeSlot (k:ω)<*(k,ν,))&&decide (t.put k=(DSt ks',MAksk,))&&(DSt ks').fits ks'.β &&
  (if (DSt ks').tooFull then decide ((DSt ks').relaid (ks'.Tx λ(n:χ)=>(n:ω)).Λ^XE.grown ks'.β<*(t5 led ks',(γ.b_ ks'.β).Λ,))&&coversAll! (γ.b_ ks'.β).Λ ks'.β&&(t5 led ks').fits ks'.β
   else decide (DSt ks'=t5 led ks'))&&decide (ks'=b' (m ||| 2^k)))
def Ur!(h:∀j,j<8->(γ.b_ 32).u7 (λm=>p (32*j+m))=π):(γ.b_ 256).u7 p=π:=by
 rw[T5];intro ma;let a:=Ug.mp a;have:=T5.mp (h (m/32) (!6)) (m%32)^Ug.Ui^χ.mod_lt _ (!0)
 rwa [χ.div_add_mod]at this
def QV:(γ.b_ 256).u7 (λm=>(γ.b_ 8).u7 λk=>sJπmk&&sJ νmk)=π:=Ur! fun
 |0,_=>by decide +kernel
 |1,_=>by decide +kernel
 |2,_=>by decide +kernel
 |3,_=>by decide +kernel
 |4,_=>by decide +kernel
 |5,_=>by decide +kernel
 |6,_=>by decide +kernel
 |7,_=>by decide +kernel
 |n+8,h=>mWh Gy!
abbrev Oy!(m k:χ):b9:=(!(b'm).Hr k||decide (m ||| 2^k=m))&&decide (m ||| 2^k<256)&&decide ((b'm).β≤8)&&(b'm).u7 (· < 8)
set_option maxRecDepth 100000 in
def QW:(γ.b_ 256).u7 (λm=>(γ.b_ 8).u7 λk=>Oy! m k)=π:=by decide +kernel
def JN(b:m<256)(c:k<8):(k∈b'm->m ||| 2^k=m)/\m ||| 2^k<256/\(b'm).β≤8/\∀x∈b'm,x<8:=by
 let h:=T5.mp (T5.mp QW m^Ug.Ui b) k^Ug.Ui c;simp only[Oy!,xI,IP,PA,A4]at h;let((QM8,e),d):=h;show(λz=>h1.Q5 (λy=>?_) id,h2,e,λxa=>VG^T5.mp d xa);rw[Xn.Ui z]at y;cases y
def QY(a:b9)(e:m<256)(f:k<8)(d:k∉b'm):(t5aQAZ).freeSlot (k:ω)=δ (k,ν,)/\(t5aQAZ).put k=(DS (t5aQAZ) QDS,MAQAZk,)/\(DS (t5aQAZ) QDS).fits (sB QAZk).β=π/\sB QAZk=b' (m ||| 2^k)/\
  (if (DS (t5a^b'm)^sB (b'm) k).tooFull=π then(DS (t5a^b'm)^sB (b'm) k).relaid ((sB (b'm) k).Tx λ(n:χ)=>(n:ω)).Λ^XE.grown (sB (b'm) k).β=δ (t5a^sB (b'm) k,(γ.b_ (sB (b'm) k).β).Λ,)/\coversAll! (γ.b_ (sB (b'm) k).β).Λ (sB (b'm) k).β=π/\(t5a^sB (b'm) k).fits (sB (b'm) k).β=π
   else DS (t5a^b'm)^sB (b'm) k=t5a^sB (b'm) k):=by
 let h:=T5.mp (T5.mp QV m^Ug.Ui e) k^Ug.Ui f;let h:sJamk=π:=by
  rw[xI]at h;cases a
  .exact h.2
  .exact h.1
 unfold sJ at h;try dsimp only at h
 rw[IP]at h;rcases h with h|h
 .exact mW (Xn.mp h) d
 .simp only[xI,A4]at h;let(((QM8,i),b),g):=h;show(h1,h2,i,g,3);split at b
  .rename_i c;rw[mGc];simpa[and_assoc!]using b
  .rename_i c;rw[mFc];simpa using b
abbrev oS(ks:lU)(ts:γ Tok):γ (ω×η):=γ.zipWith (λ(k:χ)t=>((k:ω),η.tV (k:ω) t,)) ksts
def zA(h:ts.β=ks.β):(oSksts).β=ks.β:=by simp[oS,h]
def ny!:∀{ks:lU}QNa,ts.β=ks.β->(oSksts).Tx Prod.fst=ks.Tx λ(n:χ)=>(n:ω)
 |[],[],_=>rfl
 |k::ks,t::ts,h=>by
  have:=ny! (ks:=ks) (ts:=ts) QFw;change (k:ω)::(oSksts).Tx Prod.fst=_;rw[this];rfl
def v_!{ks:lU}(h:ts.β=ks.β):oS (ks.Uj p++k::ks.Gd p) (ts.Uj p++t::ts.Gd p)=(oSksts).Uj p++QGd::(oSksts).Gd p:=by
 unfold oS;rw[γ.zipWith_append^by simp[h],γ.zipWith_cons_cons,γ.take_zipWith,γ.drop_zipWith]
def Mp! QVP(p:χ)(x:a):XE.insertAt l.Λ px=(l.Uj p++x::l.Gd p).Λ:=by
 unfold XE.insertAt;simp only[γ.extract_toArray,γ.push_toArray,γ.append_toArray];congr 1;simp[vJ]
def jh! QGo QVP:∀n,(γ.b_ n).filterMap (λi=>l[i]?)=l.Uj n
 |0=>rfl
 |n+1=>by
  rw[γ.range_succ,γ.filterMap_append,jh! ln,FW];cases q:l[n]?<;>simp[q]
def fp! QGo QVP:(γ.b_ l.β).Λ.filterMap (λi=>l.Λ[i]?)=l.Λ:=by
 rw[γ.filterMap_toArray];congr 1;let h:=jh! l l.β;rw[XF]at h;simpa using h
abbrev TO QBg:b9:=!w.BP.lx "set-order"
abbrev B' QBg QJx QCw QNV:Prop:=∃(o:pZ)(ts:γ Tok)(eP:χ),h.Ξ a=δo/\o.ExactSet/\ts.β=(b'm).β/\o.mY=.X6 (oSQAZts).Λ ePQCF
abbrev Y'(led:b9)(mi:χ):b9:=
 letI ks:=b'm
 !(decide (i≤ks.β))||decide (XE.below ks.Λ (if i=0 then 0 else ks.TC (i-1) 0+1)=i)&&(t5 led ks).fits ks.β
def mz!:(γ.b_ 256).u7 (λm=>(γ.b_ 9).u7 λi=>Y'πmi&&Y' νmi)=π:=Ur! fun
 |0,_=>by decide +kernel
 |1,_=>by decide +kernel
 |2,_=>by decide +kernel
 |3,_=>by decide +kernel
 |4,_=>by decide +kernel
 |5,_=>by decide +kernel
 |6,_=>by decide +kernel
 |7,_=>by decide +kernel
 |n+8,h=>mWh Gy!
def R'(a:b9)(b:m<256)(c:i≤(b'm).β):XE.below (b'm).Λ (if i=0 then 0 else(b'm).TC (i-1) 0+1)=i/\(t5aQAZ).fits (b'm).β=π:=by
 let d:=(JN (k:=0) b (!0)).2.2.1;let h:=T5.mp (T5.mp mz! m^Ug.Ui b) i^Ug.Ui (!6);let h:Y'ami=π:=by
  rw[xI]at h;cases a
  .exact h.2
  .exact h.1
 unfold Y' at h;try dsimp only at h
 rw[uOc]at h;simpa using h
section
variable{P:nA}{w:o4}{A:o7}{E:η->Θ->Prop}{s:Θ}{a:θ}{m k:χ}
def gL!(h:k<8):(w8Pw).hash (k:ω)=(k:ω):=by
 rcases k with _|_|_|_|_|_|_|_|k;any_goals rfl
 lia
def EQ!:∀{ks:lU}QNa{e:ω×η},e∈oSksts->∃k∈ks,∃t,e=QGd
 |[],_,e,h=>by simp[oS]at h
 |_::_,[],e,h=>by simp[oS]at h
 |k::ks,t::ts,e,h=>by
  rcases u3.mp (show e∈QGd::oSksts from h)with ζ|h
  .exact (k,!1,t,0)
  .obtain ⟨k',b,t',e'⟩:=EQ! h;show(k',by simp[b],t',e')
def xX!(h:∀x∈ks,x<8):ElemsOf! QCM^oSksts:=λec=>by
 let(k,b,t,ζ):=EQ! c;show(((k:ω),intKind_is! ____,(gL!^hkb).UH),0)
def rB!:∀{ks:lU}QNa,ts.β=ks.β->((oSksts).findIdx? QEw).BC=decide (k∈ks)
 |[],_,_=>by simp[oS]
 |k'::ks,t::ts,h=>by
  let b:=rB! (ks:=ks) (ts:=ts) QFw;let e:(w8Pw).is (k:ω) QUx=decide (k'=k):=by
   change η.isInt (k:ω) QUx=_;by_cases c:k'=k
   .subst c;simp[η.isInt]
   .rw [pIc];simp[η.isInt,show ¬ (k':ω)=(k:ω)from λz=>cQMH]
  rw[show oS (k'::ks) (t::ts)=((k':ω),η.tV (k':ω) t,)::oSksts from ζ,γ.findIdx?_cons];dsimp only;rw[e];by_cases c:k'=k
  .subst c;simp
  .rw [mFQJF,ψ.isSome_map,b];simp[show ¬ k=k' from λz=>c z.UH]
def Mq!(S:m<256)(M:k<8)(hS:B'w s.ρ a m)(h:∀bh',zNa s.ρ h'->B'wh'a (m ||| 2^k)->Qb {s with ρ:=h'}):lZQBEA (setAddHashed! aQNbQPm) Q E s:=by
 let(o,ts,eP,C,R,D,H):=hS;let(s1,s2,s3,s4):=JNS M;let hz:(oSQAZts).Λ.fC=(b'm).β:=by rw[q9,zAD]
 let hf:(t5QLJQAZ).fits (oSQAZts).Λ.fC=π:=by rw[hz];show(R'_ SQDx).2
 let F:ElemsOf! QCM (oSQAZts).Λ.Zh:=xX! s4;let hs:(oSQAZts).Λ.fC<scanBound!:=by rw[hz];show VMs3 (!0)
 unfold setAddHashed! setAddHashedIn!;show tO^lT (XOCH hf ?_);dsimp only;rw[byScan_of! (knd:=w8Pw) (x:=.tV (k:ω) t) ζhsF,mGζ];unfold setAddByScan!;show lT^lT^Z7^lT (wpAny_setScan_of! (knd:=w8Pw) QIECH hf F ?_);let g:=rB! (P:=P) (w:=w) (k:=k) D;by_cases i:k∈b'm
 .rw [uOi]at g;let(j,U):=ψ.isSome_iff_exists.mp g;rw[show γ.findIdx? _ (oSQAZts).Λ.Zh<*j from U];dsimp only;show mRQBp;have:=hν s.ρ (zN.Kx a s.ρ) (by rw[s1i];show(o,ts,eP,C,R,D,H));show this
 .rw [pIi]at g;let U:γ.findIdx? QEwQTt=ε:=by
   cases q:γ.findIdx? QEwQTt with
   |ε=>rfl
   |δ j=>rw[q]at g;cases g
  rw[show γ.findIdx? _ (oSQAZts).Λ.Zh=ε from U];dsimp only;let(c1,c2,X,c4,J):=QY QLJS Mi;let f:(ts.Uj QOC++t::ts.Gd QOC).β=(sB QAZk).β:=by simp[sB,D]
  let Gs:layNew! QCF (oSQAZts).Λ QPmQNb=((oSQDSQBs).Λ,DSQCFQDS,ν,ν,):=by
   unfold layNew!;rw[gL! M,c1];dsimp only;rw[c2];dsimp only;rw[Mp!,<-v_! D];let N:(oS ((b'm).Uj QOC++k::(b'm).Gd QOC) QBs).Λ.fC=(sB QAZk).β:=by rw[q9];show zAf
   rw[N,XE.orStandIn,mGX,X];rfl
  rw[Gs];dsimp only;let B:(DSQCFQDS).plain=π:=ζ;let l:=ny! f;let d:=zAf;generalize hT:DSQCFQDS=T at B c2 X J⊢;let p:∀QM3(v:pZ)QRB(iG:XE),zNa s.ρ h'->h'.Ξ a<*v->v.ExactSet->v.mY=.X6 (oSQDSQBs).Λ riG->iG=t5QLJQDS->Qπ {s with ρ:=h'}:=by
   rintro h' v r iG I W g3 AE ζ;rw[c4]at AE f;show hπh'I (v,_,r,W,g3,f,AE)
  generalize oS QDS QBs=c at l d p⊢;let y:c.Λ.fC≤Φ:=by
   rw[q9,d,c4,w9];have:=(JNs2M).2.2.1;show VU this
  let u:∀(h1:n3)(L:pZ)(N:pV (ω×η))(n1:χ)(t1O:XE),h1.Ξ a<*L->L.mY=.X6 Nn1t1->(h1.ei aQTu).Ξ a<*{L with mY:=.X6 c.Λ (n1+1) O}:=by
   intro h1L Nn1t1Oz1Y;let z:=xFQTuz1 (by rw[putSet_of! __ Y];rfl);rw[putSet_of! __ Y]at z;show z
  show lTQBp;rw[mGB,hashByValue_scannable! 8 (x:=.tV (k:ω) t) ζ];show lTQBp;rw[show plainKind! QNb=π from ζ];simp only[if_true!,b9.not_false,b9.true_and];show lT (wpAny_storeSet_of! CH ?_ y);let I:=u_____ TCH;let Z:=zN.ei s.ρ a^pZ.putSet c.Λ T;by_cases ct:T.tooFull=π
  .rw [mG ct]at J⊢;let(d1,d2,d3):=J;let hR:relayAll! T c.Λ^XE.grown c.Λ.fC=(c.Λ,t5QLJQDS,ν,):=by
    unfold relayAll!;rw[show c.Λ.Tx QBA=((sB QAZk).Tx λ(n:χ)=>(n:ω)).Λ by rw[γ.map_toArray,<-l],q9,d,d1];dsimp only;rw[<-d,fp!,q9,d,d2,d3];rfl
   rw[hR];show lT^mR^lT (wpAny_storeSet_of! Iζ ?_ y);let W:=u_____ (t5QLJQDS) Iζ;show mR^mR^p____ (Z.ξ^zN.ei _a_) W Rζζ
  .rw [mF ct]at J⊢;show mR^mR^p____ Z I Rζ J
def YP{ns:lU}(h:i<ns.β):ns.TC i 0=ns[i]:=by rw[pu,mOh];rfl
abbrev A' QVk:χ:=ns.foldl (λm k=>m ||| 2^k) 0
def hi! QVk QGT:A' (ns++[k])=A'ns ||| 2^k:=by simp[A',foldl_append!]
def Y0(h:∀x∈ns,x<8):A'ns<256:=by
 have:∀QVkQNV,(∀x∈ns,x<8)->m<256->ns.foldl (λm k=>m ||| 2^k) m<256:=by
  intro ns;induction ns with
  |nS=>show λm_b=>b
  |nF k r d=>show λmcb=>d_ (λx e=>cx^by simp[e]) (JNb^ck (!1)).2.1
 show this ns 0 h (!0)
def B'.AP(x:B'wham)(e:∀o,h.Ξ a<*o->h'.Ξ a<*o):B'wh'am:=by
 let(o,ts,c,b,r):=x;show(o,ts,c,eob,r)
def QZ{St:χ->n3->Prop}(W:Walks! Pw A.in1 I ZCn Pv! St)(l:S∉Z)(Q:ns.β=n)(H:∀x∈ns,x<8)(O:∀iv,Pv! iv->∃t,v=.tV ((ns.TC i 0:χ):ω) t):∀(ji:χ)QCD,n-i=j->i≤n->St i s.ρ->B'w s.ρ S^A'^ns.Uj i->
   (∀QM3(f:χ),(∀bo,b∉S::C->s.ρ.Ξ b<*o->h'.Ξ b<*o)->B'wh'S^A'ns->R (.ok^.ret .ε) {s with ρ:=h',mU:=f})->wIQBEA (.Rm "set.update.loop" ([.ο S,.ο I],[])) R s:=by
 let hw:S∉C:=λz=>l^W.hG _z;intro j;induction j with
 |qW=>
  intro i s UX st xq;cases(show i=n by lia);show BR WC.Rows.F.entry_set_update_loop ?_;rw[o7.Xg WC.Rows.F.plain_set_update_loop _];change lZ_ A.in1 (BWQGP>>=_) __ s;show lT (W.done s__ st λh'fg=>?_);rw[<-Q,XF]at x;show mR (qh'f (λbode=>gbo (λz=>d^by simp[z]) e)^x.AP λoe=>g So hw e)
 |qV j M=>
  intro i s UX st xq;let h:i<n:=by lia
  show BR WC.Rows.F.entry_set_update_loop ?_;rw[o7.Xg WC.Rows.F.plain_set_update_loop _];change lZ_ A.in1 (BWQGP>>=_) __ s;show lT (W.item i s__h st λvh'fcNrg=>?_);let(t,ζ):=OivcN;let c:i<ns.β:=EAhQ
  let T:ns.TC i 0<8:=by rw[YPc];show H_^vOc
  let L:=x.AP (h':=h') λoe=>g So hw e;change lZ_ A.in1 (holding! [η.tV ((ns.TC i 0:χ):ω) t] (setAdd! S^.tV ((ns.TC i 0:χ):ω) t)>>=_) ___;show lT (tO ?_);unfold setAdd!;show tO^lT ((w8Pw).pyHash (k:=((ns.TC i 0:χ):ω)) QIE ?_);show Mq! (Y0 λy N=>Hy^WYN) T (s:={s with ρ:=h',mU:=f+1}) L λbh2DB=>?_;rw[<-hi!,YPc,γ.take_append_getElem c]at B;show mR (X9 WC.Rows.F.plain_set_update_loop _,M (i+1) _ (fX! U) h (W.fm ___r λb d oe=>?_) B λYpu J=>?_)
  .exact (D.2 b^λz=>l (z▸d)).ξ e
  .refine q Yp (λbode=>ubod ?_) J;show(D.2 b^λz=>d^by simp[z]).ξ^gbo (λz=>d^by simp[z]) e
def Mr! QVK(q:Q1 QAY {s with ρ:=s.ρ.Uu {dM:=.TB "set",wF:=ε,mY:=.X6 #[] 0 QBf} }):wIQBEA (.wG (.Rm "set.__new__") ([.TB "set",u],[])) (wants! Q1 E) s:=by
 show codeAny_of_tree! (show lZ_ A.in1 (do checkBuiltinCall! "set.__new__" ([.TB "set",u],[]);again (.Rm "set.__new__" ([.TB "set",u],[]))) __ s from ?_);show lT^uZ (Δ.F.newCall_set_1 u)^mR (X9 Δ.F.plain_set_new _,BR Δ.F.entry_set_new ?_);rw[o7.Xg Δ.F.plain_set_new _];unfold Builtin.«set.__new__» Builtin.Frozenset.newClass;let z:=sub_set_self!;let(b5,g,d,b,os):=s;dsimp only
 wp_walk
 show Z9QBp;dsimp only;simp only[newObj!];show lT^wpAny_alloc!^mR^mRq
def Q9(b:h.Ξ a<*{dM:=.TB "set",wF:=ε,mY:=.X6 #[] 0 QBf}):B'wha 0:=(_,[],(0),b,(5,0),5)
def Q_!{eE:γη}(Z:A.T6=ε)(y:s.ρ.IsList l eE.Λ)(Y:ns.β=eE.β)(h8:∀x∈ns,x<8)(X:∀QAu(v:η),eE[i]?<*v->∃t,v=.tV ((ns.TC i 0:χ):ω) t)(q:∀QM3(f:χ),B'wh' s⁻¹^A'ns->QBY->Q QAY {s with ρ:=h',mU:=f}):lZQBEA (wG (.TB "set") [.ο l]) Q E s:=by
 let(c,fS,U):=called_set.mro;let H:=called_set.made;let hG:=called_set.hG;show zO (codeAny_of_tree!^show lZ__ (callAny! (.TB "set") _) ___ from ?_);show mR (Code.quiet_builtin _ (!3),BR Δ.F.entry_type_call ?_);rw[o7.under_plain (weight_type_call_type! "set" [.ο l] []) ζ];let k1:=called_set.notType;let k2:=called_set.canCreate;let k3:=Δ.F.typeCall_set_1 QGv;repeat (any_goals (first|assumption|wp_step))
 show BS (Mr! QGv (E:=E) (Q1:=λDC=>D=.ο s⁻¹/\C={s with ρ:=s.ρ.Uu {dM:=.TB "set",wF:=ε,mY:=.X6 #[] 0 QBf} }) (0,0)) λrCp=>?_;cases r with
 |G2 e=>show p
 |ok j6=>
  cases j6 with
  |ret D=>
   let(rfl,ζ):=p;let L:(s.ρ.Uu {dM:=.TB "set",wF:=ε,mY:=.X6 #[] 0 QBf}).Ξ s⁻¹<*{dM:=.TB "set",wF:=ε,mY:=.X6 #[] 0 QBf}:=t8_ζ;let tS:Θ.Yf {s with ρ:=s.ρ.Uu {dM:=.TB "set",wF:=ε,mY:=.X6 #[] 0 QBf} } QAY "set":=(_,L,0);let k4:=called_set.init.ς;let k5:=called_set.init.bind QAY;repeat (any_goals (first|assumption|wp_step))
   show BS (N' (R:=wants! (λr s2=>r=.ε/\∃h'f,s2={s with ρ:=h',mU:=f}/\B'wh' s⁻¹^A'ns/\∀bo,s.ρ.Ξ b<*o->h'.Ξ b<*o) E) called_set.init.plain Δ.F.entry_set_init (check_set_init_1! tS ?_)) λM s2d=>?_
   .let hlS!:l<s⁻¹:=(by let(_,z,_):=y;show oNz);let g:=y.Uu {dM:=.TB "set",wF:=ε,mY:=.X6 #[] 0 QBf};let(N,u,j,S,h):=y;let(uF,O,oD!,os):=N;simp only at j h;subst j;subst h;let I:(s.ρ.Uu {dM:=.TB "set",wF:=ε,mY:=.X6 #[] 0 QBf}).Ξ l<*{dM:=.TB "list",wF:=O,mY:=.Yv eE.Λ S,slots:=os}:=nN_u;let k6:=Δ.F.sub_list_set;let Ay!:=Δ.F.sub_list_frozenset;let gw!:(η.TB "list"==η.TB "dict")=ν:=by decide
    unfold Builtin.«set.__init__» noKeywords! Builtin.Frozenset.updateFrom;generalize B:pyIter=vZ
    wp_walk
    subst B;show T9g^lT (wpAny_runValue! ?_);let W:A.in1.in1.in1.T6=ε:=by simp[Z]
    let n1:l≠(s.ρ.Uu {dM:=.TB "set",wF:=ε,mY:=.X6 #[] 0 QBf}).u_.fC:=by rw[yW];show p8^ZA hlS!
    let T:s⁻¹∉[(s.ρ.Uu {dM:=.TB "set",wF:=ε,mY:=.X6 #[] 0 QBf}).u_.fC,l]:=by
     rw[yW];simp only[u3,i7,w7,not_or!];show(p8^A6_,IT hlS!)
    show QZ (Walks.oh W_ln1 eE.Λ) T (by rw[Y,q9]) h8 (λivz=>XivQTv) _ 0 _ζQDx (QCO,g.Uu _) (Q9^nN_L) λh'fnx=>?_;show mR^mR (0,h',f,0,x,λboe=>n bo ?_^nN_QJO);let J:=oNe;simp only[u3,i7,w7,not_or!];show(p8J,3);rw[yW];show p8^ZAJ
   .cases M with
    |G2 e=>show d
    |ok f2=>
     cases f2 with
     |ret r=>
      let(rfl,h',f,ζ,x,n):=d;repeat (any_goals (first|assumption|wp_step))
      show q__xn
     |_=>show d.Q5
  |_=>show p.Q5
end
def b_Q!:Slot "set_iterator" "__next__" "set_iterator.__next__":=.of (owner!:="set_iterator") (n:="__next__") (by rw[W4,I2];kernel_rfl) (!3) (!3) (!3) (by first|show .UR (!3)|show .P2 (!3)) (by rw[XG];kernel_rfl)
def Oz!:Slot "set_iterator" "__iter__" "set_iterator.__iter__":=.of (owner!:="set_iterator") (n:="__iter__") (by rw[W4,I2];kernel_rfl) (!3) (!3) (!3) (by first|show .UR (!3)|show .P2 (!3)) (by rw[XG];kernel_rfl)
def fv!:entryFor! table! "set_iterator.__next__"<*Builtin.«set_iterator.__next__»:=entryFor_of_fast! QBJ
def Ih!:entryFor! table! "set_iterator.__iter__"<*Builtin.«dict_keyiterator.__iter__»:=entryFor_alias! (id'!:="dict_keyiterator.__iter__") QBJζ (!3) QBJ
def Zi!:entryFor! table! "set.__iter__"<*Builtin.«frozenset.__iter__»:=entryFor_alias! (id'!:="frozenset.__iter__") QBJζ (!3) QBJ
def OB!(a:η):argsOk "set_iterator.__next__" QLh:=by unfold argsOk;kernel_rfl
def lc!(a:η):argsOk "set_iterator.__iter__" QLh:=by unfold argsOk;kernel_rfl
def JL! QGo:∀QL0 QEg(h:i<l.β),(l[i]::l.eraseIdx i).Perm l
 |x::l,0,_=>.Kx _
 |x::l,i+1,h=>by
  let h':i<l.β:=by simpa using h
  change (l[i]::x::l.eraseIdx i).Perm (x::l);show(Perm.swap ___).ξ^(JL! h').nF x
def v6{b:Type}(next:χ->χ):∀(nk:χ)(l:γb)(gT:pVb),l.β=n->(pickOrder.go next n k l gT).Zh.Perm (gT.Zh++l)
 |0,k,l,gT,h=>by
  cases Wc.mp h;rw[vP];show .Kx _
 |n+1,k,l,gT,h=>by
  let a:next k%l.β<l.β:=χ.mod_lt _ (!6);change γ.Perm (pV.Zh^match l[next k%l.β]? with|δ x=>pickOrder.go next n (k+1) (l.eraseIdx (next k%l.β)) (gT.Uu x)|ε=>gT) _;rw[mOa];show(v6 next n (k+1) _ _ (by rw[γ.length_eraseIdx_of_lt a];lia)).ξ ?_;rw[pV.toList_push,u4];show Perm.append_left _ ?_;show JL! a
def sQ!(next:χ->χ)QVP:(pickOrder! next l.Λ).Zh.Perm l:=by
 unfold pickOrder!;have:=v6 next l.Λ.fC 0 l.Λ.Zh #[] ζ;simpa using this
abbrev J0 QBg QCw QNV(ts:γ Tok)(eP:χ):γη:=
 if w.BP.lx "set-order"=π then(pickOrder! QDb (oSQAZts).Λ).Zh.Tx QBu else(oSQAZts).Tx QBu
def f_P!:(J0wamtsb).Perm^(oSQAZts).Tx QBu:=by
 unfold J0;split
 .exact (sQ! __).Tx _
 .exact .Kx _
abbrev zT QBg(mi:χ):χ:=if w.BP.lx "set-order"=π then 0 else if i=0 then 0 else(b'm).TC (i-1) 0+1
section
variable{P:nA}{w:o4}{A:o7}{E:η->Θ->Prop}{s:Θ}{a I:θ}{mieP:χ}{M4:pZ}{ts:γ Tok}
def Ao!(n:m<256)QTw(l:s.ρ.Ξ a<*M4)(p:M4.mY=.X6 (oSQAZts).Λ ePQCF)(q:i≤(b'm).β)(h1:∀v,QVl[i]?<*v->Q (δ (v,zTwm (i+1),)) s)(h2:i=(b'm).β->Qε s):lZQBEA (setNext! aQUyieP) Q E s:=by
 let hz:(oSQAZts).Λ.fC=(b'm).β:=by rw[q9,zAf]
 let o:(t5QLJQAZ).fits (oSQAZts).Λ.fC=π:=by rw[hz];show(R'_nQDx).2
 let h:(J0wamtseP).β=(b'm).β:=by rw[f_P.length_eq,j',zAf]
 unfold setNext!;show lT (XOlpo ?_);dsimp only;unfold setsByText!;show lT^lT^Z9QBp;dsimp only;by_cases c:w.BP.lx "set-order"=π
 .rw [show(oPPw).w.BP.lx "set-order"=π from c,mGζ];rw[mF (!1)];let k:zTwmi=0:=by unfold zT;rw[mGc]
  let j:zTwm (i+1)=0:=by unfold zT;rw[mGc]
  rw[k];unfold setWalk!;show lT^lT (XOlpo ?_);dsimp only;unfold setsByText!;show lT^lT^Z9QBp;dsimp only;rw[show(oPPw).w.BP.lx "set-order"=π from c,mGζ];show lT^Z9QH2;let e:J0wamtseP=(pickOrder! QDb (oSQAZts).Λ).Zh.Tx QBu:=mGc;rw[j,e]at h1;rw[e,j']at h;by_cases b:i<(b'm).β
  .let hlt'!:i<(pickOrder! QDb (oSQAZts).Λ).Zh.β:=EAbh
   let g:=h1_ (by rw[na,mO hlt'!];rfl);change Q QG2s;rw[<-X0,mO hlt'!];show g
  .change Q QG2s;rw[<-X0,I6^XD! hb];show h2^D7bq
 .let jE:w.BP.lx "set-order"=ν:=by simpa using c
  rw[show(oPPw).w.BP.lx "set-order"=ν from jE];rw[mF b9.UF];show YYQOE λ_=>?_;let d:TOw=π:=by unfold TO;rw[jE];rfl
  show lT (show lZ__ (if (! QLJ&&!(oSQAZts).Λ.Yj)=π then _ else _) ___ from ?_);rw[d];show YYQOE λ_=>mR ?_;let k:zTwmi=if i=0 then 0 else(b'm).TC (i-1) 0+1:=by unfold zT;rw[mFc]
  let j:zTwm (i+1)=(b'm).TC i 0+1:=by unfold zT;rw[mFc,mF (!6)];rfl
  let r:XE.below (t5πQAZ).BU QUy=i:=by rw[k];show(R'πnq).1
  let e:J0wamtseP=(oSQAZts).Tx QBu:=mFc;rw[j,e]at h1;show mR ?_;rw[r];by_cases b:i<(b'm).β
  .let hlt'!:i<(oSQAZts).β:=by rw[zAf];show b
   let g:=h1_ (by rw[na,mO hlt'!];rfl);rw[show(oSQAZts).Λ[i]?<*QTt[i] by simp[hlt'!],show(t5πQAZ).BU[i]?<*QAZ[i] by simp[t5,b]];rw[YPb]at g;show g
  .rw [show(oSQAZts).Λ[i]?=ε by simp[zAf];show MIb];show h2^D7bq
abbrev Ff! QBg QJx(Ia:θ)(mieP:χ):Prop:=∃o,h.Ξ I=δo/\o.dM=.TB "set_iterator"/\o.mY=.xq #[oVQUy,oVi,.ο a,oV (b'm).β,oVeP]
def Ff.TB(x:Ff! w s.ρ IamieP):s.Yf QGP "set_iterator":=by let(o,b,c,_):=x;show (o,b,c)
def Q'(J:A.T6=ε)(p:m<256)(j:ts.β=(b'm).β)(t:M4.mY=.X6 (oSQAZts).Λ ePQCF)(u:a≠I):Walks! Pw A I [I,a] [I] (b'm).β QJ5 (λih=>Ff! wh IamieP/\h.Ξ a<*M4) where
 hG:=λbl=>by simp at l;simp[l]
 fm!:=λihh' st k=>by
  let((o,f,r),g):=st;show((o,k I (!1) of,r),ka (!1) _g)
 item:=λi sQ ED st q=>by
  let(x,g):=st;let d:=x.TB;let(o,f,F,c):=x;let y:(t5QLJQAZ).fits (oSQAZts).Λ.fC=π:=by rw[q9,zAj];show(R'_pQDx).2
  unfold BW;show lT^X8^LJ (cJ:=bE.WK "__next__") d b_Q! QOu;show lTQJY;change lZ__QTx__ s;unfold setEntries!;show lTQSX;rw[q9,zAj];show YYQVm λ_=>?_;show lT (Ao! (i:=i) pjgt (XsD) (λvn=>?_) λz=>mWz^p8D);change lZ__ (setField! QGP 0 (oV^zTwm (i+1))>>=_) __ s;let H:=xF (WSQEx) f^P4^BOc_;let d1:=BOcQEx;show lT^LNfc (!1)^lT (LNHd1 (!1) ?_);let L:=xF (WSQGQ) H^P4^BOd1_;let d2:=BOd1QGQ;let B:=(zN.ei s.ρ I^WSQEx).ξ^zN.ei _ I^WSQGQ;show mR (2,mR^qv_ s.mU n ((_,L,3,3),(B.2 au).ξ g) λbCle=>(B.2 b^λz=>l^by simp[z]).ξ e)
  .rw [pZ.cls_mapFields,pZ.cls_mapFields];show F
  .rw [d2];simp[oV]
 done:=λsQ E st q=>by
  let(x,g):=st;let d:=x.TB;let(o,f,F,c):=x;let y:(t5QLJQAZ).fits (oSQAZts).Λ.fC=π:=by rw[q9,zAj];show(R'_pQDx).2
  unfold BW;show lT^X8^LJ (cJ:=bE.WK "__next__") d b_Q! QOu;show lTQJY;change lZ__QTx__ s;unfold setEntries!;show lTQSX;rw[q9,zAj];show YYQVm λ_=>?_;show lT (Ao! (i:=(b'm).β) pjgtQBF (λvn=>?_) λ_=>?_)
  .rw [I6^by rw[f_P.length_eq,j',zAj];show nZ_]at n;cases n
  .change lZ__ (setField! QGP 2 .ε>>=_) __ s;show lT^LNfc (!1) QDr;simp only[newExc!,newTuple!];show lTQHK;show lT (m:=firstArgMember! __)^uZ (a:=η.ε) (by first|rfl|(simp only[firstArgMember!];rfl)) QHK;unfold raiseNew!;show lTQFy;rw[show A.in1.T6=ε from J];show lT^mRQLK;show lT (TA (T:="StopIteration") (b:=π) QFB isSubtype_stop!^mR^q_ s.mU λbCle=>?_);show((zN.ei s.ρ I (WS (·.Um 2 .ε))).Zt.Uu _).Uu _bC (λz=>l^by simp[z]) e
 self:=λi sQ E st q=>by
  let d:=st.1.TB;show wpAny_pyIter_slot! d Oz!^DI Oz! d Ih! (show lZ__ (ret QGP) __ s from ?_)^lc! _;show mR (2,"set_iterator",_,d,b_Q.ς,q)
def Ra!(j:m<256)QTw(b:s.ρ.Ξ a<*M4)(h:M4.ExactSet)(d:M4.mY=.X6 (oSQAZts).Λ ePQCF)(q:Q QAY {s with ρ:=s.ρ.Uu {dM:=.TB "set_iterator",mY:=.xq #[oV^zTwm 0,oV (0:χ),.ο a,oV (b'm).β,oVeP]} }):lZQBEAQKxQ E s:=by
 let g:s.Yf QAe "set":=(M4,b,h.1);let c:(t5QLJQAZ).fits (oSQAZts).Λ.fC=π:=by rw[q9,zAf];show(R'_jQDx).2
 show wpAny_pyIter_slot! g Δ.F.slot_set_iter (DI Δ.F.slot_set_iter g Zi! ?_^Δ.F.args_set_iter_1 _);unfold Builtin.«frozenset.__iter__»;show lT (show lZ__ (pure a) __ s from mR ?_);unfold Builtin.Frozenset.sizeOf setEntries!;show lT^lT^lT^XObdcQH2;unfold setDrawn!;show lT^lT (XObdc ?_);unfold setsByText!;show lT^lT^Z9QH2;let e:(!(oPPw).w.BP.lx "set-order"&&ν)=ν:=by simp
 show YY (λz=>mW (e.UH.ξ z) b9.UF) λ_=>lTQBp;unfold setEpoch!;show lT^lT^XObdcQBp;show lT^I3^mR (2,"set_iterator",_,QFB,b_Q.ς,3);let k:(zTwm 0:ω)=0:=by unfold zT;split<;>rfl
 rw[k]at q;simpa[oV,zAf]using q
def Rb!(d:s.Yf QAe "set")(h:Qν s):lZQBEA (Builtin.γ.listLengthHint QAe) Q E s:=by
 unfold Builtin.γ.listLengthHint;show lT (YWd Δ.F.slot_set_len.ς ?_);generalize c:("set.__len__":String)=e
 wp_delta
 rw[show splitId! e<*("set","__len__",)from by subst c;decide +kernel];subst c;show lT (TA (T:="set") (b:=π) d (by rw[XG];kernel_rfl)^YY (λz=>mWz (!0)) λ_=>?_);show YY (λ_=>lT^wpAny_typeOf! d^mRh) λz=>mW (!3) z
def Mt!(d:m<256)(e:ts.β=(b'm).β)(c:M4.ExactSet)(f:M4.mY=.X6 (oSQAZts).Λ ePQCF):Δ.W.KdlSrc Pw "set" aa (b'm).β QJ5 (λh=>h.Ξ a<*M4) where
 TB!:=λ_b=>(M4,b,c.1)
 Xq!:=λ_b=>(oNb,oNb)
 AP:=λ__bk=>kaQAv_b
 notList!:=by decide
 notTuple!:=by decide
 hint!:=λ____bq=>Rb! (M4,b,c.1) q
 qF:=λ__gb=>(7,(λ__q=>Ra! debcfq),Q' gdef^p8^oNb,(QCO,nN_b))
def Fx!:∀{ks:lU}QNa,ts.β=ks.β->IntsAre ((oSksts).Tx QBu) (ks.Tx λ(n:χ)=>(n:ω))
 |[],_,_=>.nS
 |k::ks,t::ts,h=>.nF (k:ω) t^Fx! QFw
def uk!(p:g.Perm l):∀QMx,IntsAre lns->∃b,IntsAre gb/\b.Perm ns:=by
 induction p with
 |nS=>show λh=>(_,h,.Kx _)
 |nF x p j=>
  intro nsh;cases h with
  |nF n t h=>
   let(b,d,c):=jh;show(n::b,.nF ntd,c.nF n)
 |swap! x y l=>
  intro nsh;cases h with
  |nF n t h=>cases h with
   |nF f t' h=>show(_,.nF ft'^.nF nth,.swap ___)
 |ξ r q i1 i2=>
  intro nsh;let(n1,d,c):=i2h;let(e,o,k):=i1d;show(e,o,k.ξ c)
def Rc! QNV:((b'm).Tx λ(n:χ)=>(n:ω)).Pairwise (·≤·):=by
 rw[γ.pairwise_map];show((γ.pairwise_lt_range (n:=8)).Wo _).imp λh=>by lia
def Re!(K:Δ.W.KdlSrc Pw Taanu OK!)(B:A.T6=ε)(j:OK! s.ρ)(v:n≤Φ)(q:∀QM3(h:χ)(d:pVη),s⁻¹≤h'.u_.fC->QBY->ItemsOf! udn->R d.Zh {s with ρ:=h',mU:=h}):lZQBEA (collect! QAe) R E s:=by
 let t:=(K.Xq _j).1;unfold collect!;show lT^wpAny_runValue! (BR entry_proto_collect'! ?_);rw[o7.Xg Δ.F.plain_proto_collect _];show(show lZ_ A.in1 (newList! []>>=λl=>again^.Rm "list.__iadd__" ([l,.ο a],[])) __ s from lT^I3^mR (X9 Δ.F.plain_list_iadd _,BR entry_list_iadd'! ?_));rw[o7.Xg Δ.F.plain_list_iadd _];let C:(s.ρ.Uu {dM:=.TB "list",mY:=.Yv ([]:γη).Λ}).Ξ s⁻¹<*{dM:=.TB "list",mY:=.Yv #[]}:=t8_ζ;let p:=Δ.W.kdl_extend (A:=A) (s:={s with ρ:=s.ρ.Uu {dM:=.TB "list",mY:=.Yv ([]:γη).Λ} })
  (R:=λ(r:Result!)(s':Θ)=>∃(h':n3)(h:χ)(d:pVη)(c:χ),r=.ok^.ret^.ο s⁻¹/\s'={s with ρ:=h',mU:=h}/\(∀bo,s.ρ.Ξ b<*o->h'.Ξ b<*o)/\
   h'.Ξ s⁻¹=δ {dM:=.TB "list",wF:=ε,mY:=.Yv dc,slots:=#[]}/\ItemsOf! udn)
  K B (K.AP __j λb_oe=>nN_e) s⁻¹ (ITt) (ITt) QAY 0 C
  (λh'hdckgz=>(h',h,d,c,5,λboe=>kboQGsQJO,g,z)) v
 show(show lZ_ A.in1 (Builtin.γ.Zl QAYQAeQAY) ___ from pWp (λf s'x=>?_) λe s'x=>?_)
 .cases f with
  |done f=>
   let(h',h,d,c,e,ζ,k,g,z):=x;cases e;show(show lZ_ AQUz___ from lTQGW)
  |again c1=>
   show(x.1,BS x.2 λr s2y=>?_);let(h',h,d,c,ζ,ζ,k,g,z):=y;show(show lZ_ AQUz___ from lTQGW)
 .obtain ⟨_,_,_,_,e',_⟩:=x;cases e'
def Rg!(N:A.T6=ε)(t:m<256)(S:B'w s.ρ a m)(q:∀QJR QM3(hn:χ)QQE,s⁻¹≤p->QBY->IntsAre vsQLi->h'.Ξ p<*{dM:=.TB "list",mY:=.Yv vs.Λ n}->Q QAl {s with ρ:=h',mU:=h}):lZQBEA (wG (.Rm "sorted") [.ο a]) Q E s:=by
 let(M4,ts,eP,M,L,u,R):=S;show Δ.YL.call_function_entry kind_sorted! plain_sorted! entry_sorted! (args_sorted1! _) ?_;unfold Builtin.«sorted»;show lT (m:=checkCount! "sorted" 1 1 _) (mR^lT^Re! (A:=A.in1) (Mt! (P:=P) tuL R) N M (by rw[w9];have:=(JN (k:=0) t (!0)).2.2.1;show VU this) λh'hc hsz Cf=>?_);let d:c.Zh.β=(b'm).β:=by rw[IF];show f.1
 let U:=(JN (k:=0) t (!0)).2.2.1;let r:(J0wamtseP).β=(b'm).β:=by rw[f_P.length_eq,j',zAu]
 let g:c.Zh=J0wamtseP:=by
  show γ.ext_getElem (by rw[d,r]) λjH F=>?_;have:QVl[j]?<*c.Zh[j]:=f.2 j c.Zh[j] (by rw[<-X0];show mOH);rw[mOF]at this;show(ψ.δ.WZ this).UH
 show lT (wpAny_newList! ?_^by rw[d,w9];show VUU);let v:(h'.Uu {dM:=.TB "list",mY:=.Yv c.Zh.Λ}).Ξ h'.u_.fC<*seqObj! "list" c.Zh.Λ 0:=t8_ζ;let B:∃ns,IntsAre c.Zh ns/\ns.Perm QLi:=by
  rw[g];show uk! f_P!^Fx! u
 let(ns,B,b5):=B;show lT (tO ?_);show DI slot_list_sort! (_,v,0) entry_list_sort! (list_sort_tree! vB (by rw[d];lia) λgTli1i2J=>?_)^args_list_sort! _;let T:l=(b'm).Tx λ(n:χ)=>(n:ω):=Perm.eq_of_pairwise (λxy__h1h2=>ω.ZV h1h2) J (Rc! m)^i2.ξ b5;subst T;show(2,mR (2,3));let(e,O):=sortedHeap_at! (gT:=gT) v;show q h'.u_.fC _he gT.Zh ?_ (λboz=>?_) i1 (by simpa using O)
 .exact hsz
 .let D:=oN^Cboz;show(sortedHeap_old! (p8D)^by rw[size_push'!];show ZAD).ξ^nN_^Cboz
end
end _F
namespace _b
open PyProof.Rows _F
abbrev Mu! QBg QCw QNV:j7:=.ext λh=>B'wham
def zp!(x:B'wham):qNPwHha^Mu! w a m:=(x,(by let(o,_,_,e,_):=x;show (o,e)),λh1h2zk=>B'.AP z λoe=>koe)
def Tm!:∀{ns:lU}QCE,oGQKPus->∀QAu(v:η),us[i]?<*v->∃t,v=.tV ((ns.TC i 0:χ):ω) t
 |[],_,r,i,v,e=>by cases r;simp at e
 |n::ns,_,r,i,v,e=>by
  cases r with
  |nF q a=>
   let(t,ζ):=q;cases i with
   |qW=>cases e;show(t,0)
   |qV i=>show Tm! aive
def e_e!:∀{ns:lU}QTK,IntsAre vs (ns.Tx λ(n:χ)=>(n:ω))->oGQKPvs
 |[],_,h=>by cases h;show .nS
 |n::ns,_,h=>by cases h with|nF _ t h=>show .nF (t,0)^e_e! h
section
variable{X:n8}
def Cv!(i:X.TN=π):wNX (.TB "set") (λxsHQ=>∃(p:θ)(ns:lU),xs=[.ο p]/\pG X.K HpQKP/\(∀n∈ns,n<8)/\∀a,Ha=ε->Q QAe^mEHa^Mu! X.w a^A'ns):=by
 intro c skHxsusQ Irh;let(p,ns,ζ,g,j,q):=h;let(u,ζ,e):=x5r;cases e;let(eE,b,pl,hz):=I.oh g;show Q_! (ns:=ns) (I.ok.hd i) pl.Xt (by rw[<-b.β];simp[mJ]) j (Tm! b) λh'dxf=>?_;show(.ο s⁻¹,_,I.laid (t':=d) fQBF^zp! x,0,q_QEA)
def qb!(i:X.TN=π):wNX (.Rm "sorted") (λxsHQ=>∃(a:θ)(m:χ),xs=[.ο a]/\m<256/\Ha=δ^Mu! X.w a m/\∀p,Hp=ε->Q QAl^mEHp^.P'^mJQAZ):=by
 intro b s tHxsusQ Irh;let(a,m,ζ,c,j,q):=h;let(u,ζ,e):=x5r;cases e;show Rg! (I.ok.hd i) c (show B' X.w s.ρ a m from(I.rv a_j).1) λph'dnvsb5flg=>?_;show(.ο p,_,I.laid (t':=d) (o:=.P'^mJQAZ) fb5 (3,vs,n,e_e! l,g),0,q_^I.rv.ax b5);have:=(JN (k:=0) c (!0)).2.2.1;rw[mJ,j',w9];show VU this
end
end _b
namespace _b
section
variable{g:lU->χ->lU}{s:lU}{L:lU}{kswsR:n0}{Bm:γb9}{km:χ}
def ou!(b:xSgL sksws ks.β 0)QEO(h:R.β=ks.β)(hw:ws[i]?<*w):QCJ/\n6L R 0 w=i:=by
 let e:i<ks.β:=by rw[b.eN];show(m9 hw).1
 let(d,f):=b.lead i ks[i] w (mOe) hw;show(d,3);let h1:=iQ! bah_wζd;rw[f]at h1;show QH! b.eR h1^mOe
end
end _b
namespace _F
open _b
abbrev G4 QCi QAH:Prop:=∀p∈ts,tZH p.1 p.2
structure KT QCi QIA:Prop where
 jN:MJHH'
 dE:G4tsH->G4tsH'
section
variable{ts:γQAV}{HH1H':m1}
def KT.of QBv:KTtsHH':=(MJ.of s,λhpb5=>GW (hpb5) s)
def KT.ξ(a:KTtsHH1)(b:KTtsH1H'):KTtsHH':=(a.jN.ξ b.jN,λh=>b.dE^a.dE h)
def Mv!(s:x8P0HH')(j:tZH P0hN)(i:P1≠P0)(h:tZH P1a):tZH'P1a:=by
 let(e,c,_):=j;let(ps,k,g,b):=h;show(ps,s__ik,g,λxf=>(bxf).imp id λ⟨m,l,d⟩=>(m,l,s__QJTd));rw[z,c]at d;cases d
def KT.ofX(c:(ts.Tx Prod.fst).qg)(d:(P,hN,)∈ts)(s:x8PHH')(h:tZH PhN)(h':tZH'PhN):KTtsHH':=by
 show(MJ.ofX sh,λa pb5=>?_);by_cases e:p.1=P
 .have:p=(P,hN,):=by
   let(i,g,ζ):=γ.getElem_of_mem b5;let(j,f,b):=γ.getElem_of_mem d;let k:QVn[i]'(by rw[j'];show g)=QVn[j]'(by rw[j'];show f):=by
    rw[γ.getElem_map,γ.getElem_map,b];show e
   have:=(getElem_inj! c).mp k;subst this;show b
  rw[this];show h'
 .exact Mv! she^a pb5
def KT.mach QGq QPS:tFH'mL WB:=h.Xk k.jN.iT
end
abbrev AC QA6 QDu QAt QMX:b9:=B.TC (n6L W 0 u) ν
abbrev aa!(PQ:lU->b9)QMX:Prop:=∃xv,u=x++v/\Px=π/\Qv=π
abbrev wz!(P:lU->b9)QMX:Prop:=P u.UQ=π
abbrev OC!(P:lU->b9)QMX:Prop:=Pu=ν
abbrev U3(r:b9->b9->b9)(PQ:lU->b9)QMX:Prop:=r (Pu)^Qu=π
def SO(h:m≤8):(xTRlm).β≤8:=by rw[xT,j',rA];show h
end _F
namespace _F
open PySem.Spec PyProof.Rows
def jz!{f:St}(o:f[j]?<*δ^.uM x)(d:θ->χ->γ V->m1->Prop)(hz:x.β≤Φ)(r:∀D,HD=ε->dD 0 []^mEHD^.P' [])(p:∀(D:θ)(i:χ)(v:V)(ys:γ V)(H':m1)(l:oE)(f5:m1->Prop),HD=ε->(x.Ym.Zh.Tx λc=>V.uM ⟨#[c]⟩)[i]?<*v->mIHH'->H'D<*.P' ys->dDiysH'->
   (∀yh,hD<*.P' ys->mIHQDz->dD (i+1) QBqQDz->lyh)->(∀a,mIHa->aD<*.P' ys->dD (i+1) ysa->f5a)->
   tt (δv::f) H' λba=>if b=π then n (δv::f) a l else f5a)(q:∀DysH',HD=ε->mIHH'->H'D<*.P' ys->dD x.β ysH'->Q (.ο D) H'):EF (KB^aGj) tt nfHQ:=by
 let g:(x.Ym.Zh.Tx λc=>V.uM ⟨#[c]⟩).β=x.β:=by rw[j',IF];rfl
 show .of o (x,0,uC! (J:=ETx) (xs:=x.Ym.Zh.Tx λc=>V.uM ⟨#[c]⟩) d (by rw[g];show hz) ?_ ?_ ?_ rp^by rw[g];show q)
 .intro im_k;rw[g]at k;show k
 .rintro i m v t _⟨e,c,s,ζ⟩;show(e,by rw[na,X0,s];rfl)
 .intro m_;rw[g];first|show nZ_|rfl|show lt_irrefl! _
end _F
namespace _b
open _F
abbrev EE QJM:lU:=b'^A'l
def mQ!{x:χ}:∀{l:lU}{m:χ},(l.foldl (λm k=>m ||| 2^k) m).Vy x=(m.Vy x||decide (x∈l))
 |[],m=>by simp
 |k::r,m=>by
  rw[γ.foldl_cons,mQ! (l:=r),χ.testBit_or,χ.testBit_two_pow];by_cases e:k=x
  .subst e;simp
  .simp [e,show ¬ x=k from λz=>e z.UH]
def sT QNx:x∈EEl↔x∈l:=by
 unfold EE b';rw[P5,Ug!,A',mQ!];simp;show λh=>axh
abbrev ER QCv:n0:=((γ.b_ 256).flatMap λm=>[0::b'm,1::b'm]).Wo λk=>k.tail.u7 (· < n)
def qk! QCv:(ERn).β≤512:=by
 unfold ER;show n5QNc ?_;rw[γ.length_flatMap];simp only[oY,length_nil!];decide +kernel
def cx! QNx(e:b≤1)(d:∀x∈l,x<n):b::EEl∈ERn:=by
 unfold ER;rw[P5,mem_flatMap!];show((A'l,Ug.Ui^Y0a,3),3)
 .have:b=0\/b=1:=by lia
  rcases this with ζ|rfl
  .exact cG
  .exact qO_cG
 .rw [T5];show λxc=>uO^d x^(sTa).mp c
def ig!(h:k∈ERn):∃b S,k=b::S/\b≤1/\(∀x∈S,x<n)/\S.β≤8:=by
 unfold ER at h;rw[P5,mem_flatMap!]at h;let((m,f,d),c):=h;let e:=(JN (k:=0) (Ug.mp f) (!0)).2.2.1;simp only[u3,i7,w7]at d;rcases d with ζ|rfl
 .exact ((0),2,!0,λxa=>VG^T5.mp cxa,e)
 .exact ((1),2,!0,λxa=>VG^T5.mp cxa,e)
abbrev NS QAt QJM:lU:=if l.I9 QHM=π then 1::EE (l++[0])else 0::EEl
abbrev Iv! QDu QAt QFi(q:χ):lU:=NSB^gAW k.tail q
abbrev Mw! QFi:b9:=decide (k.headD 0=1)
section
variable{L:lU}{W:n0}{B:γb9}
def R8(f:oOL WB)(e:∀x∈S,x<W.β)(d:q<L.β):∀x∈gAW Sq,x<W.β:=by
 intro xb;let(r,c,ζ):=WB.mp b;let hw:=zZf^erc;let a:q<(W.TC r []).β:=by rw[hw.1];show d
 rw[pu,mOa];show hw.2 _^vOa
def DX!(d:W.β≤8)(h1:1≤W.β)(b:∀x∈l,x<W.β):NSBl∈ER W.β:=by
 let c:∀x∈l,x<8:=λxa=>pP (bxa) d;unfold NS;split
 .refine cx! (λxa=>?_) (!0) (λxa=>?_)
  .rcases lp.mp a with z|z
   .exact cxz
   .rw [o6z];decide
  .rcases lp.mp a with z|z
   .exact bxz
   .rw [o6z];show h1
 .exact cx! c (!0) b
def dr! QVN(f:W.β≤8):∀k∈ER W.β,∀q,q<L.β->Iv! WBkq∈ER W.β:=by
 intro kdqc;let(b,S,ζ,_,e,_):=ig! d;show DX! f a.n1^R8aec
inductive y9(T:lU->b9):lU->Prop
 |nS:y9T []
 |jA {xv:lU}:y9Tx->v≠[]->Tv=π->y9T (x++v)
def y9.last(h:y9Tu)(a:u≠[]):∃xv,u=x++v/\v≠[]/\y9Tx/\Tv=π:=by
 cases h with
 |nS=>show mWζa
 |@jA x v h1 h2 b=>show(x,v,0,h2,h1,b)
def eL!{uxv:lU}(h:u++[c]=x++v)(b:v≠[]):∃a,v=a++[c]/\u=x++a:=by
 rcases γ.eq_nil_or_concat v with ζ|⟨a,d,ζ⟩
 .exact mWζb
 .rw [γ.concat_eq_append,<-u4]at h;let(h1,h2):=γ.append_inj' hζ;cases h2;show(a,!1,h1)
def Rh!(l:oOL WB)(E:W.β≤8):∀QCvQMX,u.β=n->QA_->
  ∃b S,be QTyL [1,0] u=b::S/\(b=1↔y9QBKu)/\(∀x∈S,x<W.β)/\∀r,r∈S↔∃xv,u=x++v/\y9QBKx/\r=n6L W 0 v:=by
 intro n;induction n with
 |qW=>
  intro ui_;cases Wc.mp i;show((1),[0],0,(λ_=>.nS,λ_=>rfl),λxd=>by rw[o6d];show l.n1,λr=>?_);rw[aL!];constructor
  .rintro ζ;show([],[],0,.nS,0)
  .rintro⟨x,v,e,_,ζ⟩;let(_,ζ):=γ.append_eq_nil_iff.mp e.UH;rfl
 |qV n w=>
  intro uim;rcases γ.eq_nil_or_concat u with ζ|⟨u,c,ζ⟩
  .cases i
  rw[γ.concat_eq_append]at i m⊢;let(b,S,J,O,I,q):=wu (by simpa using i) λxd=>mx (by simp[d]);let C:c∈L:=mc (!1);let A:L.UL c<L.β:=γ.idxOf_lt_length_iff.Ui C;let f:=R8l I A;let o:∀x∈gAW SQBW,x<8:=λxd=>pP (fxd) E;let j:∀r,r∈gAW SQBW↔∃xv,u=x++v/\y9QBKx/\r=n6L W 0 (v++[c]):=by
   intro r;unfold gA;rw[WB!];constructor
   .rintro⟨t,hr'!,ζ⟩;let(x,v,h1,h2,ζ):=(qt).mp hr'!;show(x,v,h1,h2,by rw[EV];rfl)
   .rintro⟨x,v,h1,h2,ζ⟩;show(n6L W 0 v,(q_).Ui QOv,by rw[EV];rfl)
  let a:(gAW SQBW).I9 QHM=π↔y9QBKQOw:=by
   rw[XI];constructor
   .rintro⟨r,y,D⟩;let(x,v,ζ,h2,ζ):=(jr).mp y;rw[u4];show .jA h2 (!1) D
   .intro h;let(x,v,h1,h2,H,F):=h.last (!1);let(k,ζ,ζ):=eL! h1h2;show(_,(j_).Ui (x,k,0,H,0),F)
  let eZ:∀r,(∃xv,u++[c]=x++v/\y9QBKx/\r=n6L W 0 v)↔r∈gAW SQBW\/(y9QBKQOw/\r=0):=by
   intro r;constructor
   .rintro⟨x,v,h1,h2,ζ⟩;by_cases p:v=[]
    .subst p;rw[vP]at h1;subst h1;show .P2 (h2,0)
    .obtain ⟨k,ζ,ζ⟩:=eL! h1p;show .UR^(j_).Ui (x,k,0,h2,0)
   .rintro (h|⟨h,ζ⟩)
    .obtain ⟨x,v,ζ,h2,ζ⟩:=(jr).mp h;show(x,v++[c],by rw[u4],h2,0)
    .exact QTz
  rw[K7,J];change ∃M N,NSB^gAW SQBW=M::N/\_;unfold NS;by_cases g:(gAW SQBW).I9 QHM=π
  .rw [mGg];let s:∀x∈gAW SQBW++[0],x<8:=λxd=>by
    rcases lp.mp d with z|z
    .exact oxz
    .rw [o6z];decide
   show((1),2,(λ_=>a.mp g,λ_=>rfl),λxd=>?_,λr=>?_)
   .rcases lp.mp ((sTs).mp d)with z|z
    .exact fxz
    .rw [o6z];show l.n1
   .rw [sTs,eZ,lp!,aL!];constructor
    .rintro (z|z)
     .exact .UR z
     .exact .P2 (a.mp g,z)
    .rintro (z|⟨_,z⟩)
     .exact .UR z
     .exact .P2 z
  .rw [mFg];show((0),2,(λz=>(by cases z),λz=>mW (a.Ui z) g),λxd=>fx^(sTo).mp d,λr=>?_);rw[sTo,eZ];constructor
   .exact .UR
   .rintro (z|⟨z,_⟩)
    .exact z
    .exact mW (a.Ui z) g
def yC! QUM(e:W.β≤8)(a:∀c∈u,c∈L):Mw!^be QTyL [1,0] u=π↔y9QBKu:=by
 let(b,S,g,f,_):=Rh! de_uζa;rw[g];change decide (b=1)=π↔_;rw[decide_eq_true_iff!];show f
def y9.congr(h:y9Tu):(∀v,QVo->Tv=iGv)->y9iGu:=by
 induction h with
 |nS=>show λ_=>.nS
 |@jA x v h1 h2 d b=>
  intro k;show .jA (b λw hw=>k w λc a=>by simp[hw c a]) h2 ?_;rw[<-kv λc a=>by simp[a]];show d
end
section
variable{T:lU->b9}{w:lU}{ik:χ}{gl!:γb9}
end
abbrev Cs(n1n2:χ):n0:=((γ.b_ n1).flatMap λr=>(γ.b_ 256).Tx λm=>r::b'm).Wo λk=>k.tail.u7 (· < n2)
def dB!(a:χ)(h:n1≤8):(Csn1a).β≤2048:=by
 unfold Cs;show n5QNc ?_;rw[γ.length_flatMap];simp only[j',rA,γ.map_const',γ.sum_replicate_nat];lia
def Dz! QNx(d:r<n1)(e:∀x∈l,x<b):r::EEl∈Csn1b:=by
 unfold Cs;rw[P5,mem_flatMap!];show((r,Ug.Ui d,WB.Ui (A'l,Ug.Ui^Y0a,0)),3);rw[T5];show λxc=>uO^e x^(sTa).mp c
def oy!(h:k∈Csn1a):∃r S,k=r::S/\r<n1/\(∀x∈S,x<a)/\S.β≤8:=by
 unfold Cs at h;rw[P5,mem_flatMap!]at h;let((r,d,f),c):=h;let(m,e,ζ):=WB.mp f;show(r,2,Ug.mp d,λxb=>VG^T5.mp cxb,(JN (k:=0) (Ug.mp e) (!0)).2.2.1)
abbrev inT QU0 QRB QJM:lU:=if eY.TC rν=π then l++[0]else l
abbrev NI QU0 QRB QJM:lU:=r::EE^inT eYrl
abbrev VY(W1:n0)QU0(cE:n0)QFi(q:χ):lU:=NIeY (pRW1QSNq)^gAcE k.tail q
abbrev Mx!(hV:γb9)QFi:b9:=k.tail.I9 λr=>hV.TC rν
section
variable{L:lU}{W1cE:n0}{eYhV:γb9}
def ky!:x∈inT eYrl↔x∈l\/(eY.TC rν=π/\x=0):=by
 unfold inT;split
 .rename_i c;rw[lp!,aL!];show(λz=>z.imp id λy=>(c,y),λz=>z.imp id λy=>y.2)
 .rename_i c;show(.UR,λz=>z.Q5 id λy=>mW y.1 c)
def U7(b:∀x∈l,x<n)(h1:1≤n):∀x∈inT eYrl,x<n:=λxa=>by
 rcases ky.mp a with z|⟨_,ζ⟩
 .exact bxz
 .exact h1
def nz!(d:cE.β≤8)(h1:1≤cE.β)(c:r<W1.β)(a:∀x∈l,x<cE.β):NIeYrl∈Cs W1.β cE.β:=
 Dz! (λxb=>pP (U7ah1xb) d) c (U7ah1)
def Rj!(b:oOL W1eY)(a:oOLcEhV)(g:cE.β≤8):∀k∈Cs W1.β cE.β,∀q,q<L.β->VYW1eYcEkq∈Cs W1.β cE.β:=by
 intro keqc;let(r,S,ζ,d,f,_):=oy! e;show nz! g a.n1 (BJbdc)^R8afc
def Rk!(w:oOL W1eY)(b:oOLcEhV)(i:cE.β≤8):∀QCvQMX,u.β=n->QA_->
  ∃S,be QOxLQK1u=n6L W1 0 u::S/\(∀x∈S,x<cE.β)/\∀r,r∈S↔∃xv,u=x++v/\eY.TC QOyν=π/\r=n6LcE 0 v:=by
 intro n;induction n with
 |qW=>
  intro ud_;cases Wc.mp d;let a0:∀x∈inT eY 0 [],x<cE.β:=U7 (!1) b.n1;show(EE^inT eY 0 [],0,λxa=>a0x^(sT λxa=>pP (a0xa) i).mp a,λr=>?_);rw[sT λxa=>pP (a0xa) i,ky!];constructor
  .rintro (z|⟨z,ζ⟩)
   .simp at z
   .exact ([],[],0,z,0)
  .rintro⟨x,v,e,h,ζ⟩;let(rfl,ζ):=γ.append_eq_nil_iff.mp e.UH;show .P2 (h,0)
 |qV n p=>
  intro udg;rcases γ.eq_nil_or_concat u with ζ|⟨u,c,ζ⟩
  .cases d
  rw[γ.concat_eq_append]at d g⊢;let(S,B,A,l):=p uQTh λxa=>g x (by simp[a]);let t:c∈L:=gc (!1);let q:L.UL c<L.β:=γ.idxOf_lt_length_iff.Ui t;let f:=R8b Aq;let s:∀r,r∈gAcESQBW↔∃xv,u=x++v/\eY.TC QOyν=π/\r=n6LcE 0 (v++[c]):=by
   intro r;unfold gA;rw[WB!];constructor
   .rintro⟨o,hr'!,ζ⟩;let(x,v,h1,h2,ζ):=(l o).mp hr'!;show(x,v,h1,h2,by rw[EV];rfl)
   .rintro⟨x,v,h1,h2,ζ⟩;show(n6LcE 0 v,(l_).Ui QOv,by rw[EV];rfl)
  rw[K7,B];let y:pRW1 (n6L W1 0 u) QBW=n6L W1 0 QOw:=by rw[EV];rfl
  let a0:∀x∈inT eY (n6L W1 0 QOw) QOz,x<cE.β:=U7f b.n1;let j:=λ{x:χ}=>sT (x:=x) λxa=>pP (a0xa) i;show(EE^inT eY (n6L W1 0 QOw) QOz,3,λxa=>a0x^j.mp a,λr=>?_)
  .change NIeY (pRW1 (n6L W1 0 u) QBW) QOz=_;rw[y];rfl
  .rw [j,ky!,s];constructor
   .rintro (⟨x,v,ζ,h2,ζ⟩|⟨h,ζ⟩)
    .exact (x,v++[c],by rw[u4],h2,0)
    .exact QTz
   .rintro⟨x,v,h1,h2,ζ⟩;by_cases k:v=[]
    .subst k;rw[vP]at h1;subst h1;show .P2 (h2,0)
    .obtain ⟨m,ζ,ζ⟩:=eL! h1k;show .UR (x,m,0,h2,0)
def vm!(b:oOL W1eY)(a:oOLcEhV)(h:cE.β≤8)(e:∀c∈u,c∈L):Mx! hV^be QOxLQK1u=π↔∃xv,u=x++v/\eY.TC QOyν=π/\hV.TC (n6LcE 0 v) ν=π:=by
 let(S,j,_,d):=Rk! bah_uζe;rw[j];change (S.I9 λr=>hV.TC rν)=π↔_;rw[XI];constructor
 .rintro⟨r,f,g⟩;let(x,v,h1,h2,ζ):=(dr).mp f;show(x,v,h1,h2,g)
 .rintro⟨x,v,h1,h2,i⟩;show(_,(d_).Ui QOv,i)
end
section
variable{lAjS:lU->b9}{w:lU}{ik:χ}{gl!:γb9}
end
end _b
namespace _F
open PySem.Spec PyProof.Rows
abbrev Ri! QDl QAu QGU QHR:TE:=λσHQ=>∃f,σ[i]?=δQOk/\(∃nm bAfJ bd sc cl c,Hf<*z'f nm bAfJ bd sc cl c)/\tσH λvsH1=>(∃nm bAfJ bd sc cl c,H1f<*z'f nm bAfJ bd sc cl c)/\∃U:γθ,QKy/\∀base':n3,bv X UσH1 base'->
 ∃(k:χ)(sp:wY)(fd:uP),q4k X.A/\p6 X.K fd ps []/\mT X.Ω X.w X.K X.mg base' mskf fd ps sp/\sp vs (x4UH1) QF1fA
def rj!{j:St}(I:f'XajH s)(h:∃nm bAid sc bc,Hf<*z'f nm bAid sc bc):∃mlnk,s.ρ.Ξ f<*(m,l,.YN n,k):=by
 let(nm,bA,i,d,sc,b,c,e):=h;let((cR,pm,o,g),_):=I.rv f_e;show(7,7,g)
def An! QGU QGn(dO:mPXQCfQP5)QUn(O:∀y,X.fn y=π)QHk(L:QKQ>>>4):mPXQPg^Ri! Xipst:=by
 intro j s EHQ Ih;let(f,h0,hf,h):=h;show y0 (nb (dOj s EH (λvD=>v=.ο f/\D=H) I^.of h0 (0,0)) λdFs0n=>?_);let(v,H0,Bp!,RF,ζ,ζ):=n;obtain ζ:dF=.ο f:=RF;show Δ.W.callWith_F (rj! Bp! hf) (nb (eMb8j s0EH0_ Bp! h) λusJ⟨vs,D,b,r,P,q⟩=>(rj! b P,3)) he L;let(U,Z,q):=q;let(a,e0,w,l):=lq! b.env0 Z;let d:∀ycv,X.fN.XL.ς y<*c->J.ρ.vr cv->a.vr cv:=λycvg S=>by
  let(o,T,R):=S;let Y:=b.freeC ycg;show(o,lco TQJT ?_,R)
  .rcases u3.mp (b.stkSub cz)with z|z
   .exact b.cne ycgz
   .obtain ⟨_,o',M,_⟩:=b.ok.funs.mem z;show mW (oNM)^not_lt.Ui^b.ok.cab yc (Oy) g
  .unfold x4;split
   .rfl
   .exact Y
 let W:bv X U EDa:=by
  show(w,e0.mod,λuφhOe=>?_,b.ok.WZ,λycg=>?_,λiyve1e2e3=>?_)
  .obtain ⟨p1,⟨o,T⟩,p3⟩:=b.rv u_e;show p3__p1 λo2z=>luo2z (λy=>?_)^JVhO;rw[b.stkFree uy]at e;cases e
  .obtain ⟨v,z⟩:=b.aQ ycg;show(v,dycvgz)
  .obtain ⟨m,Y,N⟩:=b.loc;let(u,V6,lk):=Niyve1e2^.P2^.UR e3;rcases lk with⟨k1,_⟩|⟨_,c,g,z⟩
   .have:X.fN.g8.TW.ς y<*.local:=k1;rw[e3]at this;cases this
   .exact QPh
 let(k,sp,fd,cT,cY,F,B):=qa W;let N:us.β=ps.β:=by rw[<-r.β];show F.eN ____B
 show zO (BS (F.n6 X.A X.US J (x4UD) QL9usvs_fAcTe0 (by have:=cYJus b.kIn (by rw[vP];show N);rwa [vP]at this) rB) λr s'n=>?_);cases r with
 |G2 e=>show oA.Q5 n
 |ok j6=>
  cases j6 with
  |ret u=>show b.after^ej! b.env0 Zn
  |next=>show oA.Q5 n
  |brk=>show oA.Q5 n
  |cont=>show oA.Q5 n
end _F
namespace _F
section
variable{X:n8}{a b ee1e2e3e4:bI}{bWdEeJt1t2t3 aj!:TE}{b8p:nV}{o:bI}{x:bE}
def nG QFv(c:QCz>>>4):qTX [e] QK2:=rNhjYc
def m4(h1:mPXe1t1)(h2:mPXe2t2)(c:(Ψ [e1,e2] X.fN=QVp::Ψ [e2] X.fN)>>>4)(s2:(Ψ [e2] X.fN=QVq::Ψ [] X.fN)>>>4):qTX [e1,e2]^pSt1^pSt2 tNil:=rNh1 (nGh2s2) c
def v5(h1:mPXe1t1)(h2:mPXe2t2)(f:mPXe3t3)(d:(Ψ [e1,e2,e3] X.fN=QVp::Ψ [e2,e3] X.fN)>>>4)(s2:(Ψ [e2,e3] X.fN=QVq::Ψ [e3] X.fN)>>>4)(c:(Ψ [e3] X.fN=(ν,oFe3 X.fN,)::Ψ [] X.fN)>>>4):qTX [e1,e2,e3]^pSt1^pSt2^pSt3 tNil:=rNh1 (m4h2f s2c) d
def L6(f:mPXabW)(d:mPXbdE)(c:lh! b>>>7):mPXQIf^MP (RG X.K) bWdE:=mMYUfdc
def qM(f:mPXabW)(d:mPXbdE)(c:lh! b>>>7):mPXQIf^MP (V8 X.K) bWdE:=mM Bq! f dc
def K8 QAu{k:ω}{j}{c:nV}(h:QKt>>>4)(f:Hs X.fN.g8 x>>>8)(g:((x==("__debug__":bE))=ν)>>>0)(d:((x==("__classdict__":bE))=ν)>>>0):mPX (.Subscript QCf (.Constant (.tV k) jc) b8)^MP (RG X.K) QP5^tC^.tV k:=mMYU (cNihfgd) mVQAQ
def AW(f:X.mg "len"=ε)QFv(g:(pUX "len")>>>4)(d:QCz>>>4)(c:QCW>>>4):mPX (.Wm (.Ip "len" p) [e] [] b8)^rOQC4QK2:=wWVVgf boot_len! (nGhd) (!0) (!0) dc
def BI(f:X.mg "len"=ε)QFv(g:(pUX "len")>>>4)(d:QCz>>>4)(c:QCW>>>4):mPX (.Wm (.Ip "len" p) [e] [] b8)^rOQE5QK2:=wW bw! gf boot_len! (nGhd) (!0) (!0) dc
def BN(d:mPXabW)(c:mPXbdE):vIX (.Compare a [.NotEq] [b] b8)^UM^MP rNe! bWdE:=q7 wk! dcQBZ
def uU(d:mPXabW)(c:mPXbdE):vIX (.Compare a [.Eq] [b] b8)^UM^MP rEq! bWdE:=q7D8dcQBZ
def m3 QAu{c:nV}(k:X.N.qg)(j:mPXeeJ)(g:QKt>>>4)(d:yJ X.fN.g8 x>>>8)(f:(Z'e (δ^.Ip xc) b8.Zm X.fN=pure ν)>>>4)(h:QA3>>>8):w0X (.Assign [.Ip xc] eb8)^aReJ^rZi:=pw! kgdjfh
def z0 QAu(g:X.N.qg)(d:QKt>>>4)(c:yJ X.fN.g8 x>>>8)(f:QA3>>>8):PGXQFK^rZi:=XTgdcf
def xN{dc:nV}(g:mPXot1)QFv(k:(I8o "append" X.fN QRx=oFo X.fN)>>>4)(j:(((pNc^Ψ [e] X.fN).u7 (λx=>!x.1)&&(backToKw! c^ZW [] X.fN).u7 (λx=>x.1.BC)&&decide ([e].β+([]:γ Keyword).β+(if ([]:γ Keyword).Yj then 0 else 1)<30))=π)>>>4)(i:((d.endLine==c.Zm)=π)>>>4)(f:QCz>>>4)(b5:((pNcQQZ).I9 QBA=ν)>>>4):mPX (.Wm (.Za o "append" d) [e] [] c)^vF X.K "list" rAppend! t1QK2:=LUI4 Δ.F.slot_list_append Δ.F.type_list_append jn! g (nGhf) kjifb5
def yG{c:nV}(i:X.mg "isinstance"=ε)(j:X.mg n=ε)(g:Y2n<*.TB T)QFv(l:(pUX "isinstance")>>>4)(k:pUXn>>>4)(n1:(n≠"__name__")>>>0)(f:((n==("__debug__":bE))=ν)>>>0)(d:(Ψ [e,.Ip nc] X.fN=QAh::Ψ [.Ip nc] X.fN)>>>4)(s2:(Ψ [.Ip nc] X.fN=(ν,oF (.Ip nc) X.fN,)::Ψ [] X.fN)>>>4)(b5:((pNb8^Ψ [.Ip nc] X.fN).I9 QBA=ν)>>>4):mPX (.Wm (.Ip "isinstance" p) [e,.Ip nc] [] b8)^rOQCc^pSeJ^pS (tC^.ty T) tNil:=wW (px! (T:=T)) liiZ (m4h (XU (v:=.ty T) kjgζn1f) d s2) (!0) (!0) db5
section
variable{K:qI}{H:m1}{Q:oE}{c:θ}{xs:γ V}{vx0x1x2x3:V}{i:ω}{l:γ V}
def m7(d:Hc<*.iT xs)(f:qZxsi<*v)(q:Qv H):RGKQAXQKGHQ:=(c,_,4,n'.of d,f,q)
def q8(d:Hc<*.P' xs)(f:qZxsi<*v)(q:Qv H):V8KQAXQKGHQ:=(c,_,4,pG.of d,f,q)
def bO:qZ (x0::l) 0<*x0:=r8 (j:=0) ζ
def fV:qZ (x0::x1::l) 1<*x1:=r8 (j:=1) ζ
def iO:qZ (x0::x1::x2::l) 2<*x2:=r8 (j:=2) ζ
end
end
abbrev OD!(N P:γbE)QKm:b9:=decide QEb&&!sc.isCoroutine&&!sc.isGenerator&&decide N.qg&&decide (N.Uj P.β=P)&&P.u7 (λx=>decide QB0||decide QUs)&&sc.TW.u7 λy=>decide (y.2≠.VC)
def nU(h:OD! N P sc=π:=by kernel_rfl):n9N P sc:=by
 unfold OD! at h;simp only[xI,IP,A4,PA,T5]at h;let((((((a,b),c),d),e),f),g):=h;show(a,b,c,d,e,λxj=>fxj,λyiz=>gyiz)
abbrev My! QAw QFJ QTA QFO:Prop:=∃fd,nEKxx st f fd
def vG(e:K.ς f<*(c,b,.YN d,a)):Y7KQAr=π:=by
 unfold Y7;dsimp only;rw[show γ.ς fK=_ from e]
def Ut!{kVcR pm ct:η}(l:K.ς f<*(e,d,.YN^q3xxQR'QSAQIg .ε kVcR pm an QEC ct,a))(c:t9KQECx=π):My! Kx st f:=QU1
def DU{b:Type}QRs(h:l.β=1):∃a,l=[a]:=γ.length_eq_one_iff.mp h
def MS{c:Type}{l:γc}(h:l.β=2):∃a b,l=[a,b]:=by
 cases l with
 |nS=>cases h
 |nF a t=>let(b,ζ):=DUQHl;show(a,b,0)
def cD!{d:Type}{l:γd}(h:l.β=3):∃a bc,l=[a,b,c]:=by
 cases l with
 |nS=>cases h
 |nF a t=>let(b,c,ζ):=MSQHl;show(a,b,c,0)
def MB!{e:Type}{l:γe}(h:l.β=4):∃a bcd,l=[a,b,c,d]:=by
 cases l with
 |nS=>cases h
 |nF a t=>let(b,c,d,ζ):=cD! QHl;show(a,b,c,d,0)
def Rl!{f:Type}{l:γf}(h:l.β=5):∃a bcde,l=[a,b,c,d,e]:=by
 cases l with
 |nS=>cases h
 |nF a t=>let(b,c,d,e,ζ):=MB! QHl;show(a,b,c,d,e,0)
def rI(F:nEKxq st fc)(h:∀QFe QLE(bY ct a:η),bindArgs! QAoQLh=pure^[q0].zip [a]:=by intros;rfl):p6Kc [q0] []:=F.binds λ______usb=>by let(_,ζ):=DUb;show h_______
def qG(F:nEKxq st f d)(h:∀QFe QLE(bY ct ba:η),bindArgs! QAo ([b,a],[])=pure^[q0,q1].zip [b,a]:=by intros;rfl):p6Kd [q0,q1] []:=F.binds λ______usc=>by let(_,_,ζ):=MSc;show h________
def ES(F:nEKxq st fe)(h:∀QFe QLE(bY ct cba:η),bindArgs! QAo ([c,b,a],[])=pure^[q0,q1,q2].zip [c,b,a]:=by intros;rfl):p6Ke [q0,q1,q2] []:=F.binds λ______usd=>by let(_,_,_,ζ):=cD! d;show h_________
def K9(F:nEKxq st fi)(h:∀QFe QLE(bY ct dcba:η),bindArgs! QAo ([d,c,b,a],[])=pure^[q0,q1,q2,e].zip [d,c,b,a]:=by intros;rfl):p6Ki [q0,q1,q2,e] []:=F.binds λ______usg=>by let(_,_,_,_,ζ):=MB! g;show h__________
def Rn!(F:nEKxq st fk)(h:∀QFe QLE(bY ct edcba:η),bindArgs! QAo ([e,d,c,b,a],[])=pure^[q0,q1,q2,i,g].zip [e,d,c,b,a]:=by intros;rfl):p6Kk [q0,q1,q2,i,g] []:=F.binds λ______usj=>by let(_,_,_,_,_,ζ):=Rl! j;show h___________
end _F
namespace _F
open PySem.Spec PyProof.Rows
def nE.okA{P:nA}{w:o4}{K:qI}{st:cZ}(F:nEKxbA st fc)(S:n9Nps^hY st)(a:∀(bY:η)(A:o7)(b7:γ Env)(s:Θ)(H:m1)(vs:γ V)(Q:oE)(E:r3),q4k^A.jq^envOfC bA (hY st) s⁻¹ fbY->bvsHQ E->
   ∃t,tR (aWmsPwK mg υ NbA (hY st) fbYAb7sH E).nox (nR st) t/\t {pO:=λ_H'=>Q .vS H',CF:=Q} (ZRNvs) H)(eN:∀vsHQ E,bvsHQ E->vs.β=ps.β:=by intro ____h;first|(cases h;subst_vars;rfl)|((repeat let(_,h):=h);subst_vars;rfl)):mTPwK mg υms (k+1) fcpsb:=F.ok SeNa
def SR{e:CXT}{P:nA}QGa QC1 QEN{υh:n3}QJP QRE{x:bE}{k:χ}{ps:γbE}{d:wY}{st:cZ}(l:∃f,nsIn KdGx=δQOk/\My! Kx st f)(o:∀fc,mg x<*.ο f->nEKxx st fc->p6Kcps []/\mTPwK mg υekfcpsd):∃fc,mg x=δQAr/\Y7KQAr=π/\p6Kcps []/\mTPwK mg υekfcpsd:=by
 let(f,a,c,F):=l;let(b,o):=ofc (wJX Ga) F;show(f,c,wJX Ga,F.C9,b,o)
inductive F4 QAw QFJ QTA(jV:η)(cd:θ):Prop
 |mk QFO (uF:η) (z5 an:ψθ) (vU:pVQMB) (kVk8 pm ct:η) (_:nsIn KdGx<*δQAr) (_:K.ς f<*(uF,z5,.YN^q3xxQR'QSAQIgjVkVk8 pm an (.ο cd) ct,vU)) (_:t9K (.ο cd) x=π)
abbrev B_! QAw:γbE->Prop
 |[]=>vN
 |x::l=>nsIn KdGx=δε/\B_! Kl
abbrev Ro! QAw QFJ QTA:Prop:=∃f,nsIn KdGx=δQOk/\My! Kx st f
abbrev hX! QDl QAK(F:St->r3):η->Θ->Prop:=λev s'=>∃σ'H's1,f'XaIσ'H's1/\tP X.Ω X.w X.US H's1 (Fσ') ev s'
abbrev PX! QDl QTA(t:QJZ->oW):Prop:=
 ∀QAKQCDQCCQAH QM0(F:St->r3),f'XaIσH s->t FDσH->lZQAA X.A (exec! st X.fN) QL4 (hX! XaIF) s
section
variable{X:n8}{aI:γQA8}{σ:St}{H:m1}{s:Θ}{xnygO:bE}{R:θ}{ijk:χ}{np hpos! b8pfRj1 ap:nV}{st a bb0:cZ}{suite:γcZ}{ts:oW}{D:Ends}{ps:γbE}{sp:wY}{ec:bI}{es:γbI}{t:w4}{h5:TT}{ττ':QJZ->oW}
def BX!(F:rP X.Ω X.w X.K X.mg X.υ gOkps sp)(E:q4k X.A)(N:qT X.nox QKJt)(L:pUXgO)(o:(gO==("__debug__":bE))=ν)(M:ΨQKJ X.fN=QAh::Ψes X.fN)(m:(pNfRQFr).I9 QBA=ν)QAB(h:tσH λvsg=>sp vsgC^Gσ):lZQAA X.A (oF (.Wm (.Ip gOp) QKJ [] fR) X.fN) (xWXaIσC) (hX! XaIG) s:=by
 let(f,S,h1,h2,O,F):=F;show y0^CGILh1 (callWith_K! (h₀:=X.υ) I.ok.mod.kin h2 (pW (NfRaIsσH_QN2h) (λuslv=>?_) λ__z=>z.Q5) Mm) o;let(vs,g,Q,r,q):=v;let J:f'XaIσgl:=Q.Z_;show(J.kIn,zO^BS (F.n6 X.A X.US lgQL9usvsC_ E J.env0 ?_ rq) λr s'd=>?_)
 .let B:=Olus J.kIn;rw[vP]at B;show B (by rw[<-r.β];show F.eN ____q)
 .cases r with
  |G2 T=>show(σ,g,l,J,d)
  |ok P=>
   cases P with
   |ret u=>show J.after d
   |next=>show oA.Q5 d
   |brk=>show oA.Q5 d
   |cont=>show oA.Q5 d
def Eb! QPz QAB(q:τ GDσH):lZQAA X.A (execs! [st] X.fN) QL4 (hX! XaIG) s:=by
 show Z8 (nb (haIsσHD G Iq) λf dq=>?_);cases f with
 |next=>show YZq
 |ret v=>show q
 |brk=>show q
 |cont=>show q
abbrev Rp! QAw(R:θ)QAu(τ:QJZ->oW)(ts:oW):oW:=λDσH=>τ (λσ'=>Dr! K RitsDσ') DσH
def sb!(G:PC! Xxn Rib0 suite ts)QPz:w0X (.Try [st] [.ExceptHandler QMF (δn) QME hpos!] [] [] b8)^Rp! X.K Riτts:=by
 intro aIsσHD Iq;show wpAny_Try_except! (pW (Eb! h Iq) (λflq=>?_) λo s'd=>by let(g,H',l,J,m):=d;show yi! G.hex G.eZ G.hfr G.eR G.g6 G.hZ G.eG G.hf G.gE G.hm G.hs Jm G.hd);cases f with
 |next=>show YZq
 |ret v=>show q
 |brk=>show q
 |cont=>show q
end
end _F
namespace _F
open PySem.Spec PySem.W PyProof.Rows Builtin Builtin.ObjectAttr
def uy!{Ω:nA}QGa QRq QC1(F:DEKC)QDQ(J:InstAt! s.ρ eoC^δp)(x:hasDictIn! KC=π)(q:u6KCf)(u:lookIn! fp<*δv)(j:handedIn! v=π)(h:Qv {s with mU:=s.mU+1}):lZQASA (getAttr! QAmfm) Q E s:=by
 let(b5,g,d,t,os):=s;let b:=J.TB (M:=oPΩw);let y:=Y1 (M:=oPΩw) X F.ga;let c:=Y1 (M:=oPΩw) X F.noHook;let isB:=looks_mroIn! (M:=oPΩw) X F.exc;let k:=looks_find! (M:=oPΩw) X J^findObj_own! xqζu;let l:=Δ.F.attrBase_ValueError.ga.bind QAm;unfold getAttr! getAttrBy!;show lT^wpAny_mkText!^tO^lT^b.at^lT (y.at ?_);let a:(onTheHeap! QAk&&η.Rm "BaseException.__getattribute__"==η.Rm "object.__getattribute__")=ν:=by
  rw[show(η.Rm "BaseException.__getattribute__"==η.Rm "object.__getattribute__")=ν by decide +kernel,b9.and_false]
 show vM (by rw[a];decide) ?_;unfold getAttrByItsOwn! hookBefore! callGetattribute! boundAndCalled!;let i:(m&&onTheHeap!^η.Rm "BaseException.__getattribute__")=ν:=by cases m<;>rfl
 show lT^TJ (!4)^c.at^lT^X8^tO^vM (by rw[i];decide)^lT^uZl (zO ?_);show N' Δ.F.attrBase_ValueError.ga.plain Δ.F.entry_bexc_ga ?_;let r:builtinKind! "BaseException.__getattribute__"<*.slot:=by decide +kernel
 let n:splitId! "BaseException.__getattribute__"<*("BaseException","__getattribute__",):=by decide +kernel
 let z:=Δ.F.args_bexc_ga QAm^.uM ft;simp only[checkBuiltinCall!,r,n];show lT ?_;unfold isInstance!;show lTQTV;show vM (!0) (uZz ?_);show lT^mR^lT^mR^lT^b.at^lT (k.at ?_);show mR ?_;change lZ__ (handedOut! v) ___;rw[handedOut_of! j];show mRh
inductive Z5 QAw QRA QAR(x:V)QD4:Prop
 |mk (eCdfsv:_) (_:x=.ο e) (_:H1e<*ANeQAkQTp) (_:H1 d.1<*(CP d.1 fs)) (_:DEKC) (_:M1KC) QRr (_:fs.ς f<*v) (_:Qv H1)
abbrev sY QAw(bW:TE)QRA:TE:=λσHQ=>bWσH^Z5KfQ
def zK!(z:mPXek)(A:QMY>>>4):mPXQHe^sY X.K kf:=by
 intro c sjHQ Ih;show Da! A (nb (zc sjH_ Ih) λu Ri=>?_);let(x,O,g,m,a,C,d,fs,v,L,M,N,F,xc!,n,l,q):=i;subst L;obtain ζ:u=η.ο a:=m;let((o,J,E,(vs,D),B),_):=g.rv a_ M;let((t,p,r,_),_):=g.rv d.1 _ N;let(S,w,y):=cm! p;let(P,hw,b):=aE.some_of (v:=v) (o:=tf) (by rw[<-l];show rf);show uy! F g.kIn (J,E,by unfold notCls!;rw[D],by rw[show o.wF<*d.1 from(Bdζ).1];show w) xc.hd n (by rw[y,hw]) (ju! b) (v,O,g.y4 _,b,q)
inductive MC! QAw(x:V)(y:V)QAH QAR:Prop
 |mk (pqxs:_) QJu (_:y=.ο q) (_:pGKHpxs) (_:pGKHqxs) (_:xs.u7 BE=π) (_:Q QTBH)
def Q4(D:X.A.Wb<r4):pMX (x' .NotEq)^MC! X.K:=by
 intro n s OHxyvuQ Itrh;let(p,q,xs,ζ,ζ,b5,E,F,k):=h;cases t;cases r;let(eE,m,d,C):=I.oh b5;let(o,l,c,B):=I.oh E;let R:=m.β;let P:=l.β;show Wj.RcNeAt.lists (e:=λ_=>π) d.Xt c.Xt (by simp;lia) D (λjh1h2=>?_) ____QHg
 .let f:j<xs.β:=by simp at h1;show EAh1R
  let(a,L,z):=m.get (i:=j)^mOf;let(b,J,w):=l.get (i:=j)^mOf;let g:BE xs[j]=π:=T5.mp F_^vOf;let e:=bq! (A:=X.A.in1) (s:=s) zwgg;rw[Eg! g]at e;let(_,N):=m9L;let(_,M):=m9J;simp only[γ.getElem_toArray,N,M];show e
 .have:(!((γ.b_ eE.Λ.fC).u7 λ_=>π))=ν:=by simp
  rw[this];show k
end _F
namespace _F
open PySem.Spec PyProof.Rows
section
variable{X:n8}{x:bE}{R:θ}{np hpos! b8:nV}{st b0:cZ}{suite:γcZ}{ts:oW}{τ:QJZ->oW}
end
abbrev Rq! QJx QCw(x:η):Prop:=∃ovs,h.Ξ a=δo/\o.mY=.xq vs/\vs[2]?<*x
def iH!:entryFor! table! "proto.unchain"<*Builtin.«proto.unchain»:=entryFor_of_tree! QBJ
section
variable{Ω:nA}{w:o4}{A:o7}{s:Θ}{R:Except! η Δ.Flow->Θ->Prop}{e:θ}
def mn! QNu(g:A.T6<*.ο h)(m:s.ρ.Ξ h<*d)(l:d.mY=.xq c)(k:c[2]?<*.ε)(f:h≠e)(a:s.ρ.Ξ e<*o)(i:o.mY=.xq vs)(hz:2<vs.fC)(j:EQAm {s with ρ:=s.ρ.ei eQPn}):lZQASA (raiseNew! QAm:Sem b) Q E s:=by
 unfold raiseNew!;show lTQFy;rw[g];dsimp only;rw[mG^by simpa using f];show lT^tO^wpAny_runValue! (BR iH! ?_);unfold Builtin.«proto.unchain»;dsimp only;show lT (qUmlk ?_);rw[mG^show(η.ε==η.ε)=π by decide];show mR ?_;unfold updateField!;show lT^lT (wpAny_load! a ?_);rw[i];dsimp only;rw[mG hz];show wpAny_update! a^wpAny_throw! j
end
section
variable{X:n8}{aI:γQA8}{σ:St}{H:m1}{s:Θ}
def f'.sink QAB(i:He<*rMeCd)(a:∀bo,s.ρ.Ξ b<*o->b≠e->b∉oJ X.US->h'.Ξ b<*o)(t:s.ρ.UpToSlots h')(h:∃E,h'.Ξ e<*E):f'XaIσQFF {s with ρ:=h'}:=by
 let k:∀bu,Hb<*u->b≠e->z9Heb<*u:=λbuzn=>(yNn).ξ z;let A:∀b∈oJ X.US,∃o,s.ρ.Ξ b=δo/\∀vs,o.mY≠.xq vs:=LA I.US;let B:∀b,Hb=ε->b≠e:=λbzy=>by rw[y,i]at z;cases z
 let m:rJQCN [] HQFF s.ρ h':=by
  show(λbozng_=>a boz (Bbn) g,λbozng_=>?_,λbozn_=>by rw[yN^Bbn];show n,λboz_=>?_,λbxsz=>kb_z (qSzi^by intro y;cases y),λbouz=>kb_z (qSzi^by intro y;cases y),λbpsz=>(#[],3))
  .obtain ⟨F,f,p⟩:=Abg;rw[z]at f;cases f;show tb_zp
  .by_cases g:b∈oJ X.US
   .obtain ⟨F,f,p⟩:=Abg;rw[z]at f;cases f;let(M,D):=tb_zp;show(_,D)
   .by_cases x:b=e
    .subst x;show h
    .exact (o,a bozxg)
  .rw [pV.append_empty];show kb_z (qSzi^by intro y;cases y)
 let j:y' X.Ω X.w QFFh':=λbuz=>by
  let g:b≠e:=λy=>by rw[y,K5]at z;cases z
  rw[yNg]at z;show(I.rv buz).Zx (λcvly=>?_) (λcy=>kc_y^qSyi (!5)) λcxsy=>kc_y^qSyi (!5);let L:∃r,Hc=δr/\c≠e:=by
   rcases l with ζ|l
   .exact (u,z,g)
   .exact (_,l,qSli (!5))
  let(r,hw,q):=L;show a cvyq λJ=>by rw[I.stkFree c J]at hw;cases hw
 show I.wG (g':=s.PF) (d':=s.drawn) (t':=s.mU) (ch:=[]) mj I.pH QAC
def Rr!(un:rJfsgH0Hfh)(dT:f.Ξ T=ε)(c:∀b,b≠T->h'.Ξ b=h.Ξ b):rJfsgH0Hfh':=by
 let d:∀bo,f.Ξ b<*o->b≠T:=λbozy=>by rw[y,dT]at z;cases z
 show(λboznea=>(cb^dboz).ξ^un.AP boznea,λboznea=>by rw[cb^dboz];show un.slot boznea,un.VC,λboza=>by rw[cb^dboz];show un.Xq boza,un.Xk,un.frzs,un.tbls)
def Rs(d:y'PwHh)(f:H T=ε)(g:∀b,b≠T->h'.Ξ b=h.Ξ b):y'PwHh':=λbuz=>by
 show(dbuz).Zx (λcvay=>?_) (λ_r=>r) λ__r=>r;rw[gcQCG]
 .exact y
 .rcases a with ζ|a
  .rw [e,f]at z;cases z
  .rw [e,f]at a;cases a
def oj!{E:r3}QEg(c9:X.ex=[])QB'(f:X.fN.fm<*X.fN.hl)(eR:X.N.qg)QPT QHY(l:X.xe=λev s'=>lZQAA X.A QQa (λ_k=>tP X.Ω X.w X.b7 X.H₀ X.Xy E ev k) (λe'k=>tP X.Ω X.w X.b7 X.H₀ X.Xy Ee'k) s')QAB(lF:He<*rMeCd)QSR(q:EQAk (d.Tx (·,ν,)) QFF)(e1:h1.Ξ e<*W)(c1:W.dM=.ο C)(al:W.wF=d)(O:W.mY=.xq vs)(f0:vs[0]?<*a0)(f1:vs[1]?<*.ε)(a:∀b,b≠e->h1.Ξ b=s.ρ.Ξ b):AsSuiteRaised! QAAQNd X.fN nb8QDwQAm {s with ρ:=h1}:=by
 let((t0,eO),_,_):=I.rv e_lF;let fr:∀b∈oJ X.US,∃o,s.ρ.Ξ b=δo/\∀vs,o.mY≠.xq vs:=LA I.US;let F:∀bo,s.ρ.Ξ b<*o->QQb->b≠e:=λbozty=>by
  rw[y,eO]at z;cases z;show t_ζ
 let ab:h1.V_ X.υ QBr:=eZ▸I.US.of_keeps λbozt=>(o,(a b^Fbozt).ξ z,0);let hG:∀b∈oJQBr,b∈e::oJ X.US:=λbj=>qO_ (eZ▸j);unfold AsSuiteRaised!;show M7 (s:={s with ρ:=h1}) QTS ?_;unfold noteFrame!;simp only[f];show lT (qUe1Of1 ?_);rw[mF (!0)];show wpAny_entryW! (s:={s with ρ:=h1}) (υ:=zSh1QQX) (b7:=X.b7) (by change X.A.Xe=_;rw[<-eZ];show I.ok.Xe) (L9 ab hG) fe1QGK (I7_cG) O (pV.Vq.mp f1).1 f0 λh2JAjO=>?_;let(n1,_,(D,ws,T,oT,ts,Y,(g2,R),u,Q,nh!,r,U9,dT,h3),rt!):=JA;let up:s.ρ.UpToSlots h2:=λbozt=>rt! bo ((a b^Fbozt).ξ z) t;let J:f'XaIσQFF {s with ρ:=h2}:=I.sink lF (λboznj=>n1bo^DW_ ((a b n).ξ z) λM=>(u3.mp M).Q5 nj) up (D,Y);let an:T∉oJ X.US:=λM=>by
  let(o,z,hd):=fr T M;let(vU,z2):=up Toz hd;rw[U9]at z2;cases z2;show hd tsdT
 let p:s.ρ.Ξ T=ε:=by
  cases z:s.ρ.Ξ T with
  |ε=>rfl
  |δ o=>
   rw[DW_ ((a Tr).ξ z) λM=>(u3.mp M).Q5 r an]at nh!;cases nh!
 let nl!:∀bo,h2.Ξ b<*o->QIj->b≠X.fN.hl:=λbozeFy=>by
  let(vs,dO):=eF;let(m,(o',es,eP,U,P,_),_):=J.loc;rw[y]at z;let U:h2.Ξ X.fN.hl<*o':=U;rw[z]at U;cases U;rw[dO]at P;cases P
 show J.goes2 eRg6hZ λg AG_K=>?_;let e3:g.ρ.Ξ e<*D:=(AG.2 e^nl! eD Y (_,u)).ξ Y;let Ef!:g.ρ.Ξ T<*oT:=(AG.2 T^nl! ToTU9 (_,dT)).ξ U9;let c:3<ts.fC:=(pV.Vq.mp h3).1;let off:∀QJx(x:η)b,b≠T->(h.ei T (WS (·.Um 3 x))).Ξ b=h.Ξ b:=λhxbj=>y1__^Ne.UH j;let YX!:=xF (WSQET) Ef!^P4^BOdT_;let Z:=BOdTQET;let T_!:=xFQDc YX!^P4^BOZ_;let d5:=BOZ (·.Um 3 η.ε);let e4:=(off g.ρ (oV X.fN.hl) e^Ne.UH r).ξ e3;let e5:=(off _ η.ε e^Ne.UH r).ξ e4;let S:X.xe QAm {g with ρ:=g.ρ.ei T^WSQET}:=by
  rw[l];unfold ZG;show lT (wpAny_noteFrame_againW! (υ:=zSh1QQX) f (D,ws,T,7,e4,(g2,R),u,Q,nh!,r,YX!,Z,by simp[c]) ?_);unfold setFlight!;show lT (qUe4uQ ?_);rw[mG^show QVr=π from by simp];show LN YX! Z (by simp[c]) ?_;let B:∀b,b≠T->((g.ρ.ei T^WSQET).ei TQDc).Ξ b=g.ρ.Ξ b:=λbj=>(off __bj).ξ^off __bj;let L:z9He T=ε:=by rw[yNr];show OI I.rv p
  let V7:=K.υ;rw[c9]at V7;show⟨e,T,.ο C,a0,d.Tx (·,ν,),z9He,ζ,K.os,K.pH,Rr! V7 (B4Ic9p) B,Rs K.rv LB,d0,B4Ic9p,K5,L,(D,ws,7,e5,(g2.ξ c1,R),u,Q,r,T_!,d5,by simp[c],λx z=>by
   let(y,d7,ζ):=r7z;let(o',w1,w2):=jOe W^GJe1;rw[GJY]at w1;cases w1;show((oR Prod.fst w2).ξ^al.ξ d7,λz=>nomatch z)),q⟩
 unfold Δ.passOn;show lT (qUe3uQ ?_);rw[mF^show ¬ ((η.ο T==η.ε)=π)from by simp];let step:lZQAAQNd (do setFlight! QAm X.fN.fm;throw! (η.ο e):Sem Flow!) QGzQDwg:=by
  unfold setFlight!;rw[f];show lT^lT (qUe3uQ ?_);rw[mG^show QVr=π from by simp];show LN Ef! dTcQLK;rw[l];rw[l]at S;show PassesOwnAt.ZG __ S
 first
  |show lT^mR step
  |show step
end
section
variable{P:nA}{w:o4}{A:o7}{E:η->Θ->Prop}
variable{nm q:bE}{C N:θ}{bs bm:γη}{r5:b9}{sn:γbE}{hG:γη}{ab:b9}{col:ψb9}{dd:ψθ}{k0k1k2k3k5:ψη}
def RK!(f:bm.Hr^.TB "BaseException"=π)(r:A.T6<*.ο h)(t:∀(R:η->Θ->Prop)a,R .ε a->lZ (oPPw) Ac R Ea)(y:lZ (oPPw) Ax (λv a=>∃ed2a0,v=.ο e/\a.ρ.Ξ C=δ^X3 nm qC Nbs bm r5 sn hG ab col dd k0k1k2k3k5 "ValueError.__new__"/\a.ρ.Ξ e=δ^AICd2a0/\Rq! a.ρ h .ε/\e≠h/\e≠C/\
   ∀h1:n3,h1.Ξ e<*{AICd2a0 with mY:=.xq #[a0,.ε,.ο h,.ε,.bC π,.ε]}->(∀b,b≠e->h1.Ξ b=a.ρ.Ξ b)->E (.ο e) {a with ρ:=h1}) E s):lZ (oPPw) A (raiseStmt! fN (δx)^δc) Q E s:=by
 let j:(η.ο C::bm).Hr^.TB "BaseException"=π:=by rw[γ.contains_cons,f,b9.or_true]
 unfold raiseStmt!;show lT (pWy (λv ah1=>?_) λ__z=>z);let(e,d2,a0,ζ,o,m,B,l,p,u):=h1;let(b5,g,d,M,os):=a;show lT^tO^t__^lTQBp;repeat (first|with_reducible show X1m ?_|with_reducible show X1o ?_|(with_reducible show wpAny_isSubtype_exc! o ?_;rw[j])|wp_step)
 let F:=xFQDcmQIV;let n:=xFQNeFQIV;let k:∀b,b≠e->((b5.ei eQDc).ei eQNe).Ξ b=b5.Ξ b:=λb i=>(y1__QHm).ξ^y1__QHm;let(O,L,J,I,H):=B;let D:=xFQPnnQIV;show mn! r ((khQQc).ξ J) IHQQcnζ (!1) ?_;show u_D λb i=>(y1__QHm).ξ^kbi
end
abbrev K_! QLB QBg QAw QAy QRH QFO(fd:uP)QGU QPc:Prop:=
 ∀(A:o7)(v:η)QERQCD QAH(args:Args!)QEYQAJQARQE4,A.T6<*v->A.depth<recursionLimit!->AZPwK mg υ Ab7sH->BindsTo! s fd args QFP->oGvsus->sp vsHQ E->
  wI QBE A (.wG QAr args) (rr! msb7PwH sQ E) s
section
variable{P:nA}{w:o4}{K:qI}{mg:bE->ψη}{υ:n3}
def nE.okH{st:cZ}(F:nEKxbA st f fd)(S:n9Nps^hY st)(eN:∀vsHQ E,MvsHQ E->vs.β=ps.β)(i:∀(bY:η)(A:o7)(b7:γ Env)(s:Θ)(H:m1)(vs:γ V)(Q:oE)(E:r3)(v:η),MvsHQ E->
   ∃t,tR ((aWmsPwK mg υ NbA (hY st) fbYAb7sH E).held v) (nR st) t/\t {pO:=λ_H'=>Q .vS H',CF:=Q} (ZRNvs) H):K_! PwK mg υf fd psM:=by
 let(uF,z5,kV,cR,pm,an,bY,ct,X,ζ,lk,C):=F.ex;intro Avb7sH TusvsQ ELBacYrk;let eG:=eN____k;let U:K.In s.ρ:=a.mod.kin.hL λboe=>(a.bs boe).1;let p:s.ρ.NoLimit:=a.mod.nolimit.hL λboe=>(a.bs boe).1;let g:∀y∈ps.zip us,(hY st).TW.ς y.1<*.local\/((hY st).TW.ς y.1=δ .aQ/\((cellsFrom! QBP (hY st).TW []).ς y.1).BC=π):=λD Y=>by
  let(n,v):=D;rcases S.par n (of_mem_zip! Y).1 with q|q
  .exact .UR q
  .exact .P2 QIB
 show eC! B (U__ lk) ζ S.co S.gen ζ (Δ.W.codeRec_of UC) QFQ;show wpAny_newFunctionEnv_cells! S.XA g λfN he Ox=>?_;subst he;show(p.hL x.toInCall.AP,codeAny_func! ?_);let(t,Z,e9):=ibY ({A with T6:=ε}:o7) b7sHvsQ E vk;let Bp!:f' (aWmsPwK mg υ NbAQIgfbY ({A with T6:=ε}:o7) b7sH E) [] QL'H O:=H_! Sζ (a.Xe,a.mod,a.bs,a.bsz,a.funs,a.frf,a.rv,a.pH) eGrx;let I:=Bp.held v;let Y5:((aWmsPwK mg υ NbAQIgfbY ({A with T6:=ε}:o7) b7sH E).held v).A=A.jq^envOfC bAQIg s⁻¹ fbY:=by
  let(h,d,fr,gd!,un):=A;let L:h<*v:=L;subst L;rfl
 let R:=Z [] OQL'H_ Ie9;rw[Y5]at R;show pWR (λj6s'j=>?_) λe s'j=>j.Q5;let l:∀{c:St}QFs{z:V}{u:η},f' ((aWmsPwK mg υ NbAQIgfbY ({A with T6:=ε}:o7) b7sH E).held v) [] cH's'->nTzu->Qz H'->CEb7PwH sQu s':=
  λ{cH'zu}Jmq=>(z,H',J.os,J.pH,J.υ,J.rv,m,q)
 cases j6 with
 |ret u=>
  let(v,c,H',J,m,q):=j;show l Jmq
 |next=>
  let(c,H',J,q):=j;show l (z:=V.vS) (u:=η.ε) Jζq
 |brk=>
  let(_,_,_,q):=j;show oA.Q5 q
 |cont=>
  let(_,_,_,q):=j;show oA.Q5 q
end
section
variable{X:n8}{aI:γQA8}{σ:St}{H:m1}{s:Θ}{fC:θ}{fd:uP}{ps:γbE}{sp:wY}{k:χ}{tbW:w4}{E:r3}
def z_!{Q:oE}(S:X.ex=[])QI_(Z:isFn X.K QAr=π)QHn QHT(U:q4k X.A)(Y:p6 X.K fd ps [])QUf QGb(T:us.β≤Φ)(h:∀e,He=ε->sp QMWQE9QNZfA):lZQAAQNdQL_ (λu s'=>∃eH',u=.ο e/\X.Xy.ρ.Ξ e=ε/\f'QFMaIσH's'/\Q QAmH') QGzs:=by
 let(bm,N,nm,iA,bs,r5,sn,hG,ab,col,dd,k0,k1,k2,k3,k5,mN,cO,P,R,J):=M.obj (show X.K.In s.ρ from I.kIn);obtain⟨j,fO,R2⟩:∃j,s.ρ.Ξ f=δj/\j.dM=.TB "function":=by
  let(o,q,e):=r7 (show ψ.Tx (λx:pZ=>x.dM)^γ.ς f X.K<*.TB "function"from T8.mp Z);show(o,(show X.K.In s.ρ from I.kIn) __q,e)
 let(jP,g,d,i,os):=s;show nw! JcOP RfOR2T λh'eB mk=>?_;let(t0,D,vV,qX!):=mk.Xq;let m:f'QFMaIσQE9 (h',g,d,i,os):=I.laid (a:=e) (o:=rMeCε) (h':=h') (t':=i) mk.hL B ((_,D),(_,D),λh1h2lk=>by let(z,q):=l;show QUt);let p:=h e^I.rv.ax B;let n:oG (V.ο e::vs) QFE:=.nF ζr;let W:(η.ο e::us).β=ps.β:=by
  let z:=n.β;rw[eN____p]at z;show z.UH
 let c:=Y (h',g,d,i,os) QFE (show X.K.In h' from m.kIn);rw[vP]at c;show zO (BS (F_v X.US __QVjQFE__fAζ ?_ (m.env0.make Cus []) (c W) n p) λr s'b=>?_)
 .rw [gj!];have:=U.kE;change X.A.depth+1<_;lia
 cases r with
 |G2 y=>show b.Q5
 |ok j6=>
  cases j6 with
  |ret u=>
   let(z,H',zG,L,y,O):=m.after b;subst y;show(L,e,H',0,B4 (X:=X.held v) I S mk.new,zG,O)
  |next=>show oA.Q5 b
  |brk=>show oA.Q5 b
  |cont=>show oA.Q5 b
abbrev Rt! QPc QHR:QJZ->oW:=λGDσH=>tσH λvsH1=>sp vsH1 (λvbF=>D.CF vbF)^Gσ
def Ru!{pib8:nV}(F:rP X.Ω X.w X.K X.mg X.υ gkps sp)(l:q4k X.A)(o:qT X.nox (e::a) t)(m:pUXg>>>4)(c:((g==("__debug__":bE))=ν)>>>0)(n:QEa>>>4)(b:((pNi^Ψa X.fN).I9 QBA=ν)>>>4):PX! X (.Return (δ^.Wm (.Ip gp) (e::a) [] i) b8)^Rt! sp t:=by
 intro aIsσHD G Ih;show wpAny_Return_some! (pW (BX! Flomcnb Ih) (λvud=>?_) λ__z=>z);let(w,r,q,j,q1):=d;show(w,σ,r,q,j,q1)
abbrev QR(Ce:θ)(fF:η)(x0:θ)QE4:oE:=λvH=>match v with
 |.ο e1=>∃d',e1≠e/\He1=δ^rMe1Cd'/\He=δ^ANefF^δ (x0,π,)/\EQAkQLL^z9He1
 |_=>oA
abbrev ST QAw QGE QAu(spx!:wY)(bW:w4)QE4 QCC:r3:=λfFdbF=>exmOne KfFQAk=δπ/\∃x,d=δ (x,π,)/\∀e,bFe=ε->bWQTU (mEbFe^ANefFd) λwsbJ=>ws.β≤Φ/\∀e1,bJe1=ε->
 spx! (.ο e1::ws) (mEbJe1^rMe1Cε) (λvcM=>v=.vS/\∃d',e1≠e/\cMe1=δ^rMe1Cd'/\cMe=δ^ANefFd/\EQAkQLL^z9cMe1) fA
abbrev Rv! QAw QGE QAu(spx!:wY)(bW:w4)QE4(τ:QJZ->oW):oW:=λDσH=>τ (STKCi spx! bWE) DσH
def AL!{st:cZ}{np Wbrub8fR:nV}QMw(Z:X.ex=[])QB'(y:X.fN.fm<*X.fN.hl)(Y:X.xe=λev s'=>lZQAA X.A QQa (λ_m=>tP X.Ω X.w X.b7 X.H₀ X.Xy E ev m) (λe'm=>tP X.Ω X.w X.b7 X.H₀ X.Xy Ee'm) s')(eR:X.N.qg)QPT QHY(eG:yJ X.fN.g8 n)QH3(gE:pUXx)QUv(hd:(x==("__debug__":bE))=ν)QI_ QJw QHn QHT(cT:q4k X.A)QSS(eM:∀v,qTQFM (L::p) bW)QPz(he:(Ψ (L::p) X.fN=(ν,oFL X.fN,)::Ψp X.fN)>>>4)(eF:((pNb^Ψp X.fN).I9 QBA=ν)>>>4):w0X (.Try [st] [.ExceptHandler QMF (δn) [.Raise (δ^.Wm (.Ip x W) (L::p) [] b) (δ^.Constant .ε jfR) r] u] [] [] b8)^Rv! X.K Ci sp bWEτ:=by
 intro aIsσHD Iq;show wpAny_Try_except! (pW (Eb! h Iq) (λf s1q=>?_) λev s'⟨l,H',s1,J,iE⟩=>Ll! ZeZyeRg6hZeG hf gE hm (λefFdbFs5q2g9d0I5=>?_) JiE hd)
 .cases f with
  |next=>show YZq
  |ret v=>show q
  |brk=>show q
  |cont=>show q
 let(S,ζ,q2):=q2;let h0:=q2eg9;let IH!:=I5.held^.ο e;let(bm,N,nm,iA,bs,r5,sn,hG,ab,col,dd,k0,k1,k2,k3,k5,mN,cO,om!,Ac!,fS):=M.obj I5.ok.mod.kin;let C':∀{l:St}{H':m1}{s':Θ},f' (X.held^.ο e) aIlH's'->s'.ρ.Ξ C<*X3 nm iAC Nbs bm r5 sn hG ab col dd k0k1k2k3k5 "ValueError.__new__":=λiY=>iY.hU __cO;show Z8 ?_;rw[arm_exec_Raise!];show lT^F9 (RK! (C:=C) (nm:=nm) (q:=iA) (N:=N) (bs:=bs) (bm:=bm) (r5:=r5) (sn:=sn) (hG:=hG) (ab:=ab) (col:=col) (dd:=dd) (k0:=k0) (k1:=k1) (k2:=k2) (k3:=k3) (k5:=k5) (h:=e) (fS.hasType nr.hasBase) ζ ?_
  (lT^pW (E:=λ__=>oA) (wpAny_Call_ofName! (CG (X:=X.held^.ο e) IH! gE hm ?_ hd)) (λv s3h3=>lT^F9^mRh3) λ__z=>z.Q5))
 .intro R s1hR;show lT^Constant_none!^lT^F9^mRhR
 let hA:=eMQAmbaIs5___ IH! h0;let U:(pNb^Ψ (L::p) X.fN).I9 QBA=ν:=by rw[he];change (ν||(pNb^Ψp X.fN).I9 QBA)=ν;rw[eF];rfl
 unfold callWith!;show lT^tO (pW (Q:=λ(a:Args!)s2=>a.kw=[]/\∃vsP,f' (X.held QAm) aI (l.X6 i^δ^V.ο e) P s2/\oGvs a.b8/\vs.β≤Φ/\∀c,Pc=ε->sp (.ο c::vs) (mEPc^rMcCε) (λv O=>v=.vS/\∃d',c≠e/\Oc=δ^rMcCd'/\Oe=δ^ANefF^δ (S,π,)/\EQAkQLL^z9Oc) fA) ?_ QOt λ__z=>z)
 .rw [he]at hA⊢;show YL.Yt (nb hA λuss2fJ=>by let(vs,bF,jR,r2,eG,q):=fJ;show(0,vs,bF,jR,r2,eG,q))
 let(g,eI):=a;let(ap,vs,P,zG,RE,an,Sd!):=h2;obtain ζ:eI=[]:=ap;let(dS,g2,d2,eW,aA):=s2;rw[U];show lT (wpAny_keeperOf_exc! (C'zG) ?_);show lT (pW (z_! (Q:=QR CefFS E) Z M fn FeNcTcYzGRE (by change g.β≤Φ;let z:vs.β=g.β:=RE.β;rw[<-z];show an) λc al=>Sd! c al) (λv s3dO=>lTQPl) λ__z=>z);let(c,O,ζ,as,B,d',ne,h1,h2,qE):=dO;let((t0,eO),_,_):=B.rv c_h1;let((H5,g1,g2,(T,g3),AE),_):=B.rv e_h2;let o:=(AE (S,π,) ζ).2 ζ;show(c,d',.ο t0,0,C'B,eO,(H5,T,g1,g3,3),ne,λz=>?_,λdNdIhs=>?_)
 .unfold rU at o;rw[g3]at o;show o
 .rw [z]at eO;have:=(C'B).UH.ξ eO;cases this
 show oj! ZeZyeRg6hZY (B.unheld I.ok) h1 as qE dI ζ ζ ζ ζ ζ hs
end
section
variable{M:Model!}{A:o7}{E:η->Θ->Prop}{s:Θ}{υ:n3}{fN:Env}{b7l:γ Env}{Le:θ}{dMa0j6:η}
def DK!(k:A.Xe<*(fN::b7))(m:fN.fm<*L)QT0(d:υ.Ξ e=ε)(q:s.ρ.V_ υ (fN::b7))(j:s.ρ.TracedAtW υedMa0j6)(u:∀h',n3.FlyingW υb7edMa0h'->s.ρ.UpToSlots h'->Q () {s with ρ:=h'}):lZM A (ZGfNQAm) Q E s:=by
 by_cases b:j6=oVL
 .subst b;unfold ZG;show lT (wpAny_noteFrame_againW! mj ?_);show wpAny_landsW! (l:=fN::b7) (h,d,q,j) λh'bw=>?_;let(k1,k2,(_,_,k3),i):=b;show uh' (k1,k2,k3,i) w
 .obtain ⟨C,vs,T,D,ts,r,⟨a,B⟩,t,h1,x,n,p,dT,v⟩:=j;subst a;unfold ZG noteFrame!;simp only[m];show lT^lT (qUrth1 ?_);rw[mG (!1)];show lT (qUpdTv ?_);rw[mFQTs];show lT (LNpdT (pV.Vq.mp v).1 ?_);let off:∀c,c≠T->(s.ρ.ei TQDc).Ξ c=s.ρ.Ξ c:=λc a=>y1__QJQ;let g:∀c o,s.ρ.Ξ c<*o->QQd->c≠T:=λc oafz=>by
   rw[z,p]at a;cases a;show ftsdT
  show wpAny_newEntryW! (υ:=υ) k (q.of_keeps λc oaf=>(o,(off c^gcoaf).ξ a,0)) m ((off e^Ne.UH n).ξ r) (λc oa=>(off c λz=>by rw[z,x]at a;cases a).ξ^hcoa) dt
   (pV.Vq.mp h1).1 B λh'y=>?_
  let(k1,(_,_,k2),k3,i):=y;show uh' (k1,d,k2,k3) λc oaf=>ico ((off c^gcoaf).ξ a) f
def wj!{Q:p->Θ->Prop}QT0(B:s.ρ.V_ υl)(y:s.ρ.TracedAtW υedMa0j6)(C:∀h'n,υ.StaysIn h'->h'.V_ υl->h'.TracedAtW υedMa0n->s.ρ.UpToSlots h'->h'.Ξ e=s.ρ.Ξ e->EQAm {s with ρ:=h'}):lZM A (Δ.passOn what! QAmw:Sem p) Q E s:=by
 let(x,vs,T,F,ts,i,a,j,h1,r,b,k,dT,D):=y;let off:∀vc,c≠T->(s.ρ.ei T (WS (·.Um 3 v))).Ξ c=s.ρ.Ξ c:=λvca=>y1__QJQ;let d:∀c o,s.ρ.Ξ c<*o->QQd->c≠T:=λc oagz=>by
  rw[z,k]at a;cases a;show gtsdT
 let t:=(pV.Vq.mp D).1;unfold Δ.passOn;show lT (qUijh1 ?_);rw[mF (!1)];let m:∀v,lZM A (setField! (.ο T) 3 v) (λ_ s'=>EQAms') E s:=λv=>by
  show LNkdTt (C_v (λc oa=>(off vc λz=>by rw[z,r]at a;cases a).ξ^hcoa) (B.of_keeps λc oag=>(o,(off vc^dcoag).ξ a,0)) ?_ (λc oag=>(o.slots,(off vc^dcoag).ξ a))^off ve^Ne.UH b);show(x,vs,T,7,(off ve^Ne.UH b).ξ i,a,j,h1,r,b,xF_k^P4^BOdT_,BOdT_,by simp[t])
 let u:∀f,lZM A (setFlight! QAmf) (λ_ s'=>lZM A (throw! QAm:Sem p) Q E s') E s:=λf=>by
  unfold setFlight!;show lT (qUijh1 ?_);rw[mG (!1)];show pW (m_) (λ__q=>wpAny_throw! q) λ__q=>q
 first
  |show lT^mR^lT^u_
  |show lT^u_
end
def gQ!{hh'υ:n3}:∀{l:γ Env},h.V_ υl->(∀b∈oJl,h'.Ξ b=h.Ξ b)->h'.V_ υl
 |[],_,_=>trivial
 |fN::r,i,a=>by
  let(j,(L,o,c,g,f,k),d):=i;let e:oJ (fN::r)=L::oJr:=by unfold oJ;rw[Zs,c]
  show(j,(L,o,c,g,(aL^by rw[e];show cG).ξ f,k),gQ! d λb m=>a b^by rw[e];show qO_m)
section
variable{X:n8}{E:r3}
abbrev ZT(XkN:n8)QE4:η->Θ->Prop:=λev s'=>∃aIσH s,f'kNaIσH s/\tP X.Ω X.w X.US H s E ev s'
def Ft!{Yb:n8}(d:Y=b.wish^ZTXb E)(h1:(b.Ω=X.Ω)>>>4)(h2:(b.w=X.w)>>>4)(e:(b.US=X.US)>>>4):AO (tP Y.Ω Y.w) Y E:=λa cH s__ If=>by
 subst d;show(a,c,H,s,I.Z_,3);rw[<-h1,<-h2,<-e];show f
abbrev cn! QDl QE4:Prop:=X.ex=[]/\X.US=X.fN::X.b7/\X.fN.fm=δ X.fN.hl/\
 ∀ev s',lZQAA X.A QQa (λ_ s''=>tP X.Ω X.w X.b7 X.H₀ X.Xy E ev s'') (λe' s''=>tP X.Ω X.w X.b7 X.H₀ X.Xy Ee' s'') s'->X.xe ev s'
def kH!{k:γQA8}{σ:St}{bF:m1}{s2:Θ}{bN:γθ}{C:θ}(O:cn! X E)(jR:f'XkσbFs2)(f2:∀b∈bN,QCS/\b≠X.fN.hl/\QBl/\∀p∈X.pn++k,p.1≠b)(dJ:s2⁻¹≤C)(h:ZTX {rFXx sc cl CbNs2bF with N:=UV} E ev s'):notedBy! QAA X.A (compEnvC! sc cl C X.fN) (λeaS=>compPost! QAA X.A X.xe usQ b4C (.G2 e) aS) ev s':=by
 let(c9,eZ,as,a7):=O;let(aT,bP,H1,s1,kM,e,T,hE,a0,dd,H',ζ,os,M,un,H,i8,dT,he,hT,N6,q):=h;let ab:rJQCNbNbFH1 s2.ρ s1.ρ:=kM.υ;let a:rJQCNbNbFH' s2.ρ s'.ρ:=ab.ξ^un.Hu QU2QAC;let aU:s1.os=s2.os:=kM.os;let R:s'.os=s2.os:=os.ξ aU;let zG:f'XkσH's':=jR.call' RaH Mf2;let nC:C∉oJ X.US:=λhm=>by
  let(o,dI,_):=LA jR.US C hm;show mW (oNdI)^not_lt.Ui dJ
 let i3:∀b∈oJ X.US,H'b=ε:=zG.stkFree;let(m,(iU,es,eP,I,bd,rC!),_):=kM.loc;let I:s1.ρ.Ξ C<*iU:=I;let j3:H1C=ε:=kM.VC;let eF:s'.ρ.Ξ C<*iU:=un.AP CiUIj3 nC (!1);let HC!:H'C=ε:=un.VC CiUIj3 (!1);let j0:e≠C:=λz=>by rw[z,I]at i8;cases i8
 let(j,g,d,j8,S):=s';let R:S=s2.os:=R;let a:rJQCNbNbFH' s2.ρ j:=a;let H:y' X.Ω X.w H'j:=H;let un:rJQCN [] H1H' s1.ρ j:=un;let N6:FSje ThEa0 dd:=N6;let eF:j.Ξ C<*iU:=eF;let aM:j.V_ X.υ QBr:=eZ▸zG.US;let eI:X.A.Xe<*QBr:=by rw[<-eZ];show jR.ok.Xe
 let j6:n3.FlyingW (zSjQF5) QBrehEa0j:=
  (λboz=>of_hideAll! _z,I7_ (!1),L9aM (by rw[<-eZ];show λbz=>qO_^qO_^qO_z),N6.traced QSE)
 let Z:(zSjQF5).Ξ C=ε:=I7_ (!1);let J:∀bo,j.Ξ b<*o->b≠e->b≠T->b≠C->b∉oJ X.US->(zSjQF5).Ξ b<*o:=λbozh1h2h3P=>DW_z (by simp[h1,h2,h3,P]);generalize gF:zSjQF5=B at j6 Z J;let bi:∀b,B.Ξ b=ε->b≠e->b≠T->b≠C->b∉oJ X.US->j.Ξ b=ε:=λbzh1h2h3P=>by
  cases y:j.Ξ b with
  |ε=>rfl
  |δ o=>rw[Jboyh1h2h3P]at z;cases z
 change lZQAA X.A (noteFrame! QAm X.fN) ___;show M7 (s:=(j,g,d,j8,S)) QTS (wpAny_looks_onW! (υ:=B) eI as j6 λh1a9 up1! i4=>?_);let fJ:h1.Ns Cm:=up1.ns (iU,es,eP,eF,bd,rC!);show(m,fJ,λh2AGbM_=>?_);let(k1,k2,k3,k4):=a9;let g1:B.StaysIn h2:=λboz=>(AG.2 b λy=>by rw[y,Z]at z;cases z).ξ^k1boz;let g3:h2.V_ BQBr:=gQ! k3 λbt=>AG.2 b λy=>nC (by rw[<-y,eZ];show t);let AE:h2.TracedAtW BehEa0^oV X.fN.hl:=by
  let(H5,vs,lA,oT,ts,NZ,y2,O',Yc!,y5,av!,kp!,Eh!,KD!):=id k4;let i5:lA≠C:=λz=>by
   let(o',b2,b3,a8,g7,_):=fJ;rw[z,a8]at kp!;cases kp!;rw[g7]at Eh!;cases Eh!
  show(H5,vs,lA,oT,ts,(AG.2 ej0).ξ NZ,y2,O',Yc!,y5,av!,(AG.2 lAi5).ξ kp!,Eh!,KD!)
 show wj! (υ:=B) (l:=X.fN::X.b7) g1g3AE λh3b1 IC! kX! Uw! dNa6=>a7__ (M7 (Ab! __)^DK! (υ:=B) eI as IC! k2 kX! Uw! λPqPdSbs=>?_);let(i1,i2,UI,Fj!):=qP;let F:∀bo,j.Ξ b<*o->b≠e->b≠T->b≠C->b∉oJ X.US->P.Ξ b<*o:=λboza1a2a3a4=>i1bo^Jboza1a2a3a4;let an:∀bo,b≠C->j.Ξ b<*o->QQb->∃vU,P.Ξ b<*{o with slots:=vU}:=λbohUz hd=>by
  let(bU,e1):=up1! boz hd;let(bS,e3):=dNb_ ((AG.2 bhU).ξ e1) hd;let(aN,e4):=dSb_e3 hd;show(aN,e4)
 let D:∀bo,s2.ρ.Ξ b<*o->b∉bN->b≠e/\b≠T/\b≠C:=λbozL=>by
  let(o1,U):=ab.Xq bozL;show(λy=>?_,λy=>?_,λy=>?_)
  .rw [y,i8]at U;cases U
  .rw [y,dT]at U;cases U
  .exact mW (oNz) (not_lt.Ui^by rw[y];show dJ)
 let eW:∀b∈oJ X.US,∀o,s2.ρ.Ξ b<*o->∀vs,o.mY≠.xq vs:=λbtoz=>by
  let(o',TQ!,hd):=LA jR.US bt;rw[z]at TQ!;cases TQ!;show hd
 let fM:rJQCNbNbFH' s2.ρ P:=by
  show(λbozntL=>?_,λbozntL=>?_,a.VC,λbozL=>?_,a.Xk,a.frzs,a.tbls)
  .obtain ⟨a1,a2,a3⟩:=DbozL;show Fbo (a.AP bozntL) a1a2a3t
  .obtain ⟨a1,a2,a3⟩:=DbozL;let(vU,U):=a.slot bozntL;let(ap,z2):=an b_a3U^eWbtoz;show(ap,z2)
  .obtain ⟨a1,a2,a3⟩:=DbozL;let(o1,U):=a.Xq bozL;by_cases t:b∈oJ X.US
   .obtain ⟨vU,z3⟩:=a.slot boz (jR.stkFree bt) tL;let(ap,z2):=an b_a3z3^eWbtoz;show(_,z2)
   .exact (o1,Fbo1Ua1a2a3t)
 let Y:y' X.Ω X.w H'P:=λbuz=>(Hbuz).Zx (λcve8y=>by
  let i6:∃RN,H'c<*RN:=by
   rcases e8 with f|f
   .exact (u,by rw[f];show z)
   .exact (_,f)
  let(RN,W):=i6;show FcvyQQeQQeQQeQQe
  .rw [f,he]at W;cases W
  .rw [f,hT]at W;cases W
  .rw [f,HC!]at W;cases W
  .rw [i3cf]at W;cases W) (λ_y=>y) λ__y=>y
 let hy!:f'XkσH' (P,g,d,j8,S):=jR.call' (s':=(P,g,d,j8,S)) RfMY Mf2;let i:∀b,s1.ρ.Ξ b=ε->X.Xy.ρ.Ξ b=ε:=λbz=>by
  cases y:X.Xy.ρ.Ξ b with
  |ε=>rfl
  |δ o=>
   let(o2,r2):=jR.υ.Xq boy (by rw[c9];simp);let(o1,r1):=ab.Xq bo2r2 λhm=>by
    rcases(f2b hm).1 with f|f
    .rw [c9]at f;cases f
    .exact mW (oNy)^not_lt.Ui f
   rw[z]at r1;cases r1
 let(jS,a5,al):=ZM Fj!;let aA:X.Xy.ρ.Ξ jS=ε/\H'jS=ε:=by
  let bm:jS≠e:=by let(_,_,_,_,_,_,_,_,z,_):=al;show z
  by_cases f:jS=T
  .rw [f];show(i TdT,hT)
  by_cases w2:jS=C
  .rw [w2];show(3,HC!);cases y:X.Xy.ρ.Ξ C with
   |ε=>rfl
   |δ o=>show mW (oNy)^not_lt.Ui^n5 jR.sz dJ
  let dW:=KG al hy.US;let z:=bi jSa5 bm fw2dW;show(ijS ?_,OIHz);cases y:s1.ρ.Ξ jS with
  |ε=>rfl
  |δ o=>
   let(o',r):=un.Xq jSoy (!1);rw[z]at r;cases r
 let V7:=hy.υ;rw[c9]at V7;let(aV,_,_,_,HE,_,_,_,_,_,_,_,u2):=N6;let(b0,v1,v2):=i4eaV^GJHE;let(bV,_,_,_,_,NZ,_):=k4;rw[GJNZ]at v1;cases v1;let O':=a6.ξ^(AG.2 ej0).ξ NZ;show(e,jS,hE,a0,dd,H',0,hy.os,M,V7,Y,iei8,aA.1,he,aA.2,al.up bsO'^λx z=>(u2xz).of v2,q)
end
section
variable{X:n8}{elt qF:bI}{x:bE}{g4b8:nV}{ifs:γbI}{sc:qA}{qJ:TI}{tt:TT}{eJ:TE}
end
def Rw!{P:nA}QGa QC1 QEN{υ:n3}QVS:cn! (aWQBiPwK mg υ NbAafb Ab7sH E) E:=(5,0,λ__h=>h)
section
variable{X:n8}{elt qF:bI}{x:bE}{g4b8:nV}{ifs:γbI}{sc:qA}{qJ:TI}{tt:TT}{eJ:TE}
def mr!(i:γbE){Ug:nV}(O:cn! X E)QUI QN0(q:(x::i).qg)(i':X.N[j]?<*y)(z:yJ X.fN.g8 y)(g6:vZXQH4qFqJ)(n:∀(P:γQBH)QGE(M:γθ)QCDQAH,FR {rFXx sc PC M sH with N:=x::i} ifs tt/\mP (({rFXx sc PC M sH with N:=x::i}:n8).wish^ZTX {rFXx sc PC M sH with N:=x::i} E) elt eJ)(c9:QB0>>>4)QNW(d:QAW>>>3)(c:QBw>>>3)(l:QAT>>>4)(B:((i.u7 λy=>sc.TW.ς y != δ .local)=π)>>>4)(F:(i.β=X.N.β)>>>4)(w:(((i.zip X.N).u7 λy=>y.1==y.2||sc.TW.ς y.1==ε)=π)>>>4)(hs:QA7>>>7)(A:(Z'QAi (δ^.Ip y U) g.Zm X.fN=pure π)>>>4)(L:QIS>>>8):w0X (.Assign [.Ip y U] QAig)^aRQG0^rZj:=by
 intro Z s TH DD! Ih;show Br! A λ_=>RP (xx:=λY=>ZTX Y E) (fnx:=λ_=>ν) (Q:=λvt=>rZjv Tt DD.pO) (ns:=[x]) (gx:=λy_vs=>vs=[y]) ie8qg6n (J3q (.UR^MZc9)^.P2^MZc9) a d (J2ac) (λyhe=>mWe^cyh) UU (T5.Ui λyd7=>by rw[T5.mp lyd7];rfl) B FwhsIh (λJtrDdA=>?_) (λSouk RiA=>qv! JAi'zL Souk RiA) λSokf=>kH! O S (λb n=>((obn).2.2.2.1,(obn).2.1,(obn).2.2.2.2.1,(obn).2.2.2.2.2)) kf;let(W,m,p):=rDdA;show(W,m,J4 (Q:=λvt=>rZjv Tt DD.pO) p)
end
inductive hx!(C:ι->θ)(m:bE)(sp:ι->wY)QE4 QAR(x:V)QD4:Prop
 |mk (ia dx fs:_) QEq (_:H1a<*.TM (Ci) dx fs) (_:fs.ς m=ε) (_:sp i [x] H1Q E)
abbrev vq!{ι:Type}(C:ι->θ)(m:bE)(sp:ι->wY)QE4(bW:TE):TE:=λσHQ=>bWσH^hx! Cm sp EQ
section
variable{X:n8}{r0:CXT}{k:χ}{ps:γbE}{E:r3}{mx:bE}{pb8 apos:nV}{oe:bI}{bWeJ:TE}{ι:Type}{Cf:ι->θ}{fd:ι->uP}{sp:ι->wY}
def o_!(D:mPXobW)(c:∀i,zV X.K^Ci)(j:∀i,M3 X.K (Ci) m^fi)(F:∀i,mT X.Ω X.w X.K X.mg X.υ r0k (fi) (fd i) ps^sp i)(B:q4k X.A)(J:∀i,p6 X.K (fd i) ps [])(t:AOr0X E)(v:(oF (.Wm (.Za om apos) [] [] b8) X.fN=(do
   let g <-oFo X.fN
   standAt! apos.atName
   let(f,first,) <-holding! [g]^getMethod! gm pl
   callWith! b8 f first (pNb8^Ψ [] X.fN) (backToKw! b8^ZW [] X.fN)))>>>4):mPX (.Wm (.Za om apos) [] [] b8)^vq! Cm sp EbW:=by
 intro b s nHQ Ih;show Δ.W.methodCall_KW (pl:=pl) (nb (Db s nH_ Ih) λu Mz=>?_) v;let(y,N,d,r,i,a,dx,fs,ζ,L,l,q):=z;cases r;show Hw! d L (ci) (ji) l (Δ.W.callWith_K0 (first:=[.ο a]) d.kIn (ji).C9 ?_);show oX! (us:=[.ο a]) (vs:=[.ο a]) (Fi) B (Ji) .nS tdQD0q
structure AK! QAw QGE:Prop where
 makes!:makesIn! KC=π
 init!:Δ.W.Xu KQAk "__init__"<*δ^.Rm "object.__init__"
 C9:Y7KQAk=π
 mro!:Δ.W.mroIn KC^.TB "object"<*π
abbrev Rx! QGE:TE:=λ_HQ=>∀x dx,Hx=ε->H dx=ε->dx≠x->Q QCdQN4
def Im!{C:θ}(M:AK! X.K C)(j:pUXx)(i:X.mg x<*.ο C)(c:((x==("__debug__":bE))=ν)>>>0):mPXQTJ^Rx! C:=by
 intro g slHQ Ih;let d:=f'.made (C:=C) I;let(q,O,_):=TS (a:=s⁻¹+1) (C:=C) (dx:=s⁻¹) (fs:=[]) d.rv hJ;let(n,J,_):=O.look;show y0^CGIji (Δ.W.callWith_K0 I.kIn M.C9 (zO ?_)) c;show tX! I.kIn M.makes M.init (λb=>.of_pure^Δ.W.oi_bind b) ?_;show N' Δ.W.oi_plain Δ.W.entry_oi ?_;show Δ.W.check_slot (f6:=[]) (kw:=[]) Δ.W.oi_kind Δ.W.oi_split (J.TB.andThen^Δ.W.looks_mroIn d.kIn M.mro) (Δ.W.oi_args _) ?_;rw[Δ.W.oi_run];show mR (0,V.ο _,_,d,0,h__ (I.rv.ax QIe) QEAQR5)
def qm!:wNX (.Rm "isinstance") (λxsHQ=>∃xtb,xs=[x,.ο D]/\yZ X.K Hxt/\Δ.W.Kq X.K tQA0=δb/\Q QGIH):=by
 intro a sjHxsusQ Irh;let(y,t,b,ζ,h2,i,q):=h;let(u,l,ζ,g,d):=IYr;cases d;show jr! Igh2i λc=>(.dW b,H,I.y4 c,0,q)
end
end _F
namespace _b
open _F
inductive jG where
 |X5|X7|I9
inductive K1 where
 |WA|T7|again
inductive K2 where
 |YH!|less!|both!|WG
inductive cF where
 |yT (k:jG)
 |yV QFf
 |uR (k:K1) (x:cF)
 |rE QP0 (xy:cF)
inductive xE where
 |yT (k:jG)
 |yV
 |uR (k:K1)
 |rE QP0
abbrev cF.kd:cF->xE
 |.yT k=>.yT k
 |.yV _=>.yV
 |.uR k _=>.uR k
 |.rE k _ _=>.rE k
abbrev cF.Kd:cF->χ
 |.yT _=>1
 |.yV _=>1
 |.uR _ x=>x.Kd+1
 |.rE _ x y=>max x.Kd y.Kd+1
def cF.dep_pos QEc:1≤t.Kd:=by
 cases t<;>first|show χ.nZ _|show χ.le_add_left __
abbrev WM:jG->bE
 |.X5=>"never"
 |.X7=>"empty"
 |.I9=>"any"
abbrev Ix:K1->bE
 |.WA=>"outside"
 |.T7=>"turned"
 |.again=>"again"
abbrev DV:K2->bE
 |.YH=>"either"
 |.less=>"less"
 |.both=>"both"
 |.WG=>"then"
abbrev Ez!:xE->bE
 |.yT .X5=>"Never"
 |.yT .X7=>"Empty"
 |.yT .I9=>"AnySign"
 |.yV=>"Sign"
 |.uR .WA=>"Outside"
 |.uR .T7=>"Turned"
 |.uR .again=>"Again"
 |.rE .YH=>"Either"
 |.rE .less=>"Less"
 |.rE .both=>"Both"
 |.rE .WG=>"Then"
abbrev Vj!{α:Type}(a1a2a3a4a5a6a7a8a9 a10! a11!:α):xE->α
 |.yT .X5=>a1
 |.yT .X7=>a2
 |.yT .I9=>a3
 |.yV=>a4
 |.uR .WA=>a5
 |.uR .T7=>a6
 |.uR .again=>a7
 |.rE .YH=>a8
 |.rE .less=>a9
 |.rE .both=>a10!
 |.rE .WG=>a11!
def Bv!{p:xE->Prop}(h1:pQBQ)(h2:pQGl)(i:pQM')(h:p .yV)(g:p^.uR .WA)(f:p^.uR .T7)(e:p^.uR .again)(d:p^.rE .YH)(c:p^.rE .less)(b:p^.rE .both)(a:p^.rE .WG):∀k,pk
 |.yT .X5=>h1
 |.yT .X7=>h2
 |.yT .I9=>i
 |.yV=>h
 |.uR .WA=>g
 |.uR .T7=>f
 |.uR .again=>e
 |.rE .YH=>d
 |.rE .less=>c
 |.rE .both=>b
 |.rE .WG=>a
abbrev uV QCU QAH:cF->V->Prop
 |.yT k,v=>∃a dx,v=.ο a/\Ha<*.TM (cQKX) dx []
 |.yV z,v=>∃a dx,v=.ο a/\Ha<*.TM (c .yV) dx^am "sign" (.uM^lY [z]) []
 |.uR k x,v=>∃a dx u,v=.ο a/\Ha=δ^.TM QSY dx^am "inner" u []/\uVcHxu
 |.rE k x y,v=>∃a dx uw,v=.ο a/\Ha=δ^.TM QSZ dx^am "right" w^am "left" u []/\uVcHxu/\uVcHyw
abbrev oU QAH:cF->V->Prop
 |.yT k,v=>∃a,v=.ο a/\Ha<*.iT [.uM^WMk]
 |.yV z,v=>∃a,v=.ο a/\Ha<*.iT [.uM "sign",.uM^lY [z]]
 |.uR k x,v=>∃au,v=.ο a/\Ha=δ^.iT [.uM^Ix k,u]/\oUHxu
 |.rE k x y,v=>∃auw,v=.ο a/\Ha=δ^.iT [.uM QOF,u,w]/\oUHxu/\oUHyw
abbrev F3 QIA:Prop:=∀bo,Hb<*o->(∀xs,o≠.P' xs)->H'b<*o
def mI.C9(h:mIHH'):F3HH':=λboe_=>hboe
def F3.ξ(a:F3Hf)(b:F3fd):F3Hd:=λc oen=>bco (a c oen) n
def F3.P' QPR:F3H^mEHpo:=λbaen=>by
 rw[a'^qSeh^λz=>nxsz];show e
def uV.C9 QOG QMJ(h:F3HH'):∀QIM{v:V},uVcHtv->uVcH'tv
 |.yT _,_,k=>by let(a,dx,e,b):=k;show QT1
 |.yV _,_,k=>by let(a,dx,e,b):=k;show QT1
 |.uR _ x,_,k=>by let(a,dx,u,e,b,d):=k;show(a,dx,u,e,h__bQAC,uV.C9 h (t:=x) d)
 |.rE _ x y,_,k=>by let(a,dx,u,w,e,b,d,f):=k;show(a,dx,u,w,e,h__bQAC,uV.C9 h (t:=x) d,uV.C9 h (t:=y) f)
def oU.C9 QMJ(h:F3HH'):∀QIM{v:V},oUHtv->oUH'tv
 |.yT _,_,k=>by let(a,e,b):=k;show(a,e,h__bQAC)
 |.yV _,_,k=>by let(a,e,b):=k;show(a,e,h__bQAC)
 |.uR _ x,_,k=>by let(a,u,e,b,c):=k;show(a,u,e,h__bQAC,oU.C9 h (t:=x) c)
 |.rE _ x y,_,k=>by let(a,u,w,e,b,c,d):=k;show(a,u,w,e,h__bQAC,oU.C9 h (t:=x) c,oU.C9 h (t:=y) d)
def uV.TM QOG QGr:∀QIM{v:V},uVcHtv->∃a dx fs,v=.ο a/\Ha=δQRd/\fs.ς ("shape":bE)=ε
 |.yT _,_,h=>by let(a,dx,e,b):=h;show(a,dx,_,e,b,0)
 |.yV _,_,h=>by let(a,dx,e,b):=h;show(a,dx,_,e,b,by rw[wO,mF (!3)];rfl)
 |.uR _ x,_,h=>by let(a,dx,u,e,b,d):=h;show(a,dx,_,e,b,by rw[wO,mF (!3)];rfl)
 |.rE _ x y,_,h=>by let(a,dx,u,w,e,b,d,f):=h;show(a,dx,_,e,b,by rw[wO,mF (!3),wO,mF (!3)];rfl)
def Ry!(u:V):(am "sign" u []).ς ("sign":bE)<*u:=by rw[wO,mGζ]
def F_!(u:V):(am "inner" u []).ς ("inner":bE)<*u:=by rw[wO,mGζ]
def Rz!(uw:V):(am "right" w^am "left" u []).ς ("left":bE)<*u:=by rw[wO,mF (!3),wO,mGζ]
def ho!(uw:V):(am "right" w^am "left" u []).ς ("right":bE)<*w:=by rw[wO,mGζ]
def WN QGr:∀{dd':χ}{xy:V},z4Hdxy->d≤d'->z4Hd'xy
 |0,0,_,_,h,_=>h
 |0,d'+1,_,_,h,_=>.UR h
 |d+1,0,_,_,_,h=>mWh^χ.not_succ_le_zero d
 |d+1,d'+1,_,_,h,f=>h.imp_right (by
  intro h;let(p,q,xs,ys,k,j,h,e,g,a):=h;show(p,q,xs,ys,k,j,h,e,g,λixycb=>WN (aixycb)^χ.le_of_succ_le_succ f))
def SS(h1:Hp<*.iT xs)(h2:Hq<*.iT ys)(a:xs.β=ys.β)(hz:xs.β≤2100)(h:∀QAuQP8,xs[i]?<*x->ys[i]?<*y->z4Hdxy):z4H (d+1) QAl^.ο q:=
 .P2 (p,q,xs,ys,5,.UR QM8,a,hz,h)
def Y3 QGr:∀QIM{xy:V},oUHtx->oUHty->z4H t.Kd xy
 |.yT _,_,_,h,k=>by
  let(a,e,h1):=h;let(b,d,h2):=k;subst e d;show SSh1h2ζ (by change 1≤2100;decide)^Sm! ζ
 |.yV _,_,_,h,k=>by
  let(a,e,h1):=h;let(b,d,h2):=k;subst e d;show SSh1h2ζ (by change 2≤2100;decide)^Sm! ζ
 |.uR _ x,_,_,h,k=>by
  let(a,u,e,h1,k1):=h;let(b,j,d,h2,k2):=k;subst e d;show SSh1h2ζ (by change 2≤2100;decide) λihgcf=>?_;match i with
  |0=>cases c;cases f;show cq! ζ
  |1=>cases c;cases f;show Y3k1k2
  |n+2=>simp at c
 |.rE _ x y,_,_,h,k=>by
  let(a,u,w,e,h1,k1,l):=h;let(b,j,m,d,h2,k2,k):=k;subst e d;show SSh1h2ζ (by change 3≤2100;decide) λihgcf=>?_;match i with
  |0=>cases c;cases f;show cq! ζ
  |1=>cases c;cases f;show WN (Y3k1k2) QIG
  |2=>cases c;cases f;show WN (Y3lk) QQf
  |n+3=>simp at c
structure MH! QAw(CcP:θ):Prop where
 cl:zVKC
 eM:Δ.W.Xu KQAk "__class__"<*δ^.Rm "object.__class__"
 g9:Δ.W.specialIn K (.Rm "object.__class__") "__get__"<*δ^.Rm "getset_descriptor.__get__"
 htk!:Δ.W.takesIn K^.Rm "object.__class__"<*π
 hm:Δ.W.mroIn KC^.TB "object"<*π
 ki!:Δ.W.Kq KQAk^.ο cP<*π
 cg!:u6KC "sign"
 nL!:u6KC "left"
 Tw!:u6KC "right"
 Uf!:u6KC "inner"
inductive zj QAw QFJ QAJ QAH QAR QA5:Prop
 |mk (pvC dx:_) (_:vs=[.ο p,v]) QSa QLW (_:u6KCx) (_:∀H',QKY->H'p<*.TM C dx^am xv []->Q .vS H')
inductive sL! QAw(xy:bE)QAJ QAH QAR QA5:Prop
 |mk (pvuC dx:_) (_:vs=[.ο p,v,u]) QSa QLW (_:u6KCx) (_:u6KCy) (_:∀H',QKY->H'p<*.TM C dx^am yu^am xv []->Q .vS H')
def B5(c:Hx=ε)(a:H dx=ε)(h:∀bo,(mEQFtxo0) b<*o->b≠x->H'b<*o):mIHH':=λboe=>
 h b o (by rw[a'^oZec,a'^oZea];show e) (oZec)
inductive jQ! QCU QCv(k:xE)QAJ QAH QAR QA5:Prop
 |mk QCw QEc QEu QHU (_:t.kd=k) QE' (_:∀vH',mIHH'->oUH'tv->Qv H')
structure I' QLB QBg QAw QAy QRH QCU(cP:θ):Prop where
 lC!:mg "Pattern"<*.ο cP
 kc!:∀k,mg^Ez! k<*.ο^ck
 pc:∀k,MH! K (ck) cP
 mk0!:∀k,AK! K^cQKX
 aD!:∃f fd,D5K (c .yV) f/\mTPwK mg υms 1 f fd ["self","sign"]^zj K "sign"/\p6K fd ["self","sign"] []
 d_!:∃f fd,(∀k,D5KQSYf)/\mTPwK mg υms 1 f fd ["self","inner"]^zj K "inner"/\p6K fd ["self","inner"] []
 Et!:∃f fd,(∀k,D5KQSZf)/\mTPwK mg υms 1 f fd ["self","left","right"]^sL! K "left" "right"/\p6K fd ["self","left","right"] []
 sh!:∃(f:xE->θ)(fd:xE->uP),(∀k,M3K (ck) "shape"^fk)/\(∀k,p6K (fd k) ["self"] [])/\∀nk,mTPwK mg υmsn (fk) (fd k) ["self"]^jQ! cnk
def SG{ys:γ V}:(ys++[v])[(ys++[v]).β-1]?<*v:=by simp
inductive U2 where
 |WA|T7
abbrev U2.k1:U2->K1
 |.WA=>.WA
 |.T7=>.T7
inductive dP where
 |jM
 |un (k:U2)
 |bin QP0
abbrev lvl:K2->χ
 |.YH=>0
 |.less=>0
 |.both=>1
 |.WG=>2
abbrev dP.uM:dP->χ
 |.jM=>0
 |.un _=>4
 |.bin k=>lvl k+1
inductive Tk where
 |jM
 |KS
 |star
 |un (k:U2)
 |bin QP0
 |ZS QEc
abbrev yO(s:χ):γcF->γdP->ψQIW
 |_,[]=>ε
 |ps,w::ws=>if s≤w.uM then
   match w,ps with
   |.un k,x::qs=>yOs (.uR k.k1 x::qs) ws
   |.bin k,y::x::qs=>yOs (.rE kxy::qs) ws
   |_,_=>ε
  else δQSb
abbrev zH:γcF×γdP->ψQIW
 |(ps,_::ws)=>δQLj
 |(_,[])=>ε
abbrev RB!:γcF->ψ (γcF)
 |x::qs=>δ (.uR .again x::qs)
 |[]=>ε
abbrev C5 QSc QPo:Tk->ψQIW
 |.jM=>δ (ps,.jM::ws,)
 |.un k=>δ (ps,.un k::ws,)
 |.bin k=>(yO (lvl k+1) psws).Tx λr=>(r.1,.bin k::r.2,)
 |.KS=>(yO 1 psws).bind zH
 |.star=>(RB! ps).Tx λqs=>(qs,ws,)
 |.ZS t=>δ (t::ps,ws,)
abbrev n7:γ Tk->γcF×γdP->ψQIW
 |[],r=>δr
 |t::ts,r=>(C5 r.1 r.2 t).bind^n7ts
def GY:∀(a b:γ Tk)(r:γcF×γdP),n7 (a++b) r=(n7ar).bind (n7b)
 |[],_,_=>rfl
 |t::a,b,r=>by
  change (C5 r.1 r.2 t).bind^n7 (a++b)=((C5 r.1 r.2 t).bind^n7a).bind^n7b;cases C5 r.1 r.2 t with
  |ε=>rfl
  |δ c=>show GYabc
abbrev zW QFf:b9:=[33,60,40,38,124,45].Hr c
abbrev isB QFf:b9:=[42,38,124,45,41].Hr c
abbrev y4 QFf:Tk:=
 if c=40 then .jM else if c=41 then .KS else if c=42 then .star else if c=33 then .un .WA else if c=60 then .un .T7
 else if c=124 then .bin .YH else if c=45 then .bin .less else if c=38 then .bin .both
 else if c=48 then .ZS QBQ else if c=49 then .ZS QGl else if c=46 then .ZS QM' else .ZS QSd
abbrev mU:b9->lU->γ Tk
 |_,[]=>[]
 |w,c::cs=>(if (!w&&!isB c)=π then[.bin .WG]else[])++y4c::mUQK3cs
abbrev C7 QKD:lU->b9
 |[]=>b
 |c::cs=>C7QK3cs
def RR:∀(uv:lU)QKD,mUb (u++v)=mUbu++mU (C7bu) v
 |[],_,_=>rfl
 |c::u,v,b=>by
  change _++y4c::mUQK3 (u++v)=(_++y4c::mUQK3u)++_;rw[RRuv,u4];rfl
def AR:∀(uv:lU)QKD,C7b (u++v)=C7 (C7bu) v
 |[],_,_=>rfl
 |c::u,v,b=>ARuv_
abbrev c0:jG->χ
 |.X5=>48
 |.X7=>49
 |.I9=>46
abbrev c1:U2->χ
 |.WA=>33
 |.T7=>60
abbrev m2:K2->lU
 |.YH=>[124]
 |.less=>[45]
 |.both=>[38]
 |.WG=>[]
inductive G QA6:cF->lU->Prop where
 |yT (k:jG):GLQKX [c0k]
 |yV {c:χ} (h:c∈L):GLQSd [c]
 |again QIM QRC QEy:GL (.uR .again t) (w++[42])
 |pre QIM QRC (k:U2) QEy:GL (.uR k.k1 t) (40::((c1k::w)++[41]))
 |bin {xy:cF} {uv:lU} QP0 (c9:GLxu) (d7:GLyv):GLQIo (40::QRe)
abbrev M5 QA6:Prop:=∀c∈L,97≤c/\c≤122
def RM(h:97≤c/\c≤122):zWc=ν/\isB c=ν/\y4c=.ZS QSd:=by
 let(h1,h2):=h;show(3,3,3)
 .unfold zW;simp;lia
 .unfold isB;simp;lia
 .unfold y4;repeat rw[mF (!6)]
def G.first(b:M5L)QEy:∃c r,w=c::r/\isB c=ν:=by
 induction h with
 |yT k=>show(_,_,0,by cases k<;>rfl)
 |yV h=>show(1,(RM^b_h).2.1)
 |again h a=>let(c,r,ζ,e):=a;show(c,2,e)
 |_=>show(1,0)
def G.last(a:M5L)QEy:∀b,C7bw=ν:=by
 induction h with
 |yT k=>intro b;cases k<;>rfl
 |yV h=>show λb=>(RM^a_h).1
 |again h c=>intro b;rw[AR];rfl
 |_=>intro b;change C7_ (_++[41])=ν;rw[AR];rfl
def sg!(h:isB c=ν):mUν (c::r)=.bin .WG::mUπ (c::r):=by
 change (if (!ν&&!isB c)=π then([.bin .WG]:γ Tk)else[])++_=_;rw[h];rfl
def SU(h:w.uM<s):yOsps (w::ws)<*QSb:=by
 show mF^Jh! h
def Dx!(h:s≤4):yOs (x::ps) (.un k::ws)=yOs (.uR k.k1 x::ps) ws:=by
 show mG (show s≤(dP.un k).uM from h)
def Zz!(h:s≤lvl k+1):yOs (y::x::ps) (.bin k::ws)=yOs (.rE kxy::ps) ws:=by
 show mG (show s≤(dP.bin k).uM from h)
def RC!(k:jG):y4^c0k=.ZS QKX:=by cases k<;>rfl
def jH!(k:U2):y4QQg=.un k/\zWQQg=π:=by
 cases k<;>show(0,0)
def G.n6(b:M5L)QEy:∀psws,n7 (mUπw) QLj<*(t::ps,ws,):=by
 induction h with
 |yT k=>
  intro psws;change n7 (y4^c0k::[]) QLj=_;rw[RC!];rfl
 |yV h=>
  rename_i c;intro psws;change n7 (y4c::[]) QLj=_;rw[(RM^b_h).2.2];rfl
 |again h f=>
  intro psws;rw[RR,h.last b,GY,f];rfl
 |pre k h f=>
  rename_i t w;intro psws;change n7 (.jM::y4QQg::mU (zWQQg) QJ6) QLj=_;rw[(jH! k).1,(jH! k).2,RR,h.last b];change n7 (mUπw++[.KS]) (ps,.un k::.jM::ws,)=_;rw[GY,f];change ((yO 1 (t::ps) (.un k::.jM::ws)).bind zH).bind^n7 []=_;rw[Dx! (!0),SU (!0)];rfl
 |bin k j g ih1 ih2=>
  rename_i x y u v;intro psws;let a:n7 (.bin k::mUπv) QLM<*QMZ:=by
   let d:C5 (x::ps) (.jM::ws) QO0<*(x::ps,.bin k::.jM::ws,):=by
    rw[C5,SU^succ_pos! _];rfl
   change (C5 (x::ps) (.jM::ws) QO0).bind _=_;rw[d];show ih2 __
  let e:n7QU3QLM<*QMZ:=by
   cases k with
   |WG=>
    let(c,i,ζ,l):=g.first b;change n7 (mUν (c::i)) _=_;rw[sg! l];show a
   |_=>show a
  change n7 (mUπQRe) (ps,.jM::ws,)=_;rw[RR,AR,g.last b,u4,RR,j.last b,GY,GY,ih1];change (n7QU3QLM).bind^n7 [.KS]=_;rw[e];change ((yO 1 (y::x::ps) (.bin k::.jM::ws)).bind zH).bind^n7 []=_;rw[Zz! FJ,SU (!0)];rfl
def G.read(a:M5L)QEy:n7 (mUπ (40::QJ6)) QTo<*([t],[],):=by
 change n7 (mUπQJ6) ([],[.jM],)=_;rw[RR,h.last a,GY,h.n6 a];change ((yO 1 [t] [.jM]).bind zH).bind^n7 []=_;rw[SU (!0)];rfl
abbrev u0 QA6 QFf(w:b9)(d:χ):b9:=
 if L.Hr c||[48,49,46,33,60,40].Hr c then π
 else if c=41 then decide (0<d)&&!w
 else[42,38,124,45].Hr c&&!w
abbrev F7(c d:χ):χ:=if c=41 then(if c=40 then d+1 else d)-1 else if c=40 then d+1 else d
abbrev scan QA6:χ->b9->lU->ψ (χ×b9)
 |d,w,[]=>δ (d,w,)
 |d,w,c::cs=>if u0Lcwd=π then scan L (F7cd) QK3cs else ε
def AS QA6:∀(uv:lU)(d:χ)(w:b9),scan Ldw (u++v)=(scan Ldwu).bind λr=>scan L r.1 r.2 v
 |[],_,_,_=>rfl
 |c::u,v,d,w=>by
  change (if u0Lcwd=π then scan L (F7cd) QK3 (u++v)else ε)=(if u0Lcwd=π then scan L (F7cd) QK3u else ε).bind _;by_cases h:u0Lcwd=π
  .rw [mGh,mGh];show ASLuv__
  .rw [mFh,mFh];rfl
def RD!(h:c∈L):u0Lcwd=π:=by
 unfold u0;rw[mG^by simp[h]]
def ia!(h:[48,49,46,33,60,40].Hr c=π):u0Lcwd=π:=by
 unfold u0;rw[mG^by rw[h];simp]
def Ya!(h:[42,38,124,45].Hr c=π)(h2:c≠41):u0Lcνd=π:=by
 unfold u0;rw[mFh2,h];split<;>rfl
def cc!:u0L 41 ν (d+1)=π:=by
 unfold u0;rw[mGζ,uO^succ_pos! d];split<;>rfl
def Dc!(h1:c≠40)(h2:c≠41):F7cd=d:=by
 unfold F7;rw[mFh2,mFh1]
def G.scan(f:M5L)QEy:∀db,scan Ldbw<*QGX:=by
 let a:∀QRC,(∀d:χ,_b.scan Ldπw<*QGX)->∀(d:χ)QKD,_b.scan Ldb (40::QJ6)<*QGX:=λ{w}h db=>by
  change (if u0L 40 b d=π then _b.scan L (d+1) πQJ6 else ε)=_;rw[mG^ia! ζ,AS,h];change (if u0L 41 ν (d+1)=π then δ (d+1-1,ν,)else ε)=_;rw[mG cc!];rfl
 induction h with
 |yT k=>
  intro db;change (if u0L (c0k) b d=π then δ (F7 (c0k) d,zW^c0k,)else ε)=_;rw[mG^ia!^by cases k<;>rfl];cases k<;>rfl
 |yV h=>
  rename_i c;intro db;have:=f_h;change (if u0Lcbd=π then δ (F7cd,zWc,)else ε)=_;rw[mG^RD! h,Dc! (!6) (!6),(RM^f_h).1]
 |again h e=>
  intro db;rw[AS,e];change (if u0L 42 νd=π then δQGX else ε)=_;rw[mG^Ya! ζ (!0)]
 |pre k h e=>
  rename_i t w;show a λd=>?_;change (if u0LQQgπd=π then _b.scan L (F7QQgd) (zWQQg) w else ε)=_;rw[mG (ia!^by cases k<;>rfl),(jH! k).2,e,Dc! (by cases k<;>decide)^by cases k<;>decide]
 |bin k j i ih1 ih2=>
  rename_i x y u v;show a λd=>?_;let g:∀{c},[42,38,124,45].Hr c=π->c≠41->(if u0Lcνd=π then _b.scan Ldπv else ε)<*QGX:=λhn=>by
   rw[mG^Ya! hn];show ih2 __
  rw[u4,AS,ih1];change _b.scan Ldν (m2k++v)=_;cases k with
  |WG=>show ih2 dν
  |_=>show gζ (!0)
abbrev cF.sz:cF->χ
 |.yT _=>1
 |.yV _=>1
 |.uR _ x=>x.sz+1
 |.rE _ x y=>x.sz+y.sz+1
abbrev cF.over QA6:cF->Prop
 |.yT _=>vN
 |.yV c=>c∈L
 |.uR _ x=>x.over L
 |.rE _ x y=>x.over L/\y.over L
def HI{s:χ}:∀{ws:γdP}{ps ps':γcF}{ws':γdP},yOspsws<*QGe->ps'.β≤ps.β/\ws'.β≤ws.β
 |[],_,_,_,h=>nomatch h
 |w::ws,ps,ps',ws',h=>by
  replace h:(if s≤w.uM then _ else δQSb)<*QGe:=h;by_cases a:s≤w.uM
  .rw [mGa]at h;match w,ps,h with
   |.un k,x::qs,h=>
    show ((HIh).1,χ.W9 (HIh).2)
   |.bin k,y::x::qs,h=>
    show (χ.W9 (HIh).1,χ.W9 (HIh).2)
  .rw [mFa]at h;cases h;show(nZ_,nZ_)
def az!(h:C5pswst<*QGe):ps'.β≤ps.β+1/\ws'.β≤ws.β+1:=by
 cases t with
 |jM=>cases h;show(le_succ! _,nZ_)
 |un k=>cases h;show(le_succ! _,nZ_)
 |ZS t=>cases h;show(nZ_,le_succ! _)
 |star=>
  cases ps with
  |nS=>cases h
  |nF x qs=>cases h;show(le_succ! _,le_succ! _)
 |bin k=>
  let(r,c,e):=r7h;cases e;have:=HI (ps':=r.1) (ws':=r.2) c;simp only[oY];lia
 |KS=>
  let(r,c,e):=ψ.bind_eq_some_iff.mp h;let h1:=HI (ps':=r.1) (ws':=r.2) c;let(a,b):=r;cases b with
  |nS=>cases e
  |nF x b=>cases e;simp only[oY]at h1;lia
def Af!:∀QHyQKD,(mUbw).β≤2*w.β
 |[],_=>nZ_
 |c::cs,b=>by
  have:=Af! csQK3;change γ.β ((if _ then _ else _)++y4c::mUQK3cs)≤_;rw[o9,oY,oY];split
  .rw [oY,length_nil!];lia
  .rw [length_nil!];lia
def rp!(h:n7tsr<*b)QAu:∃a,n7 (ts.Uj i) r=δa/\n7 (ts.Gd i) a<*b:=by
 rw[<-DJits,GY]at h;show ψ.bind_eq_some_iff.mp h
abbrev sW:dP->bE
 |.jM=>lY [40]
 |.un .WA=>"outside"
 |.un .T7=>"turned"
 |.bin k=>DVk
abbrev wv(w:dP):V:=.uM^sWw
abbrev Lo!:Tk->bE
 |.jM=>lY [40]
 |.KS=>lY [41]
 |.star=>"again"
 |.un k=>sW^.un k
 |.bin k=>DVk
 |.ZS QKX=>WMk
 |.ZS QSd=>lY [c]
 |.ZS _=>lY []
abbrev gG(t:Tk):V:=.uM^Lo! t
abbrev Tk.ok:Tk->Prop
 |.ZS (.yT _)=>vN
 |.ZS QSd=>97≤c/\c≤122
 |.ZS _=>oA
 |_=>vN
abbrev dKINDS!:γQHc:=[(.P2^lY [48],.uM "never",),(.P2^lY [49],.uM "empty",),(.P2^lY [46],.uM "any",),(.P2^lY [124],.uM "either",),(.P2^lY [45],.uM "less",),(.P2^lY [38],.uM "both",),(.P2^lY [33],.uM "outside",),(.P2^lY [60],.uM "turned",),(.P2^lY [42],.uM "again",)]
abbrev yg:γQHc:=[(.P2 "either",.tV 1,),(.P2 "less",.tV 1,),(.P2 "both",.tV 2,),(.P2 "then",.tV 3,),(.P2 "outside",.tV 4,),(.P2 "turned",.tV 4,),(.P2 "again",.tV 5,),(.P2 "never",.tV 5,),(.P2 "empty",.tV 5,),(.P2 "sign",.tV 5,),(.P2 "any",.tV 5,)]
def ke!(w:dP):(tW yg^.P2^sWw).TC^.tV 0=.tV (w.uM:χ):=by
 cases w with
 |jM=>decide +kernel
 |un k=>cases k<;>decide +kernel
 |bin k=>cases k<;>decide +kernel
def zc! QP0:tW yg^.P2 QOF<*.tV ((lvl k:χ)+1):=by cases k<;>decide +kernel
abbrev JF QFf:Prop:=QKM\/c∈[40,41,42,33,60,124,45,38,48,49,46]
def UB!(h:JFc):(y4c).ok:=by
 rcases h with h|h
 .rw [(RMh).2.2];show h
 .simp only[u3,i7,w7]at h;rcases h with ζ|rfl|rfl|rfl|rfl|rfl|rfl|rfl|rfl|rfl|rfl<;>show vN.Vw
def Ke!(h:a≠b):¬ ((Sum.P2^lY [a]:f9)=Sum.P2^lY [b]):=λe=>h (by have:=Z2^Sum.P2.WZ e;simpa using this)
def uc!(h:JFc):(tW dKINDS!^.P2 QT2).TC^.uM QT2=gG^y4c:=by
 rcases h with h|h
 .rw [(RMh).2.2];unfold dKINDS!;repeat rw[VO^Ke! (!6)]
  rfl
 .simp only[u3,i7,w7]at h;rcases h with ζ|rfl|rfl|rfl|rfl|rfl|rfl|rfl|rfl|rfl|rfl<;>decide +kernel
abbrev B6 QCU QAH:γ V->γcF->Prop
 |[],[]=>vN
 |v::vs,t::ts=>uVcHtv/\B6cHvsts
 |_,_=>oA
def B6.C9 QOG QMJ(k:F3HH'):∀QBmQHV,B6cHxsts->B6cH'xsts
 |[],[],_=>trivial
 |_::_,_::_,h=>(h.1.C9 k,B6.C9 k h.2)
def B6.eN QOG QGr:∀QBmQHV,B6cHxsts->xs.β=ts.β
 |[],[],_=>rfl
 |_::_,_::_,h=>by rw[oY,oY,B6.eN h.2]
abbrev V' QP1:γQDa:=am "waiting" (.ο wa)^am "patterns" QT3 []
def L7 QP1:(V' pa wa).ς ("patterns":bE)<*.ο pa:=by
 unfold V';rw[wO,mF (!3),wO,mGζ]
def TP QP1:(V' pa wa).ς ("waiting":bE)<*.ο wa:=by
 unfold V';rw[wO,mGζ]
structure AT QCU(bR:θ)QAH QNy(us:γ V)QSc QPo:Prop where
 eA:Hd<*.TM bR dx^V' pa wa
 pl:H pa<*.P' us.UQ
 pt:B6cHusps
 wl:H wa<*.P' QO1
 ne:pa≠wa
abbrev E7 QP1 QIA:Prop:=∀bo,Hb<*o->b≠pa->b≠wa->H'b<*o
def E7.Kx QP1 QAH:E7 pa wa HH:=λ__e__=>e
def E7.ξ(a:E7 pa wa Hf)(b:E7 pa wa f d):E7 pa wa Hd:=λc oeh1h2=>bco (a c oeh1h2) h1h2
def E7.p:E7 pa wa H^mEH pa o:=λbaeh1_=>by rw[a'h1];show e
def E7.w:E7 pa wa H^mEH wa o:=λbae_h2=>by rw[a'h2];show e
def mI.off QBv:E7 pa wa HH':=λboe__=>sboe
section
variable{c:xE->θ}{bR:θ}{HH':m1}{d dx pa wa:θ}{us:γ V}{ps:γcF}{ws:γdP}
def AT.Ki QCm QBv:ATcbRH'd dx pa wa uspsws:=(s__ D.eA,s__ D.pl,D.pt.C9^mI.C9 s,s__ D.wl,D.ne)
def AT.pushP QCm(a:uVcHtv):ATcbR (mEH pa^.P' (us.UQ++[v])) d dx pa wa (v::us) (t::ps) ws:=by
 let k:=F3.P' (o:=.P' (us.UQ++[v])) D.pl;show(k__ D.eA QAC,by rw[hJ,γ.reverse_cons],(a.C9 k,D.pt.C9 k),by rw[a'^Ne.UH D.ne];show D.wl,D.ne)
def AT.popP(D:ATcbRHd dx pa wa (u::us) (t::ps) ws):ATcbRQQhd dx pa wa uspsws/\uVcQQhtu:=by
 let k:=F3.P' (o:=.P' us.UQ) D.pl;show((k__ D.eA QAC,hJ,D.pt.2.C9 k,by rw[a'^Ne.UH D.ne];show D.wl,D.ne),D.pt.1.C9 k)
def AT.pushW QCm(w:dP):ATcbR (mEH wa^.P' QHo) d dx pa wa usps (w::ws):=by
 let k:=F3.P' (o:=.P' QHo) D.wl;show(k__ D.eA QAC,by rw[a' D.ne];show D.pl,D.pt.C9 k,by rw[hJ,γ.reverse_cons,pY];rfl,D.ne)
def AT.popW QIp:ATcbR (mEH wa^.P' QO1) d dx pa wa uspsws:=by
 let k:=F3.P' (o:=.P' QO1) D.wl;show(k__ D.eA QAC,by rw[a' D.ne];show D.pl,D.pt.C9 k,hJ,D.ne)
def AT.wtop QIp:H wa<*.P' QHo:=by
 have:=D.wl;rw[γ.reverse_cons,pY]at this;show this
def AT.ptop(D:ATcbRHd dx pa wa (u::us) psws):H pa<*.P' (us.UQ++[u]):=by
 have:=D.pl;rw[γ.reverse_cons]at this;show this
def AT.uR QCm(e:ps=t::qs):∃uvs,us=u::vs:=by
 subst e;cases us with
 |nS=>show D.pt.Q5
 |nF u vs=>show(u,vs,0)
end
def RH! QFf QJM:decide (c∈l)=l.Hr c:=by
 by_cases h:c∈l
 .rw [uOh];simp[h]
 .rw [pIh];simp[h]
def OW QJM QFf:(!(Builtin.bE.ij QEj ⟨#[c]⟩ 0 (lYl).β 1).Yj)=l.Hr c:=by
 let e:=oo! lc;unfold jL.Hr at e;rw[<-RH!];show e
def S8(a:s=lY [x]):(V.uM QMa=V.uM s)↔ch=x:=by
 subst a;constructor
 .intro h;have:=Z2^V.uM.WZ h;simpa using this
 .intro h;rw[h]
def B8(b:s=lYl)(a:l≠[c]):lY [c]≠s:=λe=>a (Z2^e.ξ b).UH
abbrev xy!:Tk->b9
 |.jM=>π
 |.un _=>π
 |_=>ν
abbrev Fe!:Tk->b9
 |.bin _=>π
 |_=>ν
abbrev Ik!:Tk->b9
 |.KS=>π
 |_=>ν
abbrev lz!:Tk->b9
 |.star=>π
 |_=>ν
def Am!(a b:bE):D4 (.uM a)^.uM b=decide (a=b):=by
 change (a==b)=_;by_cases h:a=b
 .rw [uOh];show T8.Ui h
 .rw [pIh];show Ul.Ui h
def mX!(h:∀x∈xs,∃s,x=.uM s/\lY [c]≠s):A2 (.uM QT2) xs=ν:=by
 unfold A2;rw[γ.any_eq_false];intro xb;let(s,ζ,a):=hxb;simp only[Am!,A4];first|show a|show λe=>a e.UH|(intro e;show ae)|(intro e;show a e.UH)
def HL!(h:t.ok):A2 (gGt) [.uM^bE.WK "(",.uM^bE.WK "outside",.uM^bE.WK "turned"]=xy! t:=by
 cases t with
 |jM=>decide +kernel
 |KS=>decide +kernel
 |star=>decide +kernel
 |un k=>cases k<;>decide +kernel
 |bin k=>cases k<;>decide +kernel
 |ZS p=>
  cases p with
  |yT k=>cases k<;>decide +kernel
  |yV c=>
   show mX! λxa=>?_;let h:97≤c/\c≤122:=h;simp only[u3,i7,w7]at a;rcases a with ζ|rfl|rfl
   .exact (2,B8 (l:=[40]) (!3)^by intro e;simp at e;lia)
   .exact (2,B8 (l:=[111,117,116,115,105,100,101]) (!3)^by intro e;simp at e)
   .exact (2,B8 (l:=[116,117,114,110,101,100]) (!3)^by intro e;simp at e)
  |uR _ _=>show(show oA from h).Q5
  |rE _ _ _=>show(show oA from h).Q5
def Vc!(h:t.ok):A2 (gGt) [.uM^bE.WK "either",.uM^bE.WK "less",.uM^bE.WK "both",.uM^bE.WK "then"]=Fe! t:=by
 cases t with
 |jM=>decide +kernel
 |KS=>decide +kernel
 |star=>decide +kernel
 |un k=>cases k<;>decide +kernel
 |bin k=>cases k<;>decide +kernel
 |ZS p=>
  cases p with
  |yT k=>cases k<;>decide +kernel
  |yV c=>
   show mX! λxa=>?_;simp only[u3,i7,w7]at a;rcases a with ζ|rfl|rfl|rfl
   .exact (2,B8 (l:=[101,105,116,104,101,114]) (!3)^by intro e;simp at e)
   .exact (2,B8 (l:=[108,101,115,115]) (!3)^by intro e;simp at e)
   .exact (2,B8 (l:=[98,111,116,104]) (!3)^by intro e;simp at e)
   .exact (2,B8 (l:=[116,104,101,110]) (!3)^by intro e;simp at e)
  |uR _ _=>show(show oA from h).Q5
  |rE _ _ _=>show(show oA from h).Q5
def RL!(h:t.ok):decide (gGt=V.uM^bE.WK ")")=Ik! t:=by
 cases t with
 |jM=>decide +kernel
 |KS=>decide +kernel
 |star=>decide +kernel
 |un k=>cases k<;>decide +kernel
 |bin k=>cases k<;>decide +kernel
 |ZS p=>
  cases p with
  |yT k=>cases k<;>decide +kernel
  |yV c=>
   let h:97≤c/\c≤122:=h;show pI (λe=>B8 (l:=[41]) (!3) (by intro e;simp at e;lia) QIq)
  |uR _ _=>show(show oA from h).Q5
  |rE _ _ _=>show(show oA from h).Q5
def Mz!(h:t.ok):decide (gGt=V.uM^bE.WK "again")=lz! t:=by
 cases t with
 |jM=>decide +kernel
 |KS=>decide +kernel
 |star=>decide +kernel
 |un k=>cases k<;>decide +kernel
 |bin k=>cases k<;>decide +kernel
 |ZS p=>
  cases p with
  |yT k=>cases k<;>decide +kernel
  |yV c=>show pI (λe=>B8 (l:=[97,103,97,105,110]) (!3) (by intro e;simp at e) QIq)
  |uR _ _=>show(show oA from h).Q5
  |rE _ _ _=>show(show oA from h).Q5
def Do!:∀QRCQKD,(∀c∈w,JFc)->∀t∈mUbw,t.ok
 |[],_,_,_,a=>nomatch a
 |c::cs,b,h,t,a=>by
  rcases lp.mp (show t∈(if _ then _ else _)++y4c::mUQK3cs from a) with a|a
  .split at a
   .obtain ζ:t=.bin .WG:=by simpa using a
    show vN.Vw
   .simp at a
  .rcases u3.mp a with ζ|a
   .exact UB!^hc (!1)
   .exact Do! _ (λde=>h d^by simp[e]) ta
def G.sgs(g:M5L)QEy:∀ch∈w,JF ch:=by
 let d:∀QRC{c:χ},c=41\/c=42->QKZ->∀ch∈w++[c],JF ch:=λeh ch a=>by
  rcases lp.mp a with a|a
  .exact h ch a
  .rw [o6a];show .P2 (by rcases e with ζ|rfl<;>decide)
 let b:∀QRC,QKZ->∀ch∈40::QJ6,JF ch:=λh ch a=>(u3.mp a).Q5 (λe=>e▸.P2 (!0))^dQAvh ch;induction h with
 |yT k=>
  intro ch a;rw[o6a];show .P2 (by cases k<;>decide)
 |yV h=>
  intro ch a;rw[o6a];show .UR^g_h
 |again h f=>show dQJLf
 |pre k h f=>show b λch a=>(u3.mp a).Q5 (λe=>e▸.P2^by cases k<;>decide)^f ch
 |bin k j i ih1 ih2=>
  show b λch a=>?_;rcases lp.mp a with a|a
  .rcases lp.mp a with a|a
   .exact ih1 ch a
   .exact .P2 (by cases k<;>(simp[m2]at a)<;>(subst a;decide))
  .exact ih2 ch a
inductive Yr! QAw QCU QAJ QAH QAR QA5:Prop
 |mk (d dx C:_) (_:vs=[.ο d]) (_:Hd<*.TM C dx []) QLW (_:u6KC "patterns") (_:u6KC "waiting") (_:∀pa wa H',(∀bo,Hb<*o->b≠d->H'b<*o)->ATcCH'd dx pa wa [] [] []->H pa=ε->H wa=ε->Q .vS H')
structure R5 QLB QBg QAw QAy QRH QCU(bRd1d2d3:θ):Prop where
 kK!:mg "KINDS"<*.ο d2
 M':mg "STRENGTHS"<*.ο d3
 r6:V2PwKd2 dKINDS!
 dT:V2PwKd3 yg
 kD!:mg "Desk"<*.ο bR
 cl:zVKbR
 nP:u6KbR "patterns"
 nW:u6KbR "waiting"
 ini!:∃f fd,D5KbRf/\mTPwK mg υms 1 f fd ["self"]^Yr! Kc/\p6K fd ["self"] []
abbrev Ls QBg:γ DictEntry!->γQHc->Prop
 |[],[]=>vN
 |e::es,NN::bZ=>(∃xt,e.key=.uM xt/\NN.1=.P2 x/\e.hash=PyData.keyHash w.BP x)/\nT NN.2 e.val/\LswesbZ
 |_,_=>oA
def Ls.u7{P:nA}QGa:∀{b:γ DictEntry!}{bZ:γQHc},LswbbZ->(∀e∈b,∃k,(EsPw).is k e.key=π/\e.hash=(EsPw).hash k)/\∃vs,KVbZvs/\Pairs! QS_bvs
 |[],[],_=>(λea=>by simp at a,[],.nS,.nS)
 |e::b,(k,v)::bZ,z=>by
  let((x,t,j,c,i),g,h):=z;let(i1,vs,i2,f):=Ls.u7 (P:=P) h;let c:k=.P2 x:=c;subst c;let d:(EsPw).is (Sum.P2 x) e.key=π:=by rw[j];show df! Pwxt
  show(λe'a=>?_,(Sum.P2 x,e.val,)::vs,.nF (0,g) i2,.nF dζf);rcases u3.mp a with ζ|a
  .exact (Sum.P2 x,d,i)
  .exact i1e'a
def au!(l:K.ς d<*{dM:=.TB "dict",mY:=.wF cn})(h:Lsw c.Zh bZ)(b:(bZ.Tx QBA).qg)(g:(d==V4)=ν):V2PwKdbZ:=by
 let(i1,vs,i2,a):=h.u7 (P:=P);show(λjX=>(vs,i2,_,c,n,X__l,(5,0),0,λei=>i1e^pV.mem_toList_iff.Ui i,a,3),g);have:bZ.Tx QBA=vs.Tx QBA:=by
  clear b h l i1 a;induction i2 with
  |nS=>rfl
  |nF h t f=>rw[y3,y3,f,h.1]
 rw[<-this];show b
def Zd!:(dKINDS.Tx QBA).qg:=by decide +kernel
def tD!:(yg.Tx QBA).qg:=by decide +kernel
abbrev z7(R:cF->V->Prop):γ V->γcF->Prop
 |[],[]=>vN
 |v::vs,t::ts=>Rtv/\z7Rvsts
 |_,_=>oA
section
variable{RgN:cF->V->Prop}
def z7.eN:∀QBmQHV,z7Rxsts->xs.β=ts.β
 |[],[],_=>rfl
 |_::_,_::_,h=>by rw[oY,oY,z7.eN h.2]
def z7.imp(k:∀tv,Rtv->gNtv):∀QBmQHV,z7Rxsts->z7gNxsts
 |[],[],_=>trivial
 |_::_,_::_,h=>(k__ h.1,z7.imp k h.2)
def z7.snoc{v:V}QIM(a:Rtv):∀QBmQHV,z7Rxsts->z7R (xs++[v]) (ts++[t])
 |[],[],_=>(a,trivial)
 |_::_,_::_,h=>(h.1,z7.snoc a h.2)
end
def uV.ins' QOG QGr(m:bE)(d:m≠"sign"/\m≠"inner"/\m≠"left"/\m≠"right"):∀QIM{v:V},uVcHtv->∃a dx fs,v=.ο a/\Ha=δQRd/\fs.ς m=ε
 |.yT _,_,⟨a,dx,e,b⟩=>(a,dx,_,e,b,0)
 |.yV _,_,⟨a,dx,e,b⟩=>(a,dx,_,e,b,by rw[wO,mF d.1];rfl)
 |.uR _ x,_,⟨a,dx,u,e,b,f⟩=>(a,dx,_,e,b,by rw[wO,mF d.2.1];rfl)
 |.rE _ x y,_,⟨a,dx,u,w,e,b,f,g⟩=>(a,dx,_,e,b,by rw[wO,mF d.2.2.2,wO,mF d.2.2.1];rfl)
def EX!:Lsw [] []:=trivial
def mm!(h1:e.key=.uM xt)(h2:NN.1=.P2 x)(b:e.hash=PyData.keyHash w.BP x)(a:nT NN.2 e.val)(r:LswcbZ):Lsw (e::c) (NN::bZ):=((x,t,h1,h2,b),a,r)
def dh!(h:y=x):nTQHd^.uM yt:=(t,by rw[h])
section
variable{α:Type}{RgN:α->V->Prop}
end
end _b
namespace _F
open PySem.Spec PyProof.Rows
section
variable{X:n8}
instance sK QLB QBg:Δ.KeyKind PwbE:=Δ.strKind Pw
inductive Yg! QLB QBg(x:V)(y:V)QAH QAR:Prop
 |mk (dkbZv:_) QNP (_:y=.uM k) (_:Hd<*x6 (sK Pw) dbZ) (_:tWbZk<*v) QKs
def gy!:yPX^Yg! X.Ω X.w:=by
 intro a bg s nHxyvuQ Ijihm;let(d,k,bZ,z,ζ,ζ,e,l,q):=h;cases j;let(t,ζ):=(show ∃t,u=η.uM k t from i);let(ns,_,vs,f,dd):=BM I.rv e;show tail_any! (ops!:=[.ο d,_]) dd.YQ Δ.F.slot_dict_getitem.ς ?_ m;let(p,hw,c):=aE.some_of (v:=z) (o:=BVvsk) (by rw[<-l];show f.val k);show wpAny_getItem_of! (knd:=sK X.Ω X.w) (k:=k) (strKind_is! __kt) dd.mapOf hw QVe
def bl! QJx QRD:qNPwH (h.Uu {dM:=.TB "dict",mY:=.wF #[]}) h.u_.fC^x6 (sK Pw) h.u_.fC []:=
 MF (knd:=sK Pw) (Ul.Ui QNS) QDx .nS QKO
inductive RZ QDl:γ^ψbI->γbI->γQDa->Prop where
 |nS:RZX [] [] []
 |nF {kv:bI} {ks:γ^ψbI} {vs:γbI} {a:bE} {y:V} {bZ:γQDa}:mPXk^tC^.uM a->mPXv^tC y->RZXksvsbZ->RZX (δk::ks) (v::vs) ((a,y,)::bZ)
abbrev ML!(p:bE×V)(q:η×η):Prop:=(∃t,q.1=.uM p.1 t)/\nT p.2 q.2
abbrev Kf!(bZ:γQDa)(r:γ (η×η)):Prop:=r.β=bZ.β/\∀QAu(p:bE×V)(q:η×η),bZ[i]?<*p->r[i]?<*q->ML! pq
def Kf.nF(h:ML! pq)(c:Kf! bZr):Kf! (p::bZ) (q::r):=(by rw[oY,oY,c.1],λiabed=>by
 cases i with
 |qW=>cases e;cases d;show h
 | qV i=>show c.2 iabed)
def Ku!{c:St}(h:RZXksvsbZ):∀{s:Θ}{Q:γ (η×η)->Θ->Prop},f'XbcH s->(∀r s',f'XbcH s'->Kf! bZr->Qr s')->lZQAA X.A (evalPairs! QNf) Q X.xe s:=by
 induction h with
 |nS=>show λIq=>pairTrees_nil_walk!^q [] _ I (rfl,λipqe_=>by cases e)
 |@nF k v ks vs a y bZ z o _ n=>
  intro sQ Iq;show pairTrees_cons_walk! (nb (z b s cH (λxH'=>x=.uM a/\H'=H) I (0,0)) λulf=>?_);let(x,j,L,m,E,D):=f;subst E D;show nb (oblcj (λxH'=>x=y/\H'=j) L (0,0)) λN s2g=>?_;let(M,P,J,d,C,B):=g;subst C B;show n J λr O Ft=>q__ F^Kf.nF (m,d) t
def eg!{bZ:γQDa}(h:k∉bZ.Tx Prod.fst):tWbZk=ε:=by
 induction bZ with
 |nS=>rfl
 |nF p r a=>
  rw[y3,u3,not_or!]at h;rw[VO λz=>h.1 z.UH];show a h.2
abbrev Uh! QLB QBg(bZ:γQDa):TE:=λ_HQ=>∀pH',Hp=ε->mIHH'->H'p<*x6 (sK Pw) pbZ->Q QAlH'
def CC!(M:RZXksvsbZ)(Z:(bZ.Tx Prod.fst).qg)(h1:0<bZ.β)(O:bZ.β≤15)(x:((pairTrees! ksvs X.fN b8).β=bZ.β)>>>4)(hz:(ks.β=vs.β)>>>4)(eM:(ks.u7 (·.BC)=π)>>>4):mPX (.Dict ksvsb8)^Uh! X.Ω X.w bZ:=by
 intro m s THQ Ih;let f:=I.rv.ax^nZ s⁻¹;let kM:=I.laid (a:=s⁻¹) (o:=x6QO2 s⁻¹ []) (t':=s.mU) (λ__q=>nN {dM:=.TB "dict",mY:=.wF #[]} q) QBF^bl! s.ρ I.bigS;let E:=zip_pairTrees! ksvs X.fN b8eM hz;rw[arm_eval_Dict!,E,dictDisplay_pairs! QNf (by intro z;rw[z]at x;rw[<-x]at h1;show mWh1QD_)^by rw[x];lia];show lT^F9QDr;unfold subDict!;show lTQM9;rw[mG^by rw[x];show O];show lT (Ku! MkM λr s1jRR=>tOQDr);let F:=R.1.UH;show wpAny_forIn_list! _ (λf6_ s'=>∃(i:χ)(H':m1),i+f6.β=bZ.β/\f6=r.Gd i/\f'Xm TH's'/\H' s⁻¹=δ^x6QO2 s⁻¹^bZ.Uj i/\mIHH') _ ?_ ?_ r_ ((0),_,by rw[χ.WL];show F.UH,0,jR,hJ,mI.mE f)
 .rintro⟨u,v⟩f6 _ s2⟨i,H',A,S,B,b5,C⟩;let J:r[i]?<*(u,v,):=by
   have:=oR (λl=>l[0]?) S;simpa using this.UH
  let n:i<bZ.β:=by rw[oY]at A;show Jd! A
  obtain⟨⟨a,y⟩,d⟩:∃p,bZ[i]?<*p:=(_,mOn);let hR:ML! (a,y,) (u,v,):=R.2 i__d J;let((t,P),U):=hR;let P:u=.uM a t:=P;subst P;let(ns,D,ws,c,dd):=BM (knd:=sK X.Ω X.w) B.rv b5;show lT (wpAny_dictSet_pairs! (knd:=sK X.Ω X.w) (k:=a) (hsz:=by rw[<-c.β];show D) (strKind_is! __at) dd λh'g Y=>mR ?_);let L:tW (bZ.Uj i) a=ε:=eg! λz=>by
   rw[map_take!]at z;let(j,i',e):=γ.mem_take_iff_getElem.mp z;let N:j<i:=pPi'^χ.min_le_left __;let e2:(bZ.Tx Prod.fst)[i]'(by rw[j'];show n)=a:=by
    rw[γ.getElem_map];have:=(m9d).2;rw[this]
   show mW ((getElem_inj! Z).mp^e.ξ e2.UH)^p8N
  let W:=aE.none_of (show aEε (BVwsa) by rw[<-L];show c.val a);rw[KMW]at g;let kO:bZ.Uj (i+1)=bZ.Uj i++[(a,y,)]:=by rw[FW,d];rfl
  show(i+1,mEH' s⁻¹^x6QO2 s⁻¹^bZ.Uj (i+1),by rw[oY]at A;show Ge! A,3,3,hJ,λboe=>?_)
  .have:=oR γ.tail S;rw[γ.tail_cons,γ.tail_drop]at this;show this
  .rw [kO];show JPB (by rw[b5];show vN.Vw) Y (by let(o,_,_,q,_):=g;show (o,q))^MFns (m6^by rw[o9,rS];change _≤16777216;simp;lia) (XMc U) g
  .rw [a' λz=>by rw[z,f]at e;cases e];show C__e
 .rintro _ s2⟨i,H',A,_,B,b5,C⟩;have:i=bZ.β:=by rw[length_nil!]at A;omega
  rw[this,XF]at b5;show mR^mR^mR (.ο s⁻¹,H',B,0,h__fCb5)
end
namespace Ig
abbrev Ld! QCv:pZ:={dM:=.TB "range_iterator",mY:=.xq #[oVQU4,oV (n:ω),oV (-1)]}
abbrev MN(a bc:ω):b9:=Builtin.hh.WF a&&Builtin.hh.WF b&&Builtin.hh.WF c&&Builtin.hh.WF (-c)&&Builtin.hh.WF (a-c)&&Builtin.hh.WF^Builtin.hh.rangeSize a bc
def VL!(r:θ)(a bc:ω)(tuv:Tok)(i:¬ (!(Builtin.hh.WF a&&Builtin.hh.WF b&&Builtin.hh.WF c&&Builtin.hh.WF (-c)&&Builtin.hh.WF (a-c)&&Builtin.hh.WF^Builtin.hh.rangeSize a bc))=π):Meets! (Builtin.«range.__reversed__» ([.ο r],[])) (λ_ R s=>s.ρ.Ξ r=δ {dM:=.TB "range",wF:=ε,mY:=.xq #[.tV a t,.tV bu,.tV cv],slots:=#[]}/\
   R (.ok^.ret^.ο s⁻¹) {s with ρ:=s.ρ.Uu {dM:=.TB^if MNabc then "range_iterator" else "longrange_iterator",mY:=.xq #[oV (a+(Builtin.hh.rangeSize a bc-1)*c),oV^Builtin.hh.rangeSize a bc,oV (-c)]} }):=
 .of_wp λΩw A R sh=>by let(b5,g,d,e,os):=s;let(f,h):=h;wp_walk;show(2,h)
section
variable{Ω:nA}{w:o4}{A:o7}{E:η->Θ->Prop}{s:Θ}{r:θ}{n:χ}
def Wr!{ma:Sem b}QNu(e:m=a)(h:lZM AaQ E s):lZM AmQ E s:=e▸h
def gK!(e:s.ρ.Ξ r<*{dM:=.TB "range",mY:=.xq #[.tV 0 t,.tV (n:ω) u,.tV 1 v]})(f:n<2^60)(h:Q QAY {s with ρ:=s.ρ.Uu^Ld! n}):lZQASA (wG (.TB "reversed") [.ο r]) Q E s:=by
 let ty:s.Yf (.ο r) "range":=QKK;let hsz:Builtin.hh.rangeSize 0 (n:ω) 1=(n:ω):=by rw[rangeSize_one!];split<;>lia
 let d:∀z:ω,-QP6≤z->z<2^62->Builtin.hh.WF z=π:=λzh1h2=>by
  unfold Builtin.hh.WF;simp only[xI,A4];lia
 let ok:MN 0 n 1=π:=by
  unfold MN;rw[hsz,d_ Xj! Gu!,d_kP (!6),d_ (!6) (!6),d_ (!6) (!6),d_ (!6) (!6)]at⊢;rfl
 show callType_other! (U:="range_iterator") (Q₁!:=λcb=>c=.ο s⁻¹/\b={s with ρ:=s.ρ.Uu^Ld! n}) (!3) F.create_reversed QT4 F.made_reversed (by rw[XG];kernel_rfl) QNg ?_ ?_
 .refine codeAny_of_tree! ?_;show lT^uZQOH^mR (X9 F.plain_reversed_new _,BR F.entry_reversed_new ?_);rw[o7.Xg F.plain_reversed_new _];let h1:=newClass_reversed!^.ο r;unfold Builtin.«reversed.__new__»;show lT (uZh1 ?_);show lT (uZ (a:=()) (by first|rfl|kernel_rfl) ?_);show lT (uZ (a:=()) (by first|rfl|kernel_rfl) ?_);show lT (YW ty F.slot_range_reversed.ς ?_);show lT (uZ (F.slot_range_reversed.bind _) ?_);show Wr! (show _=(do rule "reversed.__new__.own-method";ret (<-runValue!^.wG (.Rm "range.__reversed__") ([.ο r],[])))from ζ) ?_;show lT (Z7 ?_);show lT (m:=runValue!^.wG (.Rm "range.__reversed__") ([.ο r],[])) (show lZ__ (wG (.Rm "range.__reversed__") [.ο r]) ___ from call_meets! F.slot_range_reversed ty F.entry_range_reversed (F.args_range_reversed_1 _) (VL! r 0 n 1 tuv^by change ¬ (!MN 0 n 1)=π;rw[ok];decide) (e,3));rw[ok,hsz,mGζ];show lT^mR^mR (0,3);unfold Ld!;rw[show(0:ω)+QU4*1=(n:ω)-1 by lia]
 .rintro c b⟨rfl,ζ⟩;show(QFB,h)
end
end Ig
abbrev OA QCv:zI:=(λi_=>i<n,λiHvH'=>H'=H/\v=.tV QQi,λi_=>n≤i)
def se! QC1 QRy QCv:H2PwK J (OAn) [it] it (λih=>IsRangeIter! h it ((n:ω)-1+(i:χ)*(-1)) ((n:ω)-(i:χ)) (-1))  where
 mem:=aL.Ui ζ
 obj:=λih st ba=>by
  obtain ζ:=o6a;show(_,st,λv(z:Data.xq _=Data.aQ v)=>by cases z)
 AP:=λihh' st k=>k it QN'_ st
 item:=by
  intro Xl hw mjid syH E If st g;subst l hw m;let(x,u,D,r,q,p):=f it QN';show(Walks.b_ (Ω:=X.Ω) (w:=X.w) QL7 it QU4 (-1) n).item i s__g st λvh'ACcB=>?_;let(t,ζ):=C;show(2,NA (s:={s with ρ:=h',mU:=A}) (n:="range_iterator") cζζ (!0) (.tV QQi,H,I.T7 (λboae=>Bbo (λz=>a^o6z) e) xurqp,(t,3),(0,0),c,λba=>(fba).1));rw[ω.mul_neg,ω.mul_one];rfl
 done:=by
  intro Xl hw mjid syH E If st g;subst l hw m;let(x,u,D,r,q,p):=f it QN';show wpAny_pyNext_range_end! QL7 st (by have:n≤i:=g;show Gm! this) λh'F=>(0,I.T7 (t':=s.mU) (λboae=>Fboae) xurqp)
 self:=λ_____ st h=>wpAny_pyIter_rangeiter! st h
abbrev R_!(bW:w4):TI:=λσH R=>bWσH λvsH1=>∃n:χ,vs=[.tV (n:ω)]/\n<2^60/\R (OAn) H1
def KQ!{ya:bI}{pgb8c:nV}(E:pUX "reversed")(D:X.mg "reversed"=ε)(k:pUX "range")(j:X.mg "range"=ε)(J:qTX [a] z)(r:(Ψ [.Wm (.Ip "range" g) [a] [] c] X.fN=[(ν,oF (.Wm (.Ip "range" g) [a] [] c) X.fN,)])>>>4)(i:QRz>>>4):vZXy (.Wm (.Ip "reversed" p) [.Wm (.Ip "range" g) [a] [] c] [] b8)^R_! z:=by
 intro d smH R Ih;show y0^CJI ED boot_reversed! (WC.Rows.Wx (e:=.Wm (.Ip "range" g) [a] [] c) (f6:=[]) ?_ rζ);rw[r];show YL.spliced_cons^y0^CJIkj WC.Rows.boot_range^WC.Rows.Wx (nb (Jcd smH_ Ih) λusfl=>?_) iζ;let(vs,x,w,A,n,L,C,q):=l;subst L;let(M,ζ,t,ζ):=x5A;show call_range_1!^YL.spliced_nil (Ig.gK (n:=n) (t8_ζ) C ?_);generalize u:f.ρ.Uu _=B;let kB:∀bo,f.ρ.Ξ b<*o->B.Ξ b<*o:=λboe=>u▸nN_e;let N:f⁻¹≤B.u_.fC:=by rw[<-u,yW];show le_succ! _
 let st:IsRangeIter! (B.Uu^Ig.Ld n) B.u_.fC ((n:ω)-1+((0:χ):ω)*(-1)) ((n:ω)-((0:χ):ω)) (-1):=by
  rw[show(n:ω)-1+((0:χ):ω)*(-1)=(n:ω)-1 by lia,show(n:ω)-((0:χ):ω)=n by lia];show t8_ζ
 show wpAny_pyIter_rangeiter! st (_,[B.u_.fC],_,OAn,x,0,w.Zo λboe=>nN_^kB boe,se! _n,st,λb F=>?_,q);obtain ζ:=o6F;let v:f'Xdmx {f with ρ:=B}:=w.Zo (t':=f.mU) kB;show v.fpOk QBF^v.rv.ax QBF
def Uc!{g:TG}{j:oW}QHx(J:χ->St->m1->Prop)(o:J 0 aH)(step:∀iaH,i<n->JiaH->g (.tV QQi) aH λbf=>j {D with pO:=J (i+1),ct:=J (i+1),hU:=D.pO} bf)(d:∀aH,JnaH->D.pO aH):∃W:χ->χ->St->m1->Prop,QEr/\∀imaH,WimaH->((OAn).lP iH/\D.pO aH)\/((OAn).go iH/\∃N:St->m1->Prop,QHD/\∀xH',(OAn).yld iHxH'->g xaH' λbf=>j {D with pO:=N,ct:=N,hU:=D.pO} bf):=by
 show(λimaH=>m=n-i/\i≤n/\JiaH,(n,9,pT_,o),3);rintro i m a H⟨rfl,p,l⟩;by_cases e:i=n
 .subst e;show .UR (nZ_,d__l)
 .refine .P2 ((zo95! ep:i<n),J (i+1),λcH'h=>(n-(i+1),9,0,9,h),3);rintro x H'⟨rfl,ζ⟩;show step ia_ (zo95! ep) l
end _F
namespace _b
open _F
abbrev nO QA6 QMX:Prop:=∀c∈u,c∈L
abbrev pE QA6 QDu QAt:lU->Prop:=λu=>nOLu/\AC L WBu=π
abbrev aF QFg:lU->Prop:=λu=>∃xv,u=x++v/\Ax/\Cv
abbrev aO QCQ:lU->Prop:=λu=>A u.UQ
abbrev IA QFg:lU->Prop:=λu=>Au\/Cu
abbrev RO QFg:lU->Prop:=λu=>Au/\Cu
abbrev N5 QFg:lU->Prop:=λu=>Au/\¬ Cu
abbrev C6 QA6 QCQ:lU->Prop:=λu=>nOLu/\¬ Au
inductive vT QCQ:lU->Prop
 |nS:vTA []
 |jA {xv:lU}:vTAx->Av->vTA (x++v)
section
variable{A CD:lU->Prop}{L:lU}{W W1cE:n0}{BeYhV:γb9}
def pF(h:∀u,Au↔Cu):A=C:=funext λu=>propext!^hu
def b_s!:nOL (x++v)↔nOLx/\nOLv:=(λh=>(λc a=>hc^XS_a,λc a=>hc^F5_a),λhca=>(lp.mp a).Q5 (h.1 c)^h.2 c)
def h_B!:nOL u.UQ↔nOLu:=(λhca=>hc^mem_reverse.Ui a,λhca=>hc^mem_reverse.mp a)
def vT.uR(h:Av):vTAv:=by
 have:=vT.nS.jA h
 rwa [nil_append!]at this
def vT.app(c:vTAx)(b:vTAy):vTA (x++y):=by
 induction b with
 |nS=>rw[vP];show c
 |jA _ h a=>rw[<-u4];show a.jA h
def RQ!(h:∀u:lU,QA_->(AC L WBu=π↔aa! QDIQHpu)):pEL WB=aFQDJQF6:=pF λu=>by
 constructor
 .rintro⟨a,e⟩;let(x,v,ζ,d,b):=(hua).mp e;show(x,v,0,((b_s.mp a).1,d),(b_s.mp a).2,b)
 .rintro⟨x,v,ζ,⟨h1,d⟩,h2,b⟩;let a:=b_s.Ui QM8;show(a,(h_a).Ui (x,v,0,d,b))
def xg!(h:∀u:lU,QA_->(AC L WBu=π↔y9QDIu)):pEL WB=vTQDJ:=pF λu=>by
 constructor
 .rintro⟨d,f⟩;let e:=(hud).mp f;clear h f;induction e with
  |nS=>show .nS
  |jA _ _ i b=>show(b (b_s.mp d).1).jA ((b_s.mp d).2,i)
 .intro s;let a:nOLu/\y9QDIu:=by
   induction s with
   |nS=>show(λcg=>(nomatch g),.nS)
   |@jA x v _ h1 b=>
    show(b_s.Ui (b.1,h1.1),3);by_cases e:v=[]
    .rw [e,vP];show b.2
    .exact b.2.jA e h1.2
  show(a.1,(hu a.1).Ui a.2)
def hB!(h:∀u:lU,QA_->(AC L WBu=π↔wz! QDIu)):pEL WB=aOQDJ:=pF λu=>(λ⟨a,e⟩=>(h_B.Ui a,(hua).mp e),λ⟨a,e⟩=>(h_B.mp a,(hu^h_B.mp a).Ui e))
def oa!(h:∀u:lU,QA_->(AC L WBu=π↔OC! QDIu)):pEL WB=C6LQDJ:=pF λu=>by
 constructor
 .rintro⟨a,e⟩;show(a,λz=>by let b:=z.2;rw[show AC L W1eYu=ν from(hua).mp e]at b;cases b)
 .rintro⟨a,e⟩;show(a,(hua).Ui^eq_false_iff.Ui λz=>e (a,z))
def pd!(h:∀u:lU,QA_->(AC L WBu=π↔U3QO3QDIQHpu)):pEL WB=IAQDJQF6:=pF λu=>by
 constructor
 .rintro⟨d,e⟩;show((IP__).mp QNh).imp (⟨d,·⟩) (⟨d,·⟩)
 .rintro (⟨d,e⟩|⟨d,e⟩)
  .exact (d,(hud).Ui^(IP__).Ui^.UR e)
  .exact (d,(hud).Ui^(IP__).Ui^.P2 e)
def RX!(h:∀u:lU,QA_->(AC L WBu=π↔U3QO4QDIQHpu)):pEL WB=ROQDJQF6:=pF λu=>by
 constructor
 .rintro⟨d,e⟩;have:=(xI__).mp QNh;show((d,this.1),d,this.2)
 .rintro⟨⟨d,g⟩,_,f⟩;show(d,(hud).Ui^(xI__).Ui (g,f))
def TH!(h:∀u:lU,QA_->(AC L WBu=π↔U3QNiQDIQHpu)):pEL WB=N5QDJQF6:=pF λu=>by
 constructor
 .rintro⟨d,e⟩;have:=(xI__).mp QNh;show((d,this.1),λz=>by rw[z.2]at this;cases this.2)
 .rintro⟨⟨d,g⟩,f⟩;show(d,(hud).Ui^(xI__).Ui (g,by rw[PA];show eq_false_iff.Ui λz=>f (d,z)))
end
abbrev VD! QA6:K1->QH5->lU->Prop
 |.WA=>C6L
 |.T7=>aO
 |.again=>vT
abbrev OH!:K2->QH5->QH5->lU->Prop
 |.YH=>IA
 |.less=>N5
 |.both=>RO
 |.WG=>aF
abbrev AM QA6(iJ:b9)(S:lU):lU->Prop:=λu=>(u=[]/\iJ=π)\/∃c∈L,c∈S/\u=[c]
abbrev ac QA6:cF->lU->Prop
 |.yT .X5=>AMLν []
 |.yT .X7=>AMLπ []
 |.yT .I9=>AMLνL
 |.yV c=>AMLν [c]
 |.uR k x=>VD! LkQH6
 |.rE k x y=>OH! kQH6^ac Ly
abbrev Sp!(L S:lU):n0:=[L.Tx λc=>if S.Hr c then 1 else 2,L.Tx λ_=>2,L.Tx λ_=>2]
section
variable{L S:lU}{iJ:b9}
def Tv!(d:ww L):oOLQDT [iJ,π,ν]:=by
 show(d,by change 1≤3;decide,by change 3≤2100;decide,0,λwsh=>?_);let a:ws.β=L.β/\∀x∈ws,x<3:=by
  rcases u3.mp h with ζ|h
  .refine QVs;let(c,_,ζ):=WB.mp b;split<;>decide
  .have:ws=L.Tx λ_=>2:=by
    rcases u3.mp h with ζ|h
    .rfl
    .exact o6h
   subst this;show QVs;let(c,_,ζ):=WB.mp b;decide
 show a
def Ts(b:c∈L):rYLQDT 0 c=(if S.Hr c then 1 else 2)/\rYLQDT 1 c=2/\rYLQDT 2 c=2:=by
 let a:=wZb;let e:∀f:χ->χ,(L.Tx f).TC QBW 0=fc:=λf=>by
  rw[pu,na,mOa,WW];rfl
 show(e_,e_,e_)
def vD!:∀{u:lU},nOLu->n6LQDT 2 u=2
 |[],_=>rfl
 |c::u,h=>by
  change n6LQDT (rYLQDT 2 c) u=2;rw[(Ts^hccG).2.2];show vD! λxa=>hxQTk
def Ck!:pELQDT [iJ,π,ν]=AMLiJS:=pF λu=>by
 match u with
 |[]=>show(λh=>.UR (0,h.2),λh=>(λc a=>(nomatch a),h.Q5 And.right λ⟨_,_,_,z⟩=>(nomatch z)))
 |[c]=>
  constructor
  .rintro⟨b,e⟩;let a:=bccG;let e:[iJ,π,ν].TC QIXν=π:=e;rw[(Tsa).1]at e;by_cases d:S.Hr c=π
   .exact .P2 (c,a,Xn.mp d,0)
   .rw [mFd]at e;cases e
  .rintro (⟨z,_⟩|⟨i,a,d,z⟩)
   .cases z
   .cases z;show(λxf=>by rw[o6f];show a,3);show[iJ,π,ν].TC QIXν=π;rw[(Tsa).1,mG^Xn.Ui d];rfl
 |c::g::u=>
  constructor
  .rintro⟨b,e⟩;let h1:=Ts (S:=S)^bccG;let h2:=Ts (S:=S)^bg^qO_cG;let e:[iJ,π,ν].TC (n6LQDT (rYLQDTQIXg) u) ν=π:=e;let z:rYLQDTQIXg=2:=by
    rw[h1.1];split
    .exact h2.2.1
    .exact h2.2.2
   rw[z,vD! λxf=>bx^qO_QOh]at e;cases e
  .rintro (⟨z,_⟩|⟨_,_,_,z⟩)<;>cases z
end
structure xZ QAH(m:θ)QA6 QDu QAt:Prop where
 mt!:tFHmL WB
 ma!:oOL WB
 le:W.β≤8
def xZ.kt(h:xZHmL WB)QGq:xZH'mL WB:=(k.mach h.mt,h.ma,h.le)
def oU.kt{ts:γQAV}QMJ QGq:∀QIM{v:V},oUHtv->oUH'tv
 |.yT _,_,⟨a,e,b⟩=>(a,e,k.jN.iT __b)
 |.yV _,_,⟨a,e,b⟩=>(a,e,k.jN.iT __b)
 |.uR _ x,_,⟨a,u,e,b,c⟩=>(a,u,e,k.jN.iT __b,oU.kt k (t:=x) c)
 |.rE _ x y,_,⟨a,u,w,e,b,c,d⟩=>(a,u,w,e,k.jN.iT __b,oU.kt k (t:=x) c,oU.kt k (t:=y) d)
def tn!(h:oUHtv)(a:t.Kd≤n+1):(∃k,t=.yT k)\/(∃c,t=.yV c)\/∃(p:θ)(nm:bE)(us:γ V)(ps:γcF),v=.ο p/\Hp=δ^.iT (.uM nm::us)/\us.β=ps.β/\1≤us.β/\us.β≤2/\nm≠"sign"/\
  (∀QIL(u:V),us[j]?<*u->∃x,ps[j]?=δx/\oUHxu/\x.Kd≤n)/\((∃kx,t=.uR kx/\nm=Ix k/\ps=[x])\/∃kxy,t=.rE kxy/\nm=DVk/\ps=[x,y]):=by
 cases t with
 |yT k=>show .UR (k,0)
 |yV c=>show .P2^.UR (c,0)
 |uR k x=>
  let(p,u,e,b5,b):=h;let a:x.Kd+1≤n+1:=a;show .P2^.P2 (p,_,[u],[x],e,b5,0,nZ_,by change 1≤2;decide,by cases k<;>decide +kernel,λjde=>?_,.UR (k,x,5,0));match j with
  |0=>cases e;show(x,0,b,χ.le_of_succ_le_succ a)
  |j+1=>simp at e
 |rE k x y=>
  let(p,u,w,e,b5,b,f):=h;let a:max x.Kd y.Kd+1≤n+1:=a;show .P2^.P2 (p,_,[u,w],[x,y],e,b5,0,by change 1≤2;decide,nZ_,by cases k<;>decide +kernel,λjde=>?_,.P2 (k,x,y,5,0));match j with
  |0=>cases e;show(x,0,b,aK! a)
  |1=>cases e;show(y,0,f,W5a)
  |j+2=>simp at e
def _root_._F.KT.X6{yszs:γ V}QGq(l:HD=ε)(c:H'D<*.P' ys):KTtsH^mEH'D^.P' zs:=by
 show(λboje=>by rw[a'^oZel];show k.jN boje,λhpb5=>?_);let(ps,d,i,a):=k.dE hpb5;show(ps,by rw[a'^qSdc (!5)];show d,i,λxg=>(axg).imp id λ⟨n,m,f⟩=>(n,m,3));rw[a'^qSfc (!5)];show f
def xZ.X6{yszs:γ V}(h:xZHmL WB)(a:HD<*.P' ys):xZ (mEHD^.P' zs) mL WB:=by
 show(h.mt.Xk λbxse=>?_,h.ma,h.le);rw[a'^qSea (!5)];show e
end _b
namespace _F
open PySem.Spec PyProof.Rows _b
def Ub!{p:TE}{k:St}{Q:oE}(t:CVJaQFLxs)(g:θ->χ->γ V->m1->Prop)QIC(u:∀DiysH',gDiysH'->H'a=δQFL/\H'D=δQBc/\ys.β=i)(E:∀D,HD=ε->gD 0 []^mEHDQB3)(z:∀(D:θ)QAu(x:V)(ys:γ V)QBe(q:oE),HD=ε->xs[i]?<*x->gDiysH'->(∀yf,fD<*.P' ys->gD (i+1) QBqQQj->qyf)->p (δx::k) H'q)(A:∀DysH',HD=ε->gD xs.β ysH'->Q QA0H'):∀D,HD=ε->∃W:χ->χ->γ V->m1->Prop,
 (∃m,W 0 m []^mEHD^.P' [])/\∀imysd,Wimysd->dD=δ^.P' ys/\((J.lP i d/\Q (.ο D) d)\/(J.go i d/\ys.β<Φ/\∀xj,J.yld i d xj->
  tAlways! (δx::k) j λbr=>if b=π then p (δx::k) r λyf=>fD=δQBc/\∃h,h<m/\W (i+1) hQBqQQj
   else ∃h,h<m/\W (i+1) hysr)):=by
 intro Do;show(λimysd=>m=xs.β-i/\i≤xs.β/\gDiysd,(xs.β,!1,pT_,EDo),3);rintro i m ys d⟨rfl,B,b5⟩;let(C,n,v):=uDiysdb5;show(n,3);let(q1,q2,s):=tdC;by_cases c:i<xs.β
 .refine .P2 (q1ic,VM (G'v)^pPc hz,λxjl=>?_);let(e,w):=q2ixjcl;subst e;show hI (zDixysj_owb5 λyfab=>(a,xs.β-(i+1),N0__c,0,c,b))
 .let e:i=xs.β:=ZVB^xGc;subst e;show .UR (s,ADysdob5)
def uB!{P1:θ->m1->Prop}(e:∀R:oE,(∀a b,P1ab->ba<*.iT xs->RQAeb)->kgH R)(c:m1->θ->χ->γ V->m1->Prop)QIC(n:∀baDiysH',ba<*.iT xs->cbDiysH'->H'a=δQFL/\H'D=δQBc/\ys.β=i)(q:∀bD,bD=ε->cbD 0 []^mEbDQB3)(o:∀QCw(b:m1)(D:θ)QAu(x:V)(ys:γ V)QBe(d:oE),P1ab->bD=ε->xs[i]?<*x->cbDiysH'->(∀yf,fD<*.P' ys->cbD (i+1) QBqQQj->dyf)->l (δx::g) H'd)(p:∀a bDysH',P1ab->bD=ε->cbD xs.β ysH'->Q QA0H'):EF (SNk) tAlways! lgHQ:=
 e _ λa bhj=>(a,_,xs,0,.P2 ζ,j,λ_m=>Ub! m (cb) hz (λDiysH'=>n baDiysH'j) (qb) (λDixysH'd=>oabDixysH'dh) λDysH'=>p a bDysH'h)
def EG{f:bE}{b8:nV}QAw(b:mPXea)(d:(X.K=K)>>>4)(c:QMY>>>4):mPXQHe^sYKaf:=by
 subst d;show zK! bc
section
variable{X:n8}{kj:χ}{ps:γbE}{sp:wY}{my:bE}{pb8 apos fRj1 ap:nV}{oece1e2:bI}{es:γbI}{bW:TE}{t:w4}{ι:Type}{C:ι->θ}{f:θ}{fd:uP}
abbrev W_!(C:ι->θ)(m:bE)QIL QPc(bW:TE)QHR:QJZ->oW:=λGDσH=>bWσH λxH0=>∃ia dx fs,x=.ο a/\H0a=δ^.TM (Ci) dx fs/\fs.ς m=ε/\tσH0 λvsH1=>sp (x::vs) H1 (λvbF=>D.pO (σ.X6 jQFq) bF)^Gσ
def Q3{pl:Sem b9}(eR:X.N.qg)(he:mP X.nox obW)(cl:∀i,zV X.K^Ci)(Y:∀i,M3 X.K (Ci) mf)(F:mT X.Ω X.w X.K X.mg X.υ (tP X.Ω X.w) kf fd ps sp)(cT:q4k X.A)(B:p6 X.K fd ps [])(eM:qT X.nox (e::es) t)(i':X.N[j]?<*y)(d7:yJ X.fN.g8 y)(eZ:(Ψ (e::es) X.fN=(ν,oFe X.fN,)::Ψes X.fN)>>>4)(M:((pNfR^Ψes X.fN).I9 (·.1)=ν)>>>4)(fP:(oF (.Wm (.Za om apos) (e::es) [] fR) X.fN=(do
   let U <-oFo X.fN
   standAt! apos.atName
   let(f,first,) <-holding! [U]^getMethod! Um pl
   callWith! fR f first (pNfR^Ψ (e::es) X.fN) (backToKw! fR^ZW [] X.fN)))>>>4)(hs:(Z' (.Wm (.Za om apos) (e::es) [] fR) (δ^.Ip yj1) ap.Zm X.fN=pure ν)>>>4)(hf:(X.fn y=π\/X.fN.g8.TW.ς y<*.local)>>>8):PX! X (.Assign [.Ip yj1] (.Wm (.Za om apos) (e::es) [] fR) ap)^W_! Cmj sp bWt:=by
 intro b sdHD G Ih;show wpAny_Assign_Name! (pW (Q:=xWXbd λvn=>D.pO (d.X6 jQFq) n) ?_ (λv S P=>by let(w,R,L,r1,q1):=P;show RTLeRi'd7r1 (λs2E=>(_,R,E,q1)) hf) λ__z=>z) hs;show Δ.W.methodCall_KW (pl:=pl) (pW (he b sdH_QN2h) (λu S O=>?_) λ__z=>z.Q5) fP;let(x,R,L,Z,i,a,dx,fs,ex,l',l,q):=O;subst ex;obtain ζ:u=η.ο a:=Z;show Hw! L.Z_ l' (cl i) (Yi) l ?_;show callWith_K! (first:=[.ο a]) (h₀:=X.υ) I.ok.mod.kin (Yi).C9 (pW (eMfRb Sd R_Lq) (λuss2⟨vs,n,E,r,q2⟩=>(E.kIn,3)) λ__z=>z.Q5) eZM;let J:f'Xbdn s2:=E.Z_;let T:oG (V.ο a::vs) QO5:=.nF ζr;show zO (BS (F.n6 X.A X.US s2n (η.ο a::us,[]) QO5 (V.ο a::vs) __cT J.env0 ?_ Tq2) λr s'g=>?_)
 .let B:=B s2QO5 J.kIn;rw[vP]at B;show B (by rw[<-T.β];show F.eN ____q2)
 .cases r with
  |G2 ev=>show(d,n,s2,J,g)
  |ok j6=>
   cases j6 with
   |ret u=>show J.after g
   |next=>show oA.Q5 g
   |brk=>show oA.Q5 g
   |cont=>show oA.Q5 g
variable{V:lU}{TlAjS:(χ->cF)->cF}{x1:ExprCtx!}
end
abbrev HM QAw(xq:bE)QTA QFO:Prop:=∃fd,nEKxq st f fd
section
variable{K:qI}{xq:bE}{st:cZ}{f:θ}{fd:uP}{q0q1q2:bE}
def Up!{kVcR pm ct:η}(l:K.ς f<*(e,d,.YN^q3xqQR'QSAQIg .ε kVcR pm an QEC ct,a))(c:t9KQECq=π):HMKxq st f:=QU1
end
structure eB! QAw(CcPf Ka!:θ):Prop where
 pc:MH! KCcP
 me!:M3KC "shape" f
 NO:M3KC "machine" Ka!
end _F
namespace _b
open _F
section
variable{A CD:lU->Prop}{L:lU}{xyz:cF}
section
variable{t s:cF}{ndciec' Ce!:χ}
end
end
section
def z7.C9(k:F3HH')(h:z7 (oUH) xsts):z7 (oUH') xsts:=h.imp λ__z=>z.C9 k
end
def cf! QJa:∀QBmQHVQMw,z7Rxsts->j<xs.β->∃vt,xs[j]?=δv/\ts[j]?=δt/\Rtv
 |x::_,t::_,0,h,_=>(x,t,5,h.1)
 |_::xs,_::ts,j+1,h,a=>cf! (xs:=xs) (ts:=ts) h.2^χ.lt_of_succ_lt_succ a
end _b
namespace _F
namespace fz
abbrev cs QJM:γ Char!:=l.Tx Char.ofNat
def fK!:Manifest.owners.ς^String.ofList (cs [100,101,115,114,101,118,101,114]).UQ<*Manifest.sig_reversed:=by kernel_rfl
def XJ:Slot "reversed" "__next__" "reversed.__next__":=
 .of (owner!:="reversed") (n:="__next__") (by rw[W4,I2];kernel_rfl) (!3) (!3) (!3)
  (by first|show .UR (!3)|show .P2 (!3)) (by rw[XG];kernel_rfl)
def gX!:entryFor! table! "reversed.__next__"<*Builtin.«reversed.__next__»:=entryFor_of_tree! QBJ
def Lc!(a:η):argsOk "reversed.__next__" QLh:=by
 unfold argsOk;rw[signature?_of! (id:="reversed.__next__") (n:=(cs [95,95,116,120,101,110,95,95])) (o:=QDU) QBJ fK!];kernel_rfl
def jc!:Slot "reversed" "__iter__" "reversed.__iter__":=
 .of (owner!:="reversed") (n:="__iter__") (by rw[W4,I2];kernel_rfl) (!3) (!3) (!3)
  (by first|show .UR (!3)|show .P2 (!3)) (by rw[XG];kernel_rfl)
def uK!(a:η):argsOk "reversed.__iter__" QLh:=by
 unfold argsOk;rw[signature?_of! (id:="reversed.__iter__") (n:=(cs [95,95,114,101,116,105,95,95])) (o:=QDU) QBJ fK!];kernel_rfl
def bK!:entryFor! table! "reversed.__iter__"<*Builtin.«dict_keyiterator.__iter__»:=
 entryFor_alias! (id'!:="dict_keyiterator.__iter__") QBJ (by first|rfl|decide +kernel|(unfold String.splitOn;simp +decide [String.splitOnAux])) (!3) QBJ
def pg!:typeLookup! (.TB "str") "__reversed__"=pure ε:=by rw[W4,I2];kernel_rfl
def su!:Slot "reversed" "__init__" "object.__init__":=
 .of (owner!:="object") (n:="__init__") (by rw[W4,I2];kernel_rfl) (!3) (!3) (!3)
  (by first|show .UR (!3)|show .P2 (!3)) (by rw[XG];kernel_rfl)
def Zp!:TypeCalled! "reversed" "reversed.__new__" "object.__init__":=
 (!3,F.create_reversed,QT4,F.made_reversed,F.plain_reversed_new,F.sub_reversed_self,su!)
abbrev As QFJ QIx(i:ω):pZ:={dM:=.TB "reversed",mY:=.xq #[.uM xt,oVi]}
def Mk! QFJ QIx:Meets! (Builtin.«reversed.__new__» ([.TB "reversed",.uM xt],[])) (λ_ R s=>¬ (x.β:ω)≥2^63/\∀k,RQVt {s with ρ:=s.ρ.Uu^AsxtQDV,mU:=k}):=
 .of_wp λΩw A R sh=>by
  let(b,h):=h;let h1:=newClass_reversed! QL1;let h2:=pg!;let d:isSubtype! (.TB "str")^.TB "dict"=pure ν:=by rw[XG];kernel_rfl
  let c:=F.slot_str_getitem.ς;unfold Builtin.«reversed.__new__»;show lT (uZh1 ?_);show lT (uZ (a:=()) (by first|rfl|kernel_rfl) ?_);show lT (uZ (a:=()) (by first|rfl|kernel_rfl) ?_)
  wp_walk using WC.Rows.len_str b
  show(2,h_)
section
variable{Ω:nA}{w:o4}{A:o7}{E:η->Θ->Prop}{s:Θ}{x:bE}{t:Tok}{it:θ}
def TD!(b:¬ (x.β:ω)≥2^63)(h:∀k,Q QAY {s with ρ:=s.ρ.Uu^AsxtQDV,mU:=k}):lZQASA (wG (.TB "reversed") [.uM xt]) Q E s:=
 callType_new! Zp! (!0) QNg QOH QKU F.entry_reversed_new (Mk! xt) (b,λk=>(QFB,hk))
def tL! QEg(b:s.ρ.Ξ it<*Asxt (i:ω))(j:¬ (x.β:ω)≥2^63)(e:x.Ym[i]?<*c)(h:∀h'ku,h'.Ξ it<*Asxt ((i:ω)-1)->zN it s.ρ h'->Q (δ^.uM ⟨#[c]⟩ u) {s with ρ:=h',mU:=k}):lZQASA (BWQCb) Q E s:=by
 let ty:s.Yf QCb "reversed":=(_,b,0);unfold BW;show lT^X8^LJ (cJ:=bE.WK "__next__") ty XJQO6;unfold Builtin.«reversed.__next__»;show lTQK4;try dsimp only
 show lTQLk;show lT (qUbζ (x:=oV (i:ω)) ζ ?_);change lZ__ (if (i:ω)<0 then _ else _) __ s;rw[mF Hk!];let l:=F.slot_str_getitem.ς;let g:i<x.β:=(pV.Vq.mp e).1;let f:(decide ((i:ω) < -(2^63:ω))||decide ((i:ω)≥2^63))=ν:=by
  rw[pI (!6),pI (!6)];rfl
 let d:(seqIndex?! (i:ω) x.β).bind (x.Ym[·]?)<*c:=by
  rw[Δ.StrLaws.seqIndex_nonneg h6^nv! g];show e
 wp_walk using WC.Rows.getItem_str f d
 show(2,mR (h___ ?_ QUk));rw[xF_bQIV];rfl
def wm!(d:A.T6=ε)(c:s.ρ.Ξ it<*Asxt (-1))(e:∀h',n3.ExtBut it s.ρ h'->Qε {s with ρ:=h'}):lZQASA (BWQCb) Q E s:=by
 let ty:s.Yf QCb "reversed":=(_,c,0);unfold BW;show lT^X8^LJ (cJ:=bE.WK "__next__") ty XJQO6;unfold Builtin.«reversed.__next__»;show lTQK4;try dsimp only
 show lT (qUcζ (x:=.uM xt) ζ ?_);show lT (qUcζ (x:=oV (-1)) ζ ?_);change lZ__ (if (-1:ω)<0 then _ else _) __ s;rw[mG (!0)]
 wp_walk
 unfold raiseNew!;show lTQFy;first|rw[show A.in1.T6=ε from d]|rw[d]
 show lT^mRQLK;show lT (TA (T:="StopIteration") (b:=π) QFB isSubtype_stop! ?_);show mR^e_^(((zN.ei ..).ξ QUk).Zt.Uu _).Uu _
def cv!(a:s.ρ.Ξ it<*Asxti)(h:Q QCbs):lZQASA (pyIter QCb) Q E s:=by
 let ty:s.Yf QCb "reversed":=(_,a,0);show wpAny_pyIter_slot! ty jc! (DI jc! ty bK! ?_^uK! _);show mR (2,"reversed",_,ty,XJ.ς,h)
end
def Kg!(r:A.T6=ε)(I:θ)(n:¬ (x.β:ω)≥2^63):Walks! Ωw A I [I] [I] x.β (λiv=>∃cu,x.Ym[x.β-1-i]?=δc/\v=.uM ⟨#[c]⟩ u) QB1  where
 hG:=λb e=>e
 fm!:=λ___yp=>(y.1,p I (!1) _ y.2)
 item:=λi sQ Eqyf=>by
  let a:=y.2;rw[show(x.β:ω)-1-(i:ω)=((x.β-1-i:χ):ω) from ba! q]at a;let m:x.Ym[x.β-1-i]?<*(x.Ym[x.β-1-i]'(by change _<x.β;show Lp! q)):=pV.getElem?_eq_getElem _;show tL! a n m λh'kudg=>?_;rw[show((x.β-1-i:χ):ω)-1=(x.β:ω)-1-((i+1:χ):ω) by omega]at d;show f_h'k (_,u,m,0) (q,d) λboel=>g.Zt bo (λh=>e^by simp[h]) l
 done:=λsQ Eyf=>by
  let a:=y.2;rw[show(x.β:ω)-1-(x.β:ω)=-1 by lia]at a;show wm! ra λh'j=>fh' s.mU λboel=>jbo (λh=>e^by simp[h]) l
 self:=λ____yf=>cv! y.2 f
def h_J!:Slot "reversed" "__length_hint__" "reversed.__length_hint__":=
 .of (owner!:="reversed") (n:="__length_hint__") (by rw[W4,I2];kernel_rfl) (!3) (!3) (!3)
  (by first|show .UR (!3)|show .P2 (!3)) (by rw[XG];kernel_rfl)
def GQ!:entryFor! table! "reversed.__length_hint__"<*Builtin.«reversed.__length_hint__»:=entryFor_of_tree! QBJ
def uL!(a:η):argsOk "reversed.__length_hint__" QLh:=by
 unfold argsOk;rw[signature?_of! (id:="reversed.__length_hint__") (n:=(cs [95,95,116,110,105,104,95,104,116,103,110,101,108,95,95])) (o:=QDU) QBJ fK!];kernel_rfl
def Vb!:typeLookup! (.TB "reversed") "__len__"=pure ε:=by
 rw[W4,I2];kernel_rfl
def j_!:splitId! "reversed.__length_hint__"<*("reversed","__length_hint__",):=by decide +kernel
section
variable{Ω:nA}{w:o4}{A:o7}{E:η->Θ->Prop}{s:Θ}{x:bE}{t:Tok}{I:θ}
def nQ!(b:s.ρ.Ξ I<*AsxtQDV)(c:¬ (x.β:ω)≥2^63)(h:∀ku,s.mU≤k->Q (.tV x.β u) {s with mU:=k}):lZQASA (wG (.Rm "reversed.__length_hint__") [.ο I]) Q E s:=by
 let ty:s.Yf QGP "reversed":=(_,b,0);show DI h_J! ty GQ! ?_^uL! _;unfold Builtin.«reversed.__length_hint__»;show lT (uZ (a:=η.ο I) ζ ?_);show lTQLk
 wp_walk using WC.Rows.len_str c
 rw[show(x.β:ω)-1+1=x.β by lia];show(2,h__^by change s.mU≤s.mU+1+1+1;lia)
def hint!(c:s.ρ.Ξ I<*AsxtQDV)(d:x.β≤16777216)(h:∀bk,s.mU≤k->Qb {s with mU:=k}):lZQASA (Builtin.γ.listLengthHint QGP) Q E s:=by
 let ty:s.Yf QGP "reversed":=(_,c,0);unfold Builtin.γ.listLengthHint;show lT (YW ty Vb! ?_);dsimp only
 repeat' rw[mF (!0)]
 show lT (YW ty h_J.ς ?_);dsimp only;rw[j_!];dsimp only;show lT (TA ty F.sub_reversed_self ?_);rw[mF (!0)];show vM (!3) ?_;show lT^Z7^lT (uZ (h_J.bind _) ?_);dsimp only;show lT (X8^nQ! c (Gr! d) λkuf=>?_);generalize e:(x.β:ω)=n at *;change lZ__ (asInt?! (.tV nu)>>=_) ___;show lT (uZ (a:=δn) ζ ?_);try dsimp only
 let h1:Builtin.γ.listFitsIndex n=π:=by
  unfold Builtin.γ.listFitsIndex;rw[uO (!6),uO (!6)];rfl
 let h2:Builtin.γ.listTooLong n.UD=ν:=pI (not_lt.Ui^by rw[<-e,DM];show m6d);rw[h1,mF (!0),mF (!6),h2,mF (!0)];show mR^h__f
def xL!(W:Walks! Ωw A.in1 I [I] [I] x.β PQB1)(u:s.ρ.Ξ I<*AsxtQDV)(D:x.β≤16777216)(J:∀s'd,Moved! [I] QF7s s'->ItemsOf! Pd x.β->Q d.Zh s'):lZQASA (collect! QGP) Q E s:=by
 let M:=oNu;let B:s⁻¹≠I:=ITM;let q:Builtin.γ.listSameRef QAYQGP=ν:=by simp[Builtin.γ.listSameRef,B]
 let g:(s.ρ.Uu {dM:=.TB "list",mY:=.Yv ([]:γη).Λ}).Ξ s⁻¹<*{dM:=.TB "list",mY:=.Yv ([]:γη).Λ}:=t8_ζ;let l:∀(R:Result!->Θ->Prop)(r:Θ)QFf,(∀s'dc,Moved! [I] QF7s s'->s'.ρ.Ξ s⁻¹<*{dM:=.TB "list",mY:=.Yv dc}->ItemsOf! Pd x.β->RQVts')->
   r.ρ.Ξ I<*AsxtQDV->r.ρ.Ξ s⁻¹<*{dM:=.TB "list",mY:=.Yv #[] c}->Moved! [s⁻¹] QF7sr->
   wI QAS A (.Rm "list.extend.loop" ([.ο s⁻¹,.ο I,.ο s⁻¹],[])) R r:=λRrcLh1h2p=>by
  show codeAny_extend_loopS! W.toS (m6D) _ (by simpa using B) _ x.β 0 r #[] c ζ QDx (pT_,by rw[h1];simp) h2 (ItemsOf.nS P) λs'd Njyf=>?_;show L s'd N (λbone=>?_,j.PF.ξ p.PF,j.drawn.ξ p.drawn,j.os.ξ p.os,n5 p.mU j.mU) yf;let v:b≠s⁻¹:=p8QS';show j.ρ boQJT^p.ρ bo (by simpa using v) e;rcases u3.mp z with z|z
  .exact vz
  .exact nz
 unfold collect!;show lT^wpAny_runValue! (BR F.entry_proto_collect ?_);rw[o7.Xg F.plain_proto_collect _];show lT (m:=newList! [])^I3^mR (X9 F.plain_list_iadd _,BR F.entry_list_iadd ?_);rw[o7.Xg F.plain_list_iadd _];let h1:(s.ρ.Uu {dM:=.TB "list",mY:=.Yv ([]:γη).Λ}).Ξ I<*AsxtQDV:=nN_u;let C:Moved! [s⁻¹] QF7s {s with ρ:=s.ρ.Uu {dM:=.TB "list",mY:=.Yv ([]:γη).Λ} }:=(λbone=>nN_e,5,0,nZ_);change lZ_ A.in1 (Builtin.γ.Zl QAYQGPQAY) ___;unfold Builtin.γ.Zl;show lT (wpAny_typeOf! (_,h1,0)^vM (by rw[q];decide)^lT^cv! h1^lT^tO^hint! h1D λbkH=>?_);cases b with
 |ν=>
  show vM (!3)^mR (X9 F.Yi _,l__ 0 QRfh1g (C.ρ,5,0,H))
  .exact lTQJ7
 |π=>
  show TJ (!3)^lT^Z7QDr;change lZ__ (updateSeq! _ (·.Uu .ε)>>=λ_=>updateSeq! _ (·.pop)) ___;show lT (ZFgζ ?_);let p:=xFQF3gζ;show ZFpζ^mR (X9 F.Yi _,l___QRf ?_ (xFQJVpζ) (λbone=>?_,5,0,H))
  .exact lTQJ7
  .exact (y1__B).ξ^(y1__B).ξ h1
  .let n:s⁻¹≠b:=λz=>n (by simp[z]);show(y1__n).ξ^(y1__n).ξ^C.ρ bo (λz=>n (o6z).UH) e
def Ln!(W:Walks! Ωw A.in1.in1 I [I] [I] x.β PQB1)(j:s.ρ.Ξ I<*AsxtQDV)(v:x.β≤16777216)(p:∀c:pVη,ItemsOf! Pc x.β->∃l:γ (bE×Tok),strValues! l=c.Zh/\l.Tx QBA=ys)(o:JoinOk! zys=π)(y:∀s',Moved! [I] QF7s s'->∀t'k,Q (.uM (jL.join zys) t') {s' with mU:=k}):lZQASA (wG (.Rm "str.join") [.uM z tz!,.ο I]) Q E s:=by
 let fits:Builtin.bE.tooLong (ys.Λ.foldl (·+·.β+z.β) 0)=ν:=by
  unfold JoinOk! at o;simpa using o
 let n:∀(c:pVη)QLV,Moved! [I] QF7s s'->ItemsOf! Pc x.β->lZQAS A.in1 (joinTail! z c.Zh) (λr s'=>match r with|.done f=>wants! Q E (.ok f) s'|.again u=>u.quiet=π/\wIQASAu (wants! Q E) s') (λe s'=>wants! Q E (.G2 e) s') s':=λc s'qd=>by
  let(l,C,B):=p c d;subst B;rw[<-C];let m:Gives! (joinTail! z^strValues! l)^joinMade! zl:=by
   let g:=gives_joinTail! zl fits;match l with
   |[]|[_]|_::_::_=>show g
  show mΩw A (wants! Q E) s'^post_join! l (joinFit_length! fits,y s'q)
 show zO^N' F.slot_str_join.plain F.entry_str_join (F.slot_str_join.check ________ (typeIs_str! ___) (F.args_str_join_2 __) ?_);rw[join_tree_other!];show lT^wpAny_typeOf! (_,j,0)^vM (!0)^lT^wpAny_tryCatch!^cv! jQDr;show xL! Wjv λs'cqd=>nc s'qd
end
end fz
end _F
namespace _F
open PySem.Spec PyProof.Rows _b
section
variable{X:n8}
inductive Eu! QAR QAJ(bF:m1):Prop
 |mk (v:lU) (_:vs=[.uM^lYv]) (_:v.β≤16777216) (_:Q (.uM^lY v.UQ) bF)
abbrev sk!(to:TE)QHR:TE:=λσHQ=>to σH λxH1=>x=.uM^bE.WK ""/\tσH1^Eu! Q
def qp!:∀(cs:lU)(b:γη),b.β=cs.β->(∀QAu(a:η)QFf,b[i]?<*a->cs[i]?<*c->∃u,a=.uM ⟨#[c]⟩ u)->∃l:γ (bE×Tok),strValues! l=b/\l.Tx QBA=cs.Tx λc=>(⟨#[c]⟩:bE)
 |[],b,h,_=>by cases Wc.mp h;show([],5)
 |c::cs,b,h,k=>by
  cases b with|nS=>show nomatch h|nF a b=>_
  let(u,ζ):=k 0 a cζζ;let(l,ζ,e):=qp! csbQHl λiacxy=>k (i+1) a cxy;show((⟨#[c]⟩,u,)::l,0,by rw[y3,e];rfl)
def mD!{ndpb8:nV}(D:X.TN=π)(dI:mPXo to)(E:qTX [e] t)(gE:pUX "reversed")(z:X.mg "reversed"=ε)(y:(I8o "join" X.fN^oFo X.fN=oFo X.fN)>>>4)(C:(((pNd^Ψ [bI.Wm (.Ip "reversed" p) [e] [] b8] X.fN).u7 (λx=>!x.1)&&(backToKw! d^ZW [] X.fN).u7 (λx=>x.1.BC)
   && decide (([bI.Wm (.Ip "reversed" p) [e] [] b8]:γbI).β+([]:γ Keyword).β+(if ([]:γ Keyword).Yj then 0 else 1)<30))=π)>>>4)(r:((n.endLine==d.Zm)=π)>>>4)(hs:(Ψ [bI.Wm (.Ip "reversed" p) [e] [] b8] X.fN=(ν,oF (.Wm (.Ip "reversed" p) [e] [] b8) X.fN,)::Ψ [] X.fN)>>>4)(l:((pNd^Ψ [] X.fN).I9 (·.1)=ν)>>>4)(P:(Ψ [e] X.fN=(ν,oFe X.fN,)::Ψ [] X.fN)>>>4)(B:((pNb8^Ψ [] X.fN).I9 (·.1)=ν)>>>4):mPX (.Wm (.Za o "join" n) [.Wm (.Ip "reversed" p) [e] [] b8] [] d)^sk! to t:=by
 intro f s NHQ Ih;show wpAny_Call_method_late! yCrζ (nb (dIf s NH_ Ih) λv O S=>?_);let(x,H1,U,r1,ex,q1):=S;subst ex;let(Y,ζ):=r1;show("str","str.join",plainAttrs_str!,Δ.F.slot_str_join,Δ.F.type_str_join,typeIs_str! O_ Y,(λ_e=>nomatch e),3);rw[hs];show YL.callWith_builtin (by change (ν||(pNdQQZ).I9 QBA)=ν;rw[l];rfl) QUb;change lZ__ (spliced! ((ν,oF (bI.Wm (.Ip "reversed" p) [e] [] b8) X.fN,)::pNdQQZ)) __ O;show YL.spliced_cons^y0^CJUgEz boot_reversed!^WC.Rows.Wx (nb (Eb8f O NH1_ Uq1) λuss2R=>?_) PB;let(vs,M,L,r2,v,ev,hz,q):=R;subst ev;let(u,ζ,Z):=x5r2;let(gG,ζ):=Z;let j:(lYv).β=v.β:=nJv;let T:¬ ((lYv).β:ω)≥2^63:=by rw[j];show Gr! hz
 show fz.TD T λk0=>YL.spliced_nil ?_;let W:∀bu,s2.ρ.Ξ b<*u->(s2.ρ.Uu QIY).Ξ b<*u:=λbue=>nN_e;let zG:f'Xf N M {s2 with ρ:=s2.ρ.Uu QIY,mU:=k0}:=L.Zo (t':=k0) W;let(f0,f1,f2,f3,f4,R1):=L.fpOk (H':=M) QBF^L.rv.ax QBF;show fz.Ln (ys:=v.UQ.Tx λc=>(⟨#[c]⟩:bE)) (fz.Kg (Ω:=X.Ω) (w:=X.w) (A:=X.A.in1.in1) (L.ok.hd D) s2⁻¹ T) (t8_ζ) (by rw[j];show hz) (λab m=>?_) ?_ (λs'zt'k=>?_)
 .refine qp! __ (by rw[w6,<-j];show m.1) λiac ED=>?_;rw[X0]at E;let(c',u,J,ζ):=m.2 ia E;let g6:i<v.β:=by
   have:=(m9D).1
   rwa [w6]at this
  rw[YGg6]at D;rw[j,Z3,D]at J;cases J;show(u,0)
 .exact joinOk_of! (cu! v.UQ^by rw[w6];show hz)
 .obtain ⟨jP,g,kF,tt,os⟩:=s';let J:g=s2.PF:=z.PF;let e2:kF=s2.drawn:=z.drawn;let e3:os=s2.os:=z.os;subst J e2 e3;show(.uM _,M,zG.T7 (h':=jP) (t':=k) (λbocYe=>z.ρ bo (by simpa using cY) e) f0f1f3f4R1,(t',0),3);change Q (.uM^jL.join bE.X7 _) M;rw[LX!];show q
end
end _F
namespace _b
open _F
section
open Classical
abbrev bn(p:χ->Prop):χ->χ
 |0=>0
 |n+1=>bn pn+if pn then 2^n else 0
def VB!(p:χ->Prop):∀n,bn pn<2^n
 |0=>χ.one_pos
 |n+1=>by
  let h:=VB! pn;change bn pn+_<2^(n+1);rw[χ.pow_succ];split<;>lia
def F8(p:χ->Prop)QIL:∀n,(bn pn).Vy j=π↔j<n/\pj
 |0=>by
  change χ.Vy 0 j=π↔_;rw[χ.zero_testBit];show(λh=>(nomatch h),λh=>mW h.1 QT5)
 |n+1=>by
  let a:=F8pjn;let b:=VB! pn;change (bn pn+_).Vy j=π↔_;by_cases b5:pn
  .rw [mGb5,χ.add_comm];rcases χ.lt_trichotomy jn with h|h|h
   .rw [χ.testBit_two_pow_add_gt h,a];show(λz=>(VRh,z.2),λz=>(h,z.2))
   .subst h;rw[χ.testBit_two_pow_add_eq,χ.testBit_lt_two_pow b];show(λ_=>(A6_,b5),λ_=>rfl)
   .have:2^n+bn pn<2^j:=pP (by rw[χ.pow_succ];lia:_<2^(n+1))^χ.pow_le_pow_right (!0) h;rw[χ.testBit_lt_two_pow this];show(λh=>(nomatch h),λz=>!6)
  .rw [mFb5,χ.add_zero,a];show(λz=>(9,z.2),λz=>(χ.Zk (!6) λe=>b5 (e▸z.2),z.2))
def q5(h:∀j,j<n->(pj↔qj)):bn pn=bn qn:=χ.eq_of_testBit_eq λj=>by
 rw[b9.Mc,F8,F8];show(λz=>(z.1,(hj z.1).mp z.2),λz=>(z.1,(hj z.1).Ui z.2))
def sZ(h:∀j,x.Vy j=π↔j<n/\pj):x=bn pn:=χ.eq_of_testBit_eq λj=>by
 rw[b9.Mc,F8];show hj
def XK!:bn pn ||| bn q n=bn (λj=>pj\/qj) n:=sZ λj=>by
 rw[χ.testBit_or,IP,F8,F8];show⟨λh=>h.Q5 QRg λz=>(z.1,.P2 z.2),λz=>z.2.imp (⟨z.1,·⟩) (⟨z.1,·⟩)⟩
def yk!:bn pn &&& bn qn=bn (λj=>pj/\qj) n:=sZ λj=>by
 rw[χ.testBit_and,xI,F8,F8];show(λz=>(z.1.1,z.1.2,z.2.2),λz=>((z.1,z.2.1),z.1,z.2.2))
def B7(h:k<n):2^k=bn (λj=>j=k) n:=sZ λj=>by
 rw[χ.testBit_two_pow,A4];show(λz=>(Je! h z,z.UH),λz=>z.2.UH)
def O0(h:∀j,j<n->¬ pj):bn pn=0:=(sZ λj=>by
 rw[χ.zero_testBit];show(λz=>(nomatch z),λz=>mW z.2^hj z.1)).UH
def qc!{pq:χ->Prop}:∀n,(bn (λj=>pj/\qj) n:ω)+bn (λj=>pj/\¬ qj) n=bn pn
 |0=>rfl
 |n+1=>by
  let h:=qc! (p:=p) (q:=q) n;change ((bn _n+_:χ):ω)+((bn _n+_:χ):ω)=((bn _n+_:χ):ω);by_cases b5:pn<;>by_cases a:qn<;>simp only[b5,a,and_true!,true_and!,and_false!,false_and!,not_true!,not_false_iff!,if_true!,if_false!]<;>omega
def Sa!(h:i≤n):bn QK5n+2^i=2^n:=by
 induction n with
 |qW=>
  obtain ζ:i=0:=by lia
  rfl
 |qV n a=>
  by_cases e:i=n+1
  .subst e;rw[O0 λjb=>Jv! b];show χ.WL _
  .have:=a^zo78! eh;let e:bn QK5 (n+1)=bn QK5n+2^n:=by
    change bn _n+_=_;rw[mG (zo78! eh:i≤n)]
   rw[e,χ.pow_succ];lia
def Sb!{xj:χ}:Builtin.bitAnd QQk 1=((x/2^j%2:χ):ω):=by
 let e:QQk=((x/2^j:χ):ω):=by rw[ω.natCast_ediv,ω.natCast_pow];rfl
 rw[e];change ((_ &&& 1:χ):ω)=_;rw[χ.and_one_is_mod];rfl
def yn!{xj:χ}:(Builtin.bitAnd QQk 1=1)↔x.Vy j=π:=by
 rw[Sb!,χ.testBit_eq_decide_div_mod_eq,A4];omega
def yq!{xy:χ}:Builtin.bitOr (x:ω) (y:ω)=((x ||| y:χ):ω):=by
 let n1:∀z:χ,decide (0≤Builtin.bitNot (z:ω))=ν:=λz=>pI (by unfold Builtin.bitNot;lia);let a:∀z:χ,Builtin.bitNot^Builtin.bitNot (z:ω)=(z:ω):=λz=>by unfold Builtin.bitNot;lia
 unfold Builtin.bitOr Builtin.bitAnd;rw[n1,n1];change Builtin.bitNot^Builtin.bitNot ((Builtin.bitNot^Builtin.bitNot (x:ω)).UD ||| (Builtin.bitNot^Builtin.bitNot (y:ω)).UD:χ)=_;rw[a,a,a];rfl
def KX!{xy:χ}:Builtin.bitAnd (x:ω) (y:ω)=((x &&& y:χ):ω):=ζ
end
end _b
namespace _b
open _F
abbrev v9 QHy QS4:lU:=(w.Gd i).Uj (j-i)
abbrev spn QCQ QHy QAu:χ:=bn (λj=>i≤j/\AQCK) QB5
abbrev xM QCQ QHy:lU:=(γ.b_ QB5).Tx^spn Aw
section
variable{A C:lU->Prop}{w:lU}{ijm:χ}{L:lU}
def qi!:v9wii=[]:=by unfold v9;rw[sub_self!];rfl
def Sc!:v9w 0 w.β=w:=by unfold v9;rw[γ.drop_zero,χ.sub_zero,XF]
def ra!(h1:i≤j)(h2:j≤m):v9wim=v9wij++v9wjm:=by
 unfold v9;rw[show m-i=(j-i)+(m-j) by lia,γ.take_add,γ.drop_drop,show i+(j-i)=j from Wz! h1]
def Se!(h:nOLw):nOLQCK:=λc a=>hc^P7^WYa
def HP(h1:i≤j)(h2:j≤w.β):(v9wij).β=j-i:=by
 unfold v9;rw[rS,zM];lia
def rK!(h:w[i]?<*c):v9wi (i+1)=[c]:=by
 unfold v9;rw[χ.add_sub_cancel_left,γ.take_one,γ.head?_drop,h];rfl
def Vo!(h1:i≤m)(h2:m≤w.β)(e:v9wim=x++v):∃j,i≤j/\j≤m/\x=v9wij/\v=v9wjm:=by
 let b:=HPh1h2;rw[e,o9]at b;show(i+x.β,O6,Ja! bh1,3);let a:=ra! (w:=w) (i:=i) (j:=i+x.β) (m:=m) O6^Ja! bh1;rw[e]at a;show γ.append_inj a (by rw[HPO6 (!6)];lia)
def Sf!(h1:i≤j)(h2:j≤w.β):v9 w.UQ QO7 (w.β-i)=(v9wij).UQ:=by
 unfold v9;rw[γ.drop_reverse,show w.β-QO7=j by lia,γ.take_reverse,rS];rw[show min j w.β-(w.β-i-QO7)=i by lia,γ.drop_take]
def NW:(spn Awi).Vy j=π↔j≤w.β/\i≤j/\AQCK:=by
 unfold spn;rw[F8,χ.lt_succ_iff]
def zf!:(spn Aw 0).Vy w.β=π↔Aw:=by
 rw[NW,Sc!];show(λh=>h.2.2,λh=>(nZ_,pT_,h))
def A0:(xMAw).β=w.β+1:=by unfold xM;rw[j',rA]
def MT(h:i≤w.β):QDp[i]?<*spn Awi:=by
 unfold xM;rw[na,yU^MGh];rfl
def Sg!:spn Awi ||| spn C w i=spn (IAAC) wi:=XK.ξ (q5 λj_=>⟨λh=>h.Q5 QRg λz=>(z.1,.P2 z.2),λh=>h.2.imp (⟨h.1,·⟩) (⟨h.1,·⟩)⟩)
def zi!:spn Awi &&& spn Cwi=spn (ROAC) wi:=yk.ξ (q5 λj_=>(λh=>(h.1.1,h.1.2,h.2.2),λh=>((h.1,h.2.1),h.1,h.2.2)))
def vw!:(spn Awi:ω)-(spn Awi &&& spn Cwi:χ)=(spn (N5AC) wi:χ):=by
 let h:=qc! (p:=λj=>i≤j/\AQCK) (q:=λj=>i≤j/\CQCK) QB5;rw[show spn Awi &&& spn Cwi=_ from yk!];let e:spn (N5AC) wi=bn (λj=>(i≤j/\AQCK)/\¬ (i≤j/\CQCK)) QB5:=q5 λj_=>(λz=>((z.1,z.2.1),λy=>z.2.2 y.2),λz=>(z.1.1,z.1.2,λy=>z.2 (z.1.1,y)));rw[e];unfold spn;lia
def zd!(hw:nOLw)QNj:(2:ω)^QB5-2^i-(spn Awi:χ)=(spn (C6L A) wi:χ):=by
 let h:=qc! (p:=λj=>i≤j) (q:=λj=>AQCK) QB5;let g:=Sa! (n:=w.β+1) (i:=i)^He! a;let e:spn (C6L A) wi=bn (λj=>i≤j/\¬ AQCK) QB5:=q5 λj_=>(λz=>(z.1,z.2.2),λz=>(z.1,Se! hw,z.2));rw[e];let g':((bn QK5QB5:χ):ω)+2^i=2^QB5:=by
  have:=oR (χ.cast (R:=ω)) g;rw[ω.natCast_add,ω.natCast_pow,ω.natCast_pow]at this;show this
 unfold spn;show JC! hg'
def ss(b:i≤w.β):2^i=spn (AMLπ []) wi:=(B7^MGb).ξ (q5 λja=>by
 constructor
 .rintro ζ;show(nZ_,.UR (qi!,0))
 .rintro⟨h1,⟨h2,_⟩|⟨c,_,h,_⟩⟩
  .have:=HPh1^IJa;rw[h2]at this;have:(0:χ)=j-i:=this;show Jb! this h1
  .exact mWhi7)
def sr!:spn (AMLν []) wi=0:=O0 λj_=>by
 rintro⟨_,⟨_,h⟩|⟨c,_,h,_⟩⟩
 .cases h
 .exact mWhi7
def ze!(hw:nOLw)(h:w[i]?<*c):spn (AMLν S) wi=if c∈S then 2^(i+1)else 0:=by
 let k:=(m9h).1;let a:∀j,j<w.β+1->((i≤j/\AMLν SQCK)↔j=i+1/\c∈S):=λjf=>by
  constructor
  .rintro⟨h1,⟨_,z⟩|⟨d,_,g,e⟩⟩
   .cases z
   .let l:=HPh1^IJf;rw[e]at l;let l:1=j-i:=l;obtain ζ:j=i+1:=by lia
    rw[rK! h]at e;cases e;show(0,g)
  .rintro⟨rfl,b⟩;show(Gz!,.P2 (c,hw c^v7h,b,rK! h))
 split
 .rename_i b;show(q5a).ξ^(q5 λj_=>(λz=>z.1,λz=>(z,b))).ξ (B7 (!6)).UH
 .rename_i b;show O0 λjfz=>b ((ajf).mp z).2
def zh!:spn (AMLν S) w w.β=0:=O0 λja=>by
 rintro⟨h1,⟨_,z⟩|⟨c,_,h,e⟩⟩
 .cases z
 .let l:=HPh1^IJa;rw[e]at l;let l:1=j-w.β:=l;lia
def GZ{xj:χ}(e:z=(j:ω)):(V.tV^Builtin.bitAnd ((x:ω)/2^z.UD) 1=V.tV 1)↔x.Vy j=π:=by
 rw[e,DM,<-yn!];show(V.tV.WZ,oR_)
def Sh!:v9w 0 j=w.Uj j:=ζ
def pQ!{xy:χ}:V.tV^Builtin.bitOr (x:ω) (y:ω)=V.tV ((x ||| y:χ):ω):=oR V.tV yq!
def HR(e:z=(i:ω))(h:i≤w.β):qZQLlz<*.tV (spn Awi:χ):=by
 rw[e];show r8 ?_;unfold mJ;rw[na,MTh];rfl
abbrev RJ QFg QHy(ik:χ):χ:=bn (λm=>∃j,i≤j/\j<k/\j≤m/\AQCK/\C^v9wjm) QB5
def Si!:RJACwii=0:=O0 λm_⟨j,h1,h2,_⟩=>by lia
def vj!(g:i≤j)(l:j≤w.β):RJACwi (j+1)=if (spn Awi).Vy j=π then RJACwij ||| spn C w j else RJACwij:=by
 split
 .rename_i h;rw[NW]at h;show(q5 λm_=>?_).ξ XK.UH;constructor
  .rintro⟨k,h1,h2,a,c,b⟩;by_cases e:k=j
   .subst e;show .P2 (a,b)
   .exact .UR QRh
  .rintro (⟨k,h1,h2,a⟩|⟨h1,h2⟩)
   .exact QI'
   .exact QPp
 .rename_i h;rw[NW]at h;show q5 λm_=>(λd=>by let(k,h1,h2,a,c,b):=d;show(k,h1,χ.Zk (L0h2) λe=>h (l,g,e▸c),a,c,b),λf=>by let(k,h1,h2,a):=f;show QI')
def ff!(k:i≤w.β):RJACwiQB5=spn QO8wi:=q5 λm g=>by
 constructor
 .rintro⟨j,h1,h2,c,b,a⟩;show(9,7,ra! h1c,b,a)
 .rintro⟨h,x,v,e,h1,h2⟩;let(j,f,d,ζ,ζ):=Vo! h (L0g) e;show(j,f,Jp! gd,d,h1,h2)
def oK!:vTAu↔u=[]\/∃xv,u=x++v/\x≠[]/\Ax/\vTAv:=by
 constructor
 .intro h;induction h with
  |nS=>show .UR ζ
  |@jA x v h1 h2 a=>
   by_cases e:v=[]
   .subst e;rwa [vP]
   rcases a with ζ|⟨y,z,ζ,d,c,b⟩
   .exact .P2 (v,[],!1,e,h2,.nS)
   .exact .P2 (y,z++v,u4___,d,c,b.jA h2)
 .rintro (rfl|⟨x,v,ζ,_,h1,h2⟩)
  .exact .nS
  .exact (vT.uR h1).app h2
abbrev dL QCQ QHy(ik:χ):χ:=bn (λm=>m=i\/∃j,i<j/\j<k/\j≤m/\AQCK/\vTA^v9wjm) QB5
def Sj! QNj:dL Awi (i+1)=2^i:=((B7^MGa).ξ^q5 λm_=>(.UR,λh=>h.Q5 id λ⟨j,h1,h2,_⟩=>!6)).UH
def yB!(g:i<j)(l:j≤w.β):dL Awi (j+1)=if (spn Awi).Vy j=π then dL Awij ||| spn QMb w j else dL Awij:=by
 split
 .rename_i h;rw[NW]at h;show(q5 λm_=>?_).ξ XK.UH;constructor
  .rintro (h|⟨k,h1,h2,a,c,b⟩)
   .exact .UR^.UR h
   by_cases e:k=j
   .subst e;show .P2 (a,b)
   .exact .UR^.P2 QRh
  .rintro ((h|⟨k,h1,h2,a⟩)|⟨h1,h2⟩)
   .exact .UR h
   .exact .P2 QI'
   .exact .P2 QPp
 .rename_i h;rw[NW]at h;show q5 λm_=>(λz=>z.imp_right λf=>by let(k,h1,h2,a,c,b):=f;show(k,h1,χ.Zk (L0h2) λe=>h (l,CIg,e▸c),a,c,b),λz=>z.imp_right λd=>by let(k,h1,h2,a):=d;show QI')
def Sk!(l:i≤w.β):dL AwiQB5=spn QMbwi:=q5 λmb=>by
 rw[oK!];constructor
 .rintro (rfl|⟨j,h1,h2,f,d,c⟩)
  .exact (nZ_,.UR qi!)
  .refine (9,.P2 (7,ra! (CIh1) f,λz=>?_,d,c));have:=HP (w:=w) (i:=i) (j:=j) (CIh1)^L0h2;rw[z]at this;have:0=j-i:=this;lia
 .rintro⟨h,a|⟨x,v,e,a,h1,h2⟩⟩
  .have:=HPh^IJb;rw[a]at this;have:0=m-i:=this;show .UR^Jb! this h
  .obtain ⟨j,k,g,ζ,ζ⟩:=Vo! h (L0b) e;show .P2 (j,χ.Zk k λz=>a^by rw[<-z,qi!],Jp! bg,g,h1,h2)
open Classical in
abbrev agF QCQ QHy(imx:χ):χ:=if x=i then dL Awim else if i<x then spn QMbwx else 2^x
abbrev E8 QCQ QHy(im:χ):lU:=(γ.b_ QB5).Tx^agF Awim
abbrev HS QCQ QHy QGT:lU:=(γ.b_ QB5).Tx λx=>if k≤x then spn QMbwx else 2^x
def SV{fg:χ->χ}(h:∀x,x<N->fx=g x):(γ.b_ N).Tx f=(γ.b_ N).Tx g:=γ.map_congr_left λxa=>hx^Ug.mp a
def zw!{Nv:χ}(h:∀x,x<N->g x=if x=i then v else fx):(mJ^(γ.b_ N).Tx f).X6 i^.tV (v:ω)=mJ^(γ.b_ N).Tx g:=by
 show γ.ext_getElem? λx=>?_;rw[γ.getElem?_set];unfold mJ;rw[j',j',rA];by_cases a:x<N
 .rw [na,na,na,na,yUa];change _<*V.tV ((g x:χ):ω);rw[hxa];by_cases e:x=i
  .subst e;rw[mGζ,mGa,mGζ]
  .rw [mF^Ne.UH e,mFe];rfl
 .let z:∀f:χ->χ,(((γ.b_ N).Tx f).Tx λ(n:χ)=>V.tV (n:ω))[x]?=ε:=λf=>I6 (by rw[j',j',rA];show MIa);rw[z,z];split
  .rename_i e;rw[mF (!6)]
  .rfl
def Bh!:HSAwQB5=(γ.b_ QB5).Tx λx=>2^x:=SV λxa=>mF^Jv! a
def Sl!:HSAw 0=xMQMbw:=SV λx_=>mGQDx
def Sn! QNj:HSAw (i+1)=E8Awi (i+1):=SV λx_=>by
 unfold agF;by_cases e:x=i
 .rw [mF (!6),mGe,Sj! a,e]
 .rw [mFe];rfl
def So! QNj:E8AwiQB5=HSAwi:=SV λx_=>by
 unfold agF;by_cases e:x=i
 .rw [mGe,Sk! a,mG^Hh! e,e]
 .rw [mFe];by_cases h:i<x
  .rw [mGh,mG^CIh]
  .rw [mFh,mF (!6)]
def Sq!:(E8Awim).β=w.β+1:=by unfold E8;rw[j',rA]
def KL!{x:χ}(e:z=(x:ω))(h:x≤w.β):qZ (mJ^E8Awim) z<*.tV (agF Awimx:χ):=by
 rw[e];show r8 ?_;unfold mJ E8;rw[na,na,yU^MGh];rfl
def Sr!:agF Awimi=dL Awim:=mGζ
def rm!(h:i<m):agF Awijm=spn QMbwm:=by unfold agF;rw[mF (!6),mGh]
def Su!(h:dL Awi (m+1)=dL Awim ||| spn QMb w m):(mJ^E8Awim).X6 i^.tV ((dL Awim ||| spn QMb w m:χ):ω)=mJ^E8Awi (m+1):=zw! λx_=>by
 unfold agF;by_cases e:x=i
 .rw [mGe,mGe,h]
 .rw [mFe,mFe,mFe]
def yD!(h:dL Awi (m+1)=dL Awim):E8Awim=E8Awi (m+1):=SV λx_=>by unfold agF;rw[h]
abbrev RI QCQ QHy(ik:χ):χ:=bn (λj=>i≤j/\j<k/\aOAQCK) QB5
def Sv!:RIAwii=0:=O0 λm_⟨h1,h2,_⟩=>by lia
def vi!(d:i≤j)(f:j≤w.β):RIAwi (j+1)=if (spn A w.UQ QO7).Vy (w.β-i)=π then RIAwij ||| 2^j else RIAwij:=by
 let e:(spn A w.UQ QO7).Vy (w.β-i)=π↔aOAQCK:=by
  rw[NW,Sf! df,w6];show(λh=>h.2.2,λh=>(IR,!2,h))
 split
 .rename_i h;rw[B7^show j<w.β+1 from MGf];show(q5 λm_=>?_).ξ XK.UH;constructor
  .rintro⟨h1,h2,a⟩;by_cases z:m=j
   .exact .P2 z
   .exact .UR (h1,Hg! h2z,a)
  .rintro (⟨h1,h2,a⟩|rfl)
   .exact (h1,VRh2,a)
   .exact (d,A6_,e.mp h)
 .rename_i h;show q5 λm_=>(λb=>by let(h1,h2,a):=b;show(h1,χ.Zk (L0h2) λz=>h^e.Ui (z▸a),a),λc=>by let(h1,h2,a):=c;show(h1,VRh2,a))
def ea!:RIAwiQB5=spn (aOA) wi:=q5 λma=>(λh=>(h.1,h.2.2),λh=>(h.1,a,h.2))
end
abbrev qe! QCQ QHy QAH QAR:Prop:=∀QJRQBe,mIHH'->H'p<*.P' QLl->Q QAlH'
def ak!{A C G:lU->Prop}{k:St}(s:∀R:γ V->m1->Prop,R [.ο c,.ο d] H->tkH R)(y:Hc<*.P' QLl)(v:Hd<*.P'^mJ^xMCw)(B:w.β≤5000)(u:∀QAu(g:m1)(j:oE),i≤w.β->j (.tV (spn Gwi:χ)) g->o (δ^.tV (spn Awi:χ)::δ^.tV (spn Cwi:χ)::k) gj)(p:mIH0H)(q:qe! GwH0Q):Z6K (sUt) o kHQ:=by
 let n:∀QUO QEg{x:V},QLl[i]?<*x->i≤w.β/\x=.tV (spn Awi:χ):=λ{Aix}e=>by
  let h:=(m9e).1;rw[o8,A0]at h;unfold mJ at e;rw[na,MT^IJh]at e;show(IJh,(ψ.δ.WZ e).UH)
 show dl! (d1:=.ls c) (d2:=.ls d) syv (by rw[o8,o8,A0,A0]) (λDiysH'=>ys=(mJ^xMGw).Uj i) (by rw[o8,A0];show m6 (!6)) (λDl=>!1) ?_ ?_
 .rintro D i x z ys H' g j l r hz f a ζ b k1;let(m,ζ):=nr;let(_,ζ):=n hz;show uigjm^k1_g (b__a) (mI.X6 (f.ξ b) l) (uW ?_).UH;unfold mJ;rw[na,MTm];rfl
 .rintro D ys H' l f a ζ;rw[o8,A0,vJ^by rw[o8,A0];show nZ_]at a;show qDH' (p.ξ f) a
abbrev S9 QAH:χ->V->Prop
 |0,_=>oA
 |n+1,v=>(∃x,v=.uM x)\/∃pxs,v=.ο p/\Hp=δQFL/\xs.β≤3/\∀x∈xs,S9Hnx
def VP QGr:∀{n m:χ}{v:V},S9Hnv->n≤m->S9Hmv
 |0,_,_,h,_=>h.Q5
 |n+1,0,_,_,h=>mWh^χ.not_succ_le_zero n
 |n+1,m+1,_,h,k=>h.imp_right (by
  intro h;let(p,xs,e,b5,l,h):=h;show(p,xs,e,b5,l,λxa=>VP (hxa)^χ.le_of_succ_le_succ k))
def VS QGr:∀QIM{v:V},oUHtv->S9H (t.Kd+1) v
 |.yT _,_,⟨a,e,h⟩=>.P2 (a,_,e,h,by change 1≤3;decide,λxb=>by rw[o6b];show .UR (_,0))
 | .yV _,_,⟨a,e,h⟩=>.P2 (a,_,e,h,by change 2≤3;decide,λxb=>by
   rcases u3.mp b with ζ|b
   .exact .UR (_,0)
   .rw [o6b];show .UR (_,0))
 | .uR _ t,_,⟨a,u,e,h,c⟩=>.P2 (a,_,e,h,by change 2≤3;decide,λxb=>by
   rcases u3.mp b with ζ|b
   .exact .UR (_,0)
   .rw [o6b];show VSc)
 | .rE _ t t',_,⟨a,u,w,e,h,c,hw⟩=>.P2 (a,_,e,h,by change 3≤3;decide,λxb=>by
   rcases u3.mp b with ζ|b
   .exact .UR (_,0)
   rcases u3.mp b with ζ|b
   .exact VP (VSc)^WJQIG
   .rw [o6b];show VP (VS hw)^WJ^χ.le_max_right __)
abbrev OE QAH:χ->V->Prop
 |0,_=>oA
 |n+1,v=>(∃x,v=.uM x)\/(∃z,v=.tV z)\/∃pxs,v=.ο p/\Hp=δQFL/\xs.β≤3/\∀x∈xs,OEHnx
def S9.jN QGr:∀QLU{v:V},S9Hnv->OEHnv
 |0,_,h=>h
 |_+1,_,h=>h.imp_right (by
  intro h;let(p,xs,e,b5,l,h):=h;show .P2 (p,xs,e,b5,l,λxa=>(hxa).jN))
def Sw!(b5:Hp<*.iT xs)(d:Hq<*.iT ys)(h:z4H (n+1) QAl^.ο q):xs.β=ys.β/\∀QAuQP8,xs[i]?<*x->ys[i]?<*y->z4Hnxy:=by
 rcases h with⟨_,z⟩|⟨j,g,c,b,a,f,⟨h1,h2⟩|⟨h1,h2⟩,e,_,h⟩
 .cases z
 .cases a;cases f;rw[b5]at h1;rw[d]at h2;cases h1;cases h2;show(e,h)
 .cases a;rw[b5]at h1;cases h1
def VH!(h:z4H (n+1) xy)(a:(∀p,x≠.ο p)\/∀q,y≠.ο q):x=y:=by
 rcases h with⟨z,_⟩|⟨p,q,_,_,c,b,_⟩
 .exact z
 .exact a.Q5 (λz=>mWc^zp) λz=>mWb^zq
def Sx! QAw:Δ.W.Kq K (.TB "tuple")^.TB "str"<*ν:=by kernel_rfl
def Sy! QAw:Δ.W.Kq K (.TB "tuple")^.TB "int"<*ν:=by kernel_rfl
def Sz! QAw:Δ.W.Kq K (.TB "int")^.TB "str"<*ν:=by kernel_rfl
def z7.app QJa{ys:γ V}{us:γcF}(h':z7Rysus):∀QBmQHV,z7Rxsts->z7R (xs++ys) (ts++us)
 |[],[],_=>h'
 |_::_,_::_,h=>(h.1,z7.app h' h.2)
end _b
namespace _F
def S' QKA[Decidable! c](a:¬ c)(h:A):if (!decide c)=π then A else B:=by
 rw[pIa];show h
def ID! QAw QE7:wNX (.Rm "len") (λxsHQ=>∃pys,xs=[.ο p]/\(pGKHpys\/n'KHpys)/\Q (.tV ys.β) H):=by
 subst a;show VV
end _F
namespace _F
open PySem.Spec PyProof.Rows
section
variable{X:n8}{aI:γQA8}{σ:St}{H:m1}{s:Θ}
end
end _F
namespace _F
open _b
abbrev off:χ->χ
 |0=>0
 |i+1=>off i+(8-i)
abbrev CW QAH QA6(D:χ->χ->lU->Prop)(bW:γθ)QS4:Prop:=∀a b,a<b->b<9->(a<i\/(a=i/\b<i+1+j))->
 ∃(t:θ)(u:lU),bW[off a+(b-a-1)]?=δt/\Ht=δ^.iT [.tV (a:ω),.tV (b:ω),.uM^lYu]/\QA_/\u.β≤2100/\Dabu
section
variable{HH':m1}{L:lU}{DiS:χ->χ->lU->Prop}{bW:γθ}{ij:χ}
def Ep!:∀i,off i≤8*i
 |0=>nZ_
 |i+1=>by have:=Ep! i;change off i+(8-i)≤_;lia
def CW.Hu(h:CWHLDbWij)QAp(e:∀a bu,a<b->b<9->QA_->Dabu->iSabu):CWH'LiSbWij:=λa b ab dg=>by
 let(t,u,h1,h2,f,l,k):=hab ab dg;show(t,u,h1,s__h2,f,l,eabu ab dfk)
def CW.snoc(h:CWHLDbWij)(m:bW.β=off i+j)(g:Ht<*.iT [.tV (i:ω),.tV QDW,.uM^lYu])(f:∀c∈u,c∈L)(hz:u.β≤2100)(k:DiQO9u):CWHLD (bW++[t]) i (j+1):=λa b ab ln=>by
 by_cases e:a=i/\b=i+1+j
 .obtain ⟨rfl,ζ⟩:=e;show(t,u,3,g,f,hz,k);rw[show off a+(a+1+j-a-1)=bW.β by lia];show Yz! __
 .obtain ⟨t',d,h1,h2⟩:=hab ab l (!6);show(t',d,by rw[u1 (m9h1).1];show h1,h2)
def CW.next(h:CWHLDbWi (8-i)):CWHLDbW (i+1) 0:=λa b ab c d=>hab ab c (!6)
end
abbrev P9 QAH QM5(pt:V)QA6 QNk:Prop:=∃(DfS:θ)(vs:n0)(bW:γθ),Hd=δ^CPd [("words",.ο D,),("tails",.ο fS,),("part",pt,)]/\HD=δ^.P'^oIvs/\HfS=δ^.P' QQl/\vs.β=9/\bW.β=36/\(∀v∈vs,QEz/\v.β≤2100)/\
 CW H L (λa bu=>¬ (S (vs.TC a []++u)↔S (vs.TC b []++u))) bW 9 0
def P9.Ki(h:P9HdcL S)QBv:P9H'dcL S:=by
 let(D,a,vs,b,h1,h2,j,i,g,f,e):=h;show(D,a,vs,b,s__h1,s__h2,s__j,i,g,f,e.Hu (λ__=>s__) λ______z=>z)
def lm(d:xSgL sksws ks.β 0)QEO(e:R.β=ks.β)(f:oOL R Bm)(b:ws[i]?<*v):QEz/\n6L R 0 v=i/\v.β≤2100:=by
 let h:=ou! daeb;let h1:=d.wl ivb;let h2:=(m9b).1;let j:=f.n60;rw[<-d.eN,<-e]at h2;show(h.1,h.2,9)
inductive V1(cTM:θ)QCi(op:lU->QH5->lU->Prop)QAJ QAH QAR QE4:Prop
 |mk (m:θ) QA6 QDu QAt (_:vs=[.ο m]) QCX QDf (_:W.β≤8) QEM (_:∀dH',KTtsHH'->P9H'd .vS L^op LQOI->EQJbQF8H') (_:∀QFO(dU:n0)QNwQBe,KTtsHH'->xZH'fLdUvW->pELdUvW=op LQOI->Q QArH')
inductive C8(cTM:θ)QCi(op:QH5->QH5->lU->Prop)QAJ QAH QAR QE4:Prop
 |mk (mm2:θ) QA6 QPW QHa QRi QU5 (_:oOL W1eY) QJD (_:oOLcEhV) (_:W1.β≤8) (_:cE.β≤8) QEM (_:∀dH',KTtsHH'->P9H'd .vS L^op QDJQF6->EQJbQF8H') (_:∀QFO(dU:n0)QNwQBe,KTtsHH'->xZH'fLdUvW->pELdUvW=op QDJQF6->Q QArH')
end _F
namespace _b
open _F
def TV(d:GAQAUm)(c:oOL R Bm)QC_:pELQDHQJW=pEL R Bm:=pF λu=>(λ⟨a,b⟩=>(a,(Mm! dc st a).UH.ξ b),λ⟨a,b⟩=>(a,(Mm! dc st a).ξ b))
abbrev cF.I1:cF->γcF
 |.yT k=>[.yT k]
 |.yV c=>[.yV c]
 |.uR k x=>.uR kx::x.I1
 |.rE k x y=>.rE kxy::(x.I1++y.I1)
def cF.self QEc:t∈t.I1:=by cases t<;>show cG
def cF.Yd:∀t:cF,t.I1.β=t.sz
 |.yT _=>rfl
 |.yV _=>rfl
 |.uR _ x=>oRQTW x.Yd
 |.rE _ x y=>by
  change (x.I1++y.I1).β+1=x.sz+y.sz+1;rw[o9,x.Yd,y.Yd]
def cF.parts_dep:∀{tp:cF},p∈t.I1->p.Kd≤t.Kd
 |.yT _,_,h=>by rw[o6h];show nZ_
 |.yV _,_,h=>by rw[o6h];show nZ_
 |.uR _ x,_,h=>by
  rcases u3.mp h with ζ|z
  .exact nZ_
  .exact W9QO_
 |.rE _ x y,_,h=>by
  rcases u3.mp h with ζ|z
  .exact nZ_
  .rcases lp.mp z with z|z
   .exact W9^n5QO_QIG
   .exact W9^n5QO_QQf
def Zw!(h:r<36):∃a b,a<b/\b<9/\off a+(b-a-1)=r:=by
 let u7:(γ.b_ 36).u7 (λr=>(γ.b_ 9).I9 λa=>(γ.b_ 9).I9 λb=>decide (a<b)&&off a+(b-a-1)==r)=π:=by decide +kernel
 let z:=T5.mp u7r^Ug.Ui h;let(a,_,z):=XI.mp z;let(b,c,z):=XI.mp z;rw[xI,A4,T8]at z;show(a,b,z.1,Ug.mp c,z.2)
abbrev DY QA6 QEc:Prop:=∀p∈t.I1,∃WB,oOL WB/\W.β≤8/\pEL WB=ac Lp
def DY.uR(h:DYLx)(m:oOL WB)(l:W.β≤8)(e:pEL WB=ac L^.uR kx):DYL^.uR kx:=λpb5=>by
 rcases u3.mp b5 with ζ|z
 .exact (W,B,m,l,e)
 .exact hpz
def DY.rE(h:DYLx)(h':DYLy)(m:oOL WB)(l:W.β≤8)(e:pEL WB=ac LQIo):DYLQIo:=λpb5=>by
 rcases u3.mp b5 with ζ|z
 .exact (W,B,m,l,e)
 .exact (lp.mp z).Q5 (hp)^h'p
def vX!{f:χ->χ}(h:∀a,a<9->fa<8):∃a b,a<b/\b<9/\fa=fb:=by
 show Classical.byContradiction λn=>?_;let g:((γ.b_ 9).Tx f).qg:=by
  rw[γ.nodup_iff_pairwise_ne,γ.pairwise_map,γ.pairwise_iff_getElem];intro ijkedz;rw[rA]at k e;rw[γ.getElem_range,γ.getElem_range]at z;show n (i,j,d,e,z)
 have:=mK! g (b:=γ.b_ 8) λc l=>by
  let(a,m,ζ):=WB.mp l;show Ug.Ui^ha^Ug.mp m
 rw[j',rA,rA]at this;show mW this (!0)
def _root_._F.P9.no(h:P9HdwL S)(hG:∀c,c∈L->c∈L')(l:oOL'WB)(o:W.β≤8)(e:pEL'WB=S):oA:=by
 let(D,s,vs,v,_,_,_,r,_,q,p):=h;let wv:∀a,a<9->nOL'QQm:=λajcg=>by
  rw[pu,mO^by rw[r];show j]at g;show hGc^(q_^vO_).1 cg
 let(a,b,ab,i,z):=vX! (f:=λa=>n6L'W 0 QQm) λaj=>pP (PJl l.n1^wv aj) o;let(t,u,_,_,n,_,m):=p a b ab i^.UR^zP ab i;let k:nOL'u:=λcg=>hGc^ncg;show m ?_;rw[<-e];show and_congr! (TF (b_s.Ui (wv a^zP ab i,k))^b_s.Ui (wv b i,k)) ?_;unfold AC;rw[OU,OU];let z:n6L'W 0 QQm=n6L'W 0^vs.TC b []:=z;rw[z]
def uV.kt QOG{ts:γQAV}QMJ QGq:∀QIM{v:V},uVcHtv->uVcH'tv
 |.yT _,_,⟨a,dx,e,b⟩=>(a,dx,e,k.jN __QACb)
 |.yV _,_,⟨a,dx,e,b⟩=>(a,dx,e,k.jN __QACb)
 |.uR _ x,_,⟨a,dx,u,e,b,d⟩=>(a,dx,u,e,k.jN __QACb,uV.kt k (t:=x) d)
 |.rE _ x y,_,⟨a,dx,u,w,e,b,d,f⟩=>(a,dx,u,w,e,k.jN __QACb,uV.kt k (t:=x) d,uV.kt k (t:=y) f)
section
variable{L:lU}{W:n0}{B:γb9}{v:χ->lU}
def zk!:∀{a:lU},a≠[]->∃bc,a=b++[c]:=λ{a}h=>(a.FD,a.getLast h,(γ.Wh h).UH)
end
abbrev u5 QA6 QNk:Prop:=∃(n:χ)(f:χ->lU->Prop),0<n/\n≤8/\f 0=S/\(∀iu,i<n->fiu->nOLu)/\∀ic,i<n->c∈L->∃j,j<n/\∀u,nOLu->(fi (c::u)↔fju)
section
variable{L:lU}{S:lU->Prop}
def c_f!:nOL (c::u)↔c∈L/\nOLu:=(λh=>(hccG,λxa=>hxQTk),λhxa=>(u3.mp a).Q5 (λe=>e▸h.1)^h.2 x)
def PR:nOL []:=λ_h=>nomatch h
def u5.mach(y:ww L)(h:u5L S):∃WB,oOL WB/\W.β≤8/\pEL WB=S:=by
 let(n,f,k,A,ζ,hw,p):=h;have⟨g,q⟩:∃g:χ->χ->χ,∀ic,i<n->c∈L->gic<n/\∀u,nOLu->(fi (c::u)↔f (gic) u):=by
  classical
  show(λic=>if h:i<n/\c∈L then Classical.choose (pic h.1 h.2)else 0,λicde=>?_);simp only[dif_pos! ((d,e):i<n/\c∈L)];show Classical.choose_spec^picde
 classical
 let t:∀i,i<n->QEm[i]?<*L.Tx^gi:=λi d=>by rw[na,yUd];rfl
 let v:∀ic,i<n->c∈L->rYLQEmic=gic:=λicde=>by
  let w:=wZe;unfold rY;rw[pu (l:=(γ.b_ n).Tx λi=>L.Tx^gi),tid,ψ.getD_some,pu,na,mOw,WW];rfl
 show((γ.b_ n).Tx λi=>L.Tx^gi,(γ.b_ n).Tx λi=>decide QT6,(y,3,3,3,λwsh=>?_),3,pF λu=>?_)
 .rw [j',rA];show k
 .rw [j',rA];lia
 .rw [j',j']
 .obtain ⟨i,d,ζ⟩:=WB.mp h;show(j' ..,λx s=>?_);let(c,e,ζ):=WB.mp s;rw[j',rA];show(qic (Ug.mp d) e).1
 .rw [j',rA];show A
 .let j:∀QMXQAu,i<n->nOLu->(((γ.b_ n).Tx λi=>decide QT6).TC (n6LQEmiu) ν=π↔fiu):=by
   intro u;induction u with
   |nS=>
    intro i d_;change ((γ.b_ n).Tx λi=>decide QT6).TC iν=π↔_;rw[pu,na,yUd];show decide_eq_true_iff!
   |nF c u r=>
    intro i dh;let(e,o):=c_f.mp h;let(a,b):=qicde;change ((γ.b_ n).Tx λi=>decide QT6).TC (n6L_ (rYL_ic) u) ν=π↔_;rw[vicde,r_ao,buo]
  show(λm=>by let(a,b):=m;show(ju 0 ka).mp b,λz=>(hw 0 ukz,(ju 0 k^hw 0 ukz).Ui z))
def u5.gT(h:u5L S):u5L^C6L S:=by
 let(n,f,m,l,ζ,hw,d):=h;show(n,λi=>C6L^fi,m,l,0,λiu_z=>z.1,λickb=>?_);let(j,g,e):=dickb;show(j,g,λua=>and_congr! QHq^not_congr!^eua)
def u5.bG(h:u5L S)(z:Su):nOLu:=by
 let(n,f,a,_,ζ,hw,_):=h;show hw 0 uaz
abbrev nonL:lU->Prop:=λ_=>oA
def eD!:u5L nonL:=((1),λ_=>nonL,!0,!0,0,λ___z=>z.Q5,λ____=>((0),!0,λ__=>Iff.rfl))
def Kz!:u5LQJc:=((1),λ_=>nOL,!0,!0,0,λ___z=>z,λ_c_a=>((0),!0,λu_=>c_f.ξ QU6))
abbrev fits QA6(p:ψχ)QFf:Prop:=c∈L/\∀x,p<*x->c=x
abbrev p7 QA6 QCQ:γQSe->lU->Prop
 |[],u=>Au
 |_::_,[]=>oA
 |p::ps,c::u=>fits Lpc/\p7L Apsu
def Z0 QUO(a:∀u,Au->nOLu):∀QDZ{u:lU},p7L Apsu->nOLu
 |[],_,h=>a_h
 |_::_,[],h=>h.Q5
 |_::_,_::_,h=>c_f.Ui (h.1.1,Z0a h.2)
def rn!(j:∀u,Au->nOLu)(l:ps.β≤6)(b:(∀cu,c∈L->nOLu->(A (c::u)↔Au))\/∀cu,¬ A (c::u)):u5L^p7L Aps:=by
 show(ps.β+2,λi=>if i≤ps.β then p7L A (ps.Gd i)else nonL,9,9,0,λiu_z=>?_,λickg=>?_)
 .by_cases h:i≤ps.β
  .simp only[mGh]at z;show Z0jz
  .simp only[mFh]at z;show z.Q5
 .let d:∀u,(if ps.β+1≤ps.β then p7L A (ps.Gd (ps.β+1))else nonL) u↔oA:=λu=>by rw[mF (!6)];show Iff.rfl
  rcases χ.lt_trichotomy i ps.β with z|z|z
  .let e:ps.Gd i=ps[i]::ps.Gd (i+1):=γ.fx z;by_cases f:fits L ps[i] c
   .refine (i+1,9,λua=>?_);simp only;rw[mG^CIz,mG^Hf! z,e];show and_iff_right! f
   .refine QHN;simp only;rw[d,mG^CIz,e];show PE (λy=>f y.1) id
  .let e:ps.Gd i=[]:=γ.drop_eq_nil_of_le^Hh! z;rcases b with b|b
   .refine (i,!2,λua=>?_);simp only;rw[mG^VTz,e];show bcuga
   .refine QHN;simp only;rw[d,mG^VTz,e];show PE (bcu) id
  .refine QHN;simp only;rw[d,mF^Jh! z];show Iff.rfl
abbrev emL:lU->Prop:=λu=>u=[]
def ci!:∀QDZ{u:lU},p7L emL psu↔u.β=ps.β/\∀QAu(p:ψχ)QFf,ps[i]?<*p->u[i]?<*c->fits Lpc
 |[],u=>(λh=>by rw[show u=[]from h];show(0,λ___z=>by simp at z),λh=>γ.ZD h.1)
 |p::ps,[]=>PE id λh=>by simp at h
 |p::ps,c::u=>by
  change fits Lpc/\p7L emL psu↔_;rw[ci!];constructor
  .rintro⟨a,b,d⟩;show(oRQTWb,λiqxh1h2=>?_);cases i with
   |qW=>cases h1;cases h2;show a
   |qV i=>show diqxh1h2
  .rintro⟨a,b⟩;show(b 0 p cζζ,χ.qV.WZ a,λiqxh1h2=>b (i+1) qxh1h2)
def gk!:aOQG3=p7L emL ps.UQ:=pF λu=>by
 change p7L emL ps u.UQ↔_;rw[ci!,ci!,w6,w6];show and_congr_right! λb=>(λhipch1h2=>?_,λhipch1h2=>?_)
 .let a:=(m9h2).1;show h (ps.β-1-i) p c ?_ ?_
  .rw [YG^EJab]at h1;show h1
  .rw [YG (!2),<-h2];congr 1;lia
 .let a:=(m9h1).1;show h (ps.β-1-i) p c ?_ ?_
  .rw [YG^Lp! a,<-h1];congr 1;lia
  .rw [YG^EAab]at h2;rw[<-h2];congr 1;lia
def HZ{A C:lU->Prop}:∀QDZ,aF (p7L Aps) C=p7LQO8ps
 |[]=>rfl
 |p::ps=>pF λu=>by
  constructor
  .rintro⟨x,v,ζ,h1,h2⟩;cases x with
   |nS=>show h1.Q5
   |nF c x=>show(h1.1,by rw[<-HZ];show(x,v,0,h1.2,h2))
  .intro h;cases u with
   |nS=>show h.Q5
   |nF c u=>
    let h2:=h.2;rw[<-HZ]at h2;let(x,v,ζ,a,b):=h2;show(c::x,v,0,(h.1,a),b)
def G0:aF emL C=C:=pF λu=>(λ⟨x,v,e,h,z⟩=>by rw[e,show x=[]from h];show z,λh=>([],u,5,h))
def ya!:aFC emL=C:=pF λu=>(λ⟨x,v,e,h,z⟩=>by rw[e,show v=[]from z,vP];show h,λh=>(u,[],(vPu).UH,h,0))
def IE:p7L (p7L Aqs) ps=p7L A (ps++qs):=by
 induction ps with
 |nS=>rfl
 |nF p ps a=>
  show pF λu=>?_;cases u with
  |nS=>show Iff.rfl
  |nF c u=>change fits Lpc/\p7L (p7L Aqs) psu↔fits Lpc/\p7L A (ps++qs) u;rw[a]
def y_!{P:χ->Prop}(e:P 0):∀n,∃j,j≤n/\Pj/\∀k,k≤n->Pk->k≤j
 |0=>((0),nZ_,e,λkh_=>h)
 |n+1=>by
  by_cases h:P (n+1)
  .exact (n+1,nZ_,h,λkc_=>c)
  .obtain ⟨j,a,b,d⟩:=y_! en;show(j,He! a,b,λkcz=>dk (by
    rcases χ.lt_or_eq_of_le c with y|y
    .exact L0y
    .exact mW (y▸z) h) z)
def BD!(p:w.β≤7):u5L (λu=>nOLu/\w <:+ u):=by
 show(w.β+1,λiu=>nOLu/\w <:+ w.Uj i++u,9,9,0,λ___z=>z.1,λic_m=>?_);let(j,h1,h2,h):=y_! (P:=λj=>w.Uj j <:+ w.Uj i++[c]) (γ.nil_suffix) w.β;show(j,MGh1,λug=>and_congr! (TF (c_f.Ui (m,g)) g) ?_);rw[show w.Uj i++c::u=(w.Uj i++[c])++u by rw[u4];rfl];generalize w.Uj i++[c]=v at h2 h;constructor
 .rintro⟨x,e⟩;rcases γ.append_eq_append_iff.mp e with⟨a,k,b⟩|⟨a,k,b⟩
  .let n:w.Uj a.β=a:=by rw[b,γ.take_left'];rfl
   let l:a.β≤w.β:=by rw[b,o9];show O6
   let f:a <:+ v:=(x,k.UH);let o:=h a.β l (by rw[n];show f);let(y,d):=γ.suffix_of_suffix_length_le fh2 (by rw[rS];lia);show(y,by rw[<-d,u4,<-b])
  .exact (w.Uj j++a,by rw[b,u4])
 .rintro⟨x,e⟩;let(y,d):=h2;show(y++x,by rw[u4,e,<-d,u4])
abbrev VI QA6(sk:χ):lU->Prop:=λu=>nOLu/\∃xv,u=x++s::v/\v.β=k
def yr!{skc:χ}:(∃xv,c::u=x++s::v/\v.β=k)↔QNA\/(c=s/\u.β=k):=by
 constructor
 .rintro⟨x,v,e,h⟩;cases x with
  |nS=>cases e;show .P2 (0,h)
  |nF d x=>cases e;show .UR (x,v,0,h)
 .rintro (⟨x,v,ζ,h⟩|⟨rfl,h⟩)
  .exact (c::x,v,0,h)
  .exact ([],u,0,h)
def Xz!(h2:k≤2):u5L^VIL sk:=by
 let j:2^(k+1)≤8:=n5 (χ.pow_le_pow_right (!0)^show k+1≤3 by lia) (!0);show(2^(k+1),λbu=>nOLu/\(QNA\/(u.β≤k/\b.Vy (k-u.β)=π)),χ.two_pow_pos _,j,pF λu=>and_congr_right! λ_=>(λh=>h.Q5 id (λz=>by let a:=z.2;rw[χ.zero_testBit]at a;cases a),.UR),λ___z=>z.1,λbc_i=>?_);show((2*b+(if c=s then 1 else 0))%2^(k+1),χ.mod_lt _^χ.two_pow_pos _,λuf=>and_congr! (TF (c_f.Ui (i,f)) f) ?_);rw[yr!,or_assoc!];show or_congr! Iff.rfl ?_;rw[χ.testBit_mod_two_pow,oY];by_cases e:u.β=k
 .rw [e,sub_self!,χ.testBit_zero];by_cases z:c=s
  .rw [mGz];show TF (.UR (z,0)) (nZ_,3);rw[xI,A4,A4];lia
  .rw [mFz];show PE (λh=>h.Q5 (λh=>z h.1) λh=>!6) λh=>?_;have:=h.2;rw[xI,A4,A4]at this;omega
 .by_cases l:u.β<k
  .obtain ⟨d,g⟩:∃d,k-u.β=d+1:=(k-u.β-1,zl! l);rw[g,show k-(u.β+1)=d from fX! g,χ.testBit_succ,show(2*b+if c=s then 1 else 0)/2=b by split<;>lia,uO^show d+1<k+1 from JD! g,b9.true_and];show(λh=>h.Q5 (λh=>mW h.2 e) λh=>(CIl,h.2),λh=>.P2 (Hf! l,h.2))
  .exact PE (λh=>h.Q5 (λh=>e h.2) λh=>!6) λh=>by lia
abbrev E' QA6(P:χ->Prop):lU->Prop:=λu=>nOLu/\P u.β
def rq!(d:0<r)(f:r≤8)(b5:∀n,P (n+r)↔Pn):u5L^E'L P:=by
 show(r,λi=>E'L λn=>P (n+i),d,f,0,λ___z=>z.1,λicgb=>?_);by_cases e:i+1=r
 .refine ((0),d,λua=>and_congr! QHq ?_);change P (u.β+1+i)↔P (u.β+0);rw[show u.β+1+i=u.β+r by lia];show b5_
 .refine (i+1,9,λua=>and_congr! QHq ?_);change P (u.β+1+i)↔P (u.β+(i+1));rw[show u.β+1+i=u.β+(i+1) from S4]
def zB!:aO^E'L P=E'L P:=pF λu=>by
 change nOL u.UQ/\P u.UQ.β↔_;rw[h_B!,w6];show Iff.rfl
abbrev RA QA6 QNk:Prop:=∃v:χ->lU,(∀a,a<9->nOL^v a)/\∀a b,a<b->b<9->∃u,nOLu/\¬ (S (v a++u)↔S (vb++u))
def RA.no(h:RAL S)(g:oOL WB)(j:W.β≤8)(e:pEL WB=S):oA:=by
 let(v,h1,h2):=h;let(a,b,ab,d,z):=vX! (f:=λa=>n6L W 0^v a) λai=>pP (PJg g.n1^h1ai) j;let(u,c,n):=h2ab ab d;show n ?_;rw[<-e];show and_congr! (TF (b_s.Ui (h1a^Jg! d ab,c))^b_s.Ui (h1bd,c)) ?_;unfold AC;let z:n6L W 0^v a=n6L W 0^vb:=z;rw[OU,OU,z]
def wP(i:c∈L)(hw:p7L emL psw)(l:7≤ps.β):RALQG3:=by
 let j:=(ci.mp hw).1;let f:=Z0 (λu(z:emL u)=>by rw[show u=[]from z];show PR) hw;let g:∀a,nOL^w.Uj a:=λaxd=>fx^WYd;let h:∀n,nOL^nMnc:=λnxd=>by rw[γ.YD d];show i
 show(λa=>if a=8 then nM (ps.β+1) c else w.Uj a,λa_=>?_,λa b ab k=>?_)
 .simp only;split
  .exact h_
  .exact ga
 .refine (w.Gd^if b=8 then a else b,λxd=>fx^P7d,λz=>?_);simp only[mF^show a≠8 by lia]at z;by_cases e:b=8
  .rw [mGe,mGe,DJ]at z;have:=(ci.mp^z.mp hw).1;rw[o9,r9]at this;lia
  .rw [mFe,mFe,DJ]at z;have:=(ci.mp^z.Ui hw).1;rw[o9,rS,zM]at this;lia
def wQ!(g:c∈L)(i:9≤m)(h1:Pm)(h2:∀d,0<d->d<9->¬ P (m+d)):RAL^E'L P:=by
 let e:∀n,nOL^nMnc:=λnxf=>by rw[γ.YD f];show g
 show(λa=>nMac,λa_=>ea,λa b ab h=>(nM (m-a) c,e_,λz=>?_));let y:=(z.mp (b_s.Ui (e_,e_),by rw[o9,r9,r9,show a+(m-a)=m by lia];show h1)).2;rw[o9,r9,r9,show b+(m-a)=m+(b-a) by lia]at y;show h2 (b-a) (!6) (!6) y
def dy!(q:s∈L)(m:r∈L)(n:r≠s):RAL^VIL s 3:=by
 let k:∀n,nOL^nMnr:=λnxj=>by rw[γ.YD j];show m
 let wv:∀a:χ,nOLQBa:=λaxj=>by
  let(i,_,ζ):=WB.mp j;split
  .exact q
  .exact m
 let f:∀ai:χ,i<4->(VIL s 3 (QBa++nMir)↔a.Vy i=π):=λaic=>by
  let u:∀y:b9,(if y=π then s else r)=s↔y=π:=λy=>by cases y<;>simp[n]
  unfold VI;rw[and_iff_right!^b_s.Ui (wv a,ki)];constructor
  .rintro⟨x,v,e,h⟩;let l:=oR γ.β e;rw[o9,o9,j',rA,r9,oY,h]at l;let g:(QBa++nMir)[i]?=(x++s::v)[i]?:=by rw[e]
   rw[u1 (by rw[j',rA];show c),na,yUc,w5 (!6),show i-x.β=0 by lia]at g;show(u_).mp^ψ.δ.WZ g
  .intro h;let t:i<((γ.b_ 4).Tx λi=>if a.Vy i then s else r).β:=by rw[j',rA];show c
   show(((γ.b_ 4).Tx λi=>if a.Vy i then s else r).Uj i,((γ.b_ 4).Tx λi=>if a.Vy i then s else r).Gd (i+1)++nMir,3,3)
   .let g:QBa[i]=s:=by rw[γ.getElem_map,γ.getElem_range,mGh]
    let d:=γ.fx t;rw[g]at d;rw[<-cons_append!,<-u4,<-d,DJ]
   .rw [o9,zM,j',rA,r9];lia
 show(λa=>(γ.b_ 4).Tx λi=>if a.Vy i then s else r,λa_=>wv a,λa b ab o=>?_);have⟨i,c,p⟩:∃i,i<4/\a.Vy i≠b.Vy i:=by
  let u7:(γ.b_ 9).u7 (λa=>(γ.b_ 9).u7 λb=>a==b||(γ.b_ 4).I9 λi=>a.Vy i != b.Vy i)=π:=by decide +kernel
  let z:=T5.mp (T5.mp u7a^Ug.Ui^Jg! o ab) b^Ug.Ui o;rcases b9.or_eq_true_iff.mp z with z|z
  .rw [T8]at z;lia
  .obtain ⟨i,c,z⟩:=XI.mp z;show(i,Ug.mp c,by simpa using z)
 show(nMir,ki,λz=>p ?_);simp only at z;rw[faic,fbic]at z;cases w:a.Vy i<;>cases o:b.Vy i<;>simp_all
end
section
variable{L:lU}{tx:cF}
abbrev xA QA6 QEc:Prop:=(∀p∈t.I1,u5LQC6)/\u5LQT7
def xA.self(h:xALt):u5LQCI:=h.1 t t.self
def xA.sml(a:ww L)(h:xALt):DYLt:=λpb5=>(h.1 pb5).mach a
abbrev E9 QA6 QEc:Prop:=∃p∈t.I1,RALQC6
def E9.no(h:E9Lt)(s:DYLt):oA:=by
 let(p,b5,n):=h;let(W,B,m,l,e):=s pb5;show n.no mle
abbrev e6:cF:=.uR .again QM'
abbrev rnd:χ->cF->cF
 |0,t=>.uR .WA t
 |1,t=>.rE .YH tQBQ
 |2,t=>.rE .less QBQt
 |3,t=>.rE .WG tQGl
 |4,t=>.rE .WG QGlt
 |5,t=>.rE .WG QBQt
 |6,t=>.rE .both t^.uR .WA QBQ
 |7,t=>.rE .both QBQt
 |8,t=>.rE .WG tQBQ
 |9,t=>.rE .YH e6t
 |10,t=>.rE .less te6
 |_,t=>.uR .T7 t
def G1:ac LQBQ=nonL:=pF λu=>(λh=>h.Q5 (λz=>by cases z.2) λ⟨_,_,z,_⟩=>(nomatch z),λz=>z.Q5)
def Ae!:ac LQGl=emL:=pF λu=>(λh=>h.Q5 And.left λ⟨_,_,z,_⟩=>(nomatch z),λz=>.UR (z,0))
abbrev pc:ψχ->cF
 |ε=>.yT .I9
 |δ c=>.yV c
def Fs:∀{p:ψχ},ac LQJd=p7L emL [p]
 |ε=>pF λu=>by
  constructor
  .rintro (⟨_,z⟩|⟨c,h,_,ζ⟩)
   .cases z
   .exact ((h,λ_z=>nomatch z),0)
  .intro h;match u,h with
   |[c],h=>show .P2 (c,h.1.1,h.1.1,0)
   |_::_::_,h=>show mW h.2 (!5)
 |δ s=>pF λu=>by
  constructor
  .rintro (⟨_,z⟩|⟨c,h,z,ζ⟩)
   .cases z
   .exact ((h,λx e=>by cases e;show o6z),0)
  .intro h;match u,h with
   |[c],h=>show .P2 (c,h.1.1,aL.Ui^h.1.2 sζ,0)
   |_::_::_,h=>show mW h.2 (!5)
def Iz! QMX(h:emL u):nOLu:=by rw[show u=[]from h];show PR
def U8(h:ps.β≤6):u5LQG3:=rn! Iz! h (.P2 λ__z=>nomatch z)
def Xm!(h:ps.β≤6):u5L^p7LQJcps:=rn! QU2h (.UR λc_a_=>c_f.ξ QU6)
def G3:ac Le6=nOL:=pF λu=>by
 change vT (ac LQCj) u↔_;rw[Fs];constructor
 .intro h;induction h with
  |nS=>show PR
  |jA _ h f=>show b_s.Ui (f,Z0 Iz! h)
 .intro h;let d:∀nQMX,u.β=n->nOLu->vT (p7L emL [ε]) u:=by
   intro n;induction n with
   |qW=>intro ue_;rw[γ.ZD e];show .nS
   |qV n f=>
    intro ueh;let(b,c,ζ):=zk! (a:=u) (λz=>by rw[z]at e;cases e);rw[o9]at e;let(h1,h2):=b_s.mp h;show(fb (χ.qV.WZ e) h1).jA ((h2ccG,λ_z=>nomatch z),0)
  show d_uζh
def oi!:aOQJc=nOL:=pF λu=>h_B!
def SD!:u5L emL:=U8 (ps:=[]) (!0)
def so!:aO^aOS=S:=pF λu=>by change S u.UQ.UQ↔_;rw[γ.reverse_reverse]
def SW QQn(h':u5L^ac L^.uR k t):∀p∈(cF.uR k t).I1,u5LQC6:=λpb5=>(u3.mp b5).Q5 (λe=>e▸h')^hp
def DZ QQn(h1:∀p∈x.I1,u5LQC6)(h':u5L^ac L^.rE k tx):∀p∈(cF.rE k tx).I1,u5LQC6:=λpb5=>(u3.mp b5).Q5 (λe=>e▸h') λz=>(lp.mp z).Q5 (hp)^h1p
def S7:∀p∈(cF.yT k).I1,u5LQC6:=λpb5=>by
 rw[o6b5];cases k with
 |X5=>rw[G1];show eD!
 |X7=>rw[Ae!];show SD!
 |I9=>rw[show cF.yT .I9=pc ε from ζ,Fs];show U8 (!0)
def wn!:∀q∈(pc p).I1,u5L^ac Lq:=by
 cases p with
 |ε=>show S7
 |δ c=>show λqa=>by rw[o6a,show cF.yV c=pc (δc)from ζ,Fs];show U8 (by change 1≤6;decide)
def XW:∀p∈e6.I1,u5LQC6:=SWS7 (by rw[show cF.uR .again QM'=e6 from ζ,G3];show Kz!)
def xA.rnd(h:xALt)QGT:xAL^rnd k t:=by
 let a:=h.self;let b:∀{y:cF},ac Ly=nonL->QIH->xALy:=λef=>(f (e▸eD!),by rw[e];show eD!);let c:∀{y:cF},ac Ly=ac Lt->QIH->xALy:=λef=>(f (e▸a),by rw[e];show h.2);match k with
 | 0=>show(SW h.1 a.gT,by
   let e:aO^ac L^.uR .WA t=C6L^aO^ac Lt:=pF λu=>and_congr! h_B! Iff.rfl;rw[show _b.rnd 0 t=.uR .WA t from ζ,e];show h.2.gT)
 |1=>show c (pF λu=>by change ac Ltu\/ac LQBQu↔_;rw[G1];show or_iff_left! id) QSf
 |2=>show b (pF λu=>by change ac LQBQu/\_↔_;rw[G1];show(And.left,oA.Q5)) QMc
 |3=>show c (by change aFQCI^ac LQGl=_;rw[Ae!];show ya!) QSf
 |4=>show c (by change aF (ac LQGl) QCI=_;rw[Ae!];show G0) QMc
 |5=>show b (pF λu=>by change aFQOJQCIu↔_;rw[G1];show(λ⟨_,_,_,z,_⟩=>z,oA.Q5)) QMc
 |6=>show c (pF λu=>by change ac Ltu/\(nOLu/\¬ ac LQBQu)↔_;rw[G1];show(And.left,λz=>(z,a.bG z,id))) (DZ h.1^SWS7^by change u5L^C6LQOJ;rw[G1];show eD.gT)
 |7=>show b (pF λu=>by change ac LQBQu/\_↔_;rw[G1];show(And.left,oA.Q5)) QMc
 |8=>show b (pF λu=>by change aFQCIQOJu↔_;rw[G1];show(λ⟨_,_,_,_,z⟩=>z,oA.Q5)) QSf
 |9=>
  let e:ac L^.rE .YH e6t=nOL:=pF λu=>by change ac Le6u\/ac Ltu↔_;rw[G3];show(λz=>z.Q5 id a.bG,.UR)
  show(DZXW h.1 (e▸Kz!),by rw[show _b.rnd 9 t=.rE .YH e6t from ζ,e,oi!];show Kz!)
 |10=>show b (pF λu=>by change ac Ltu/\¬ ac Le6u↔_;rw[G3];show(λz=>z.2^a.bG z.1,oA.Q5))^DZ h.1 XW
 |k+11=>show(SW h.1 h.2,by change u5L^aOQT7;rw[so!];show a)
def E9.rnd(h:E9Lt)QGT:E9L^rnd k t:=by
 let(p,b5,n):=h;show(p,3,n);let o:∀k,p∈(cF.uR k t).I1:=λk=>qO_b5;let l:∀ky,p∈(cF.rE k t y).I1:=λky=>qO_^XS_b5;let r:∀ky,p∈(cF.rE kyt).I1:=λky=>qO_^F5_b5;match k with
 |0=>show o_
 |1=>show l__
 |2=>show r__
 |3=>show l__
 |4=>show r__
 |5=>show r__
 |6=>show l__
 |7=>show r__
 |8=>show l__
 |9=>show r__
 |10=>show l__
 |_+11=>show o_
abbrev rV(x:cF)(ps:γQSe):cF:=ps.foldl (λa p=>.rE .WG aQJd) x
def CB!:aF (aFAB) C=aFA^aFBC:=pF λu=>by
 constructor
 .rintro⟨x,v,ζ,⟨a,b,ζ,h1,h2⟩,c⟩;show(a,b++v,u4 ..,h1,b,v,0,h2,c)
 .rintro⟨a,v,ζ,h1,b,d,ζ,h2,c⟩;show(a++b,d,(u4 ..).UH,(a,b,0,h1,h2),c)
def f_c:∀QDZ{x:cF},ac L^rVxps=aFQH6QG3
 |[],x=>ya.UH
 |p::ps,x=>by
  change ac L^rVQMdps=_;rw[f_c,show ac LQMd=aFQH6 (ac LQJd)from ζ,Fs,CB!,HZ,G0,IE];rfl
def ka!:∀QDZ{x:cF},(∀p∈x.I1,u5LQC6)->(∀i,i≤ps.β->u5L^aFQH6^p7L emL^ps.Uj i)->∀p∈(rVxps).I1,u5LQC6
 |[],_,h,_=>h
 |p::ps,x,h,g=>by
  let e:ac LQMd=aFQH6^p7L emL [p]:=by rw[<-Fs];rfl
  show ka! (ps:=ps) (x:=.rE .WG xQJd) (DZh wn!^by rw[e];show g 1^WJQDx) λia=>?_;have:=g (i+1)^WJa;rw[e,CB!,HZ,G0,IE];show this
def de!(h:ps.β≤5):xALQB7/\ac LQB7=p7L emL QMK:=by
 let e:∀ps,aF (ac LQJd) QG3=p7L emL QMK:=λps=>by rw[Fs,HZ,G0,IE];rfl
 let a:ac LQB7=p7L emL QMK:=f_c.ξ^eps;show((ka! wn! λib=>?_,3),a)
 .rw [e];show U8 (by rw[oY,rS];lia)
 .rw [a,gk!];show U8 (by rw[w6,oY];show Hl! h)
def Dq!(b:c∈L)(g:∀x,δx∈p::ps->x∈L)(h:6≤ps.β):E9LQB7:=by
 let e:ac LQB7=p7L emL QMK:=by rw[f_c,Fs,HZ,G0,IE];rfl
 show(_,cF.self _,e▸wP (w:=(p::ps).Tx λq=>q.TC c) b ?_^by rw[oY];lia);let a:∀qs:γQSe,(∀x,δx∈qs->x∈L)->p7L emL qs (qs.Tx λq=>q.TC c):=by
  intro qs;induction qs with
  |nS=>intro _;rfl
  |nF q qs d=>
   intro h;show(3,d λxf=>hxQOh);cases q with
   |ε=>show(b,λ_z=>nomatch z)
   |δ y=>show(hycG,λx z=>by cases z;rfl)
 show a_g
abbrev xY QA6(q:γQSe):lU->Prop:=aFQJc^p7L emL q
def qx!:aOQO8=aF (aOC)^aOA:=pF λu=>by
 constructor
 .rintro⟨x,v,e,h1,h2⟩;show(v.UQ,x.UQ,3,3,3)
  .rw [<-γ.reverse_append,<-e,γ.reverse_reverse]
  .change C v.UQ.UQ;rw[γ.reverse_reverse];show h2
  .change A x.UQ.UQ;rw[γ.reverse_reverse];show h1
 .rintro⟨x,v,ζ,h1,h2⟩;show(v.UQ,x.UQ,γ.reverse_append,h2,h1)
def PM:p7LQJcq=aF (p7L emL q) QJc:=by rw[HZ,G0]
def Yb!:aO^xYLq=p7LQJc q.UQ:=by rw[xY,qx!,oi!,gk!,PM]
def Cu!:aO^p7LQJcq=xYL q.UQ:=by rw[PM,qx!,oi!,gk!];rfl
def e_C!:∀QLU{u:lU},p7L emL QHru↔nOLu/\u.β=n
 |0,u=>(λh=>by rw[show u=[]from h];show(PR,0),λh=>γ.ZD h.2)
 |n+1,[]=>PE id λh=>by cases h.2
 |n+1,c::u=>by
  change fits Lεc/\p7L emL QHru↔_;rw[e_C!,c_f!];show(λe=>by let(a,b,d):=e;show((a.1,b),oRQTWd),λf=>by let((a,b),d):=f;show((a,λ_z=>nomatch z),b,χ.qV.WZ d))
def TK!(h:n≤6):u5L^xYLQHr:=by
 let e:xYLQHr=p7LQJcQHr:=by
  rw[PM];show pF λu=>(3,3)
  .rintro⟨x,v,ζ,h1,h2⟩;let(b,ζ):=e_C.mp h2;let w:=b_s.Ui (h1,b);let l:v.β≤(x++v).β:=by rw[o9];lia
   show((x++v).Uj v.β,(x++v).Gd v.β,(DJ ..).UH,e_C.Ui (λc a=>wc^WYa,by rw[rS];lia),λc a=>wc^P7a)
  .rintro⟨x,v,ζ,h1,h2⟩;let(b,ζ):=e_C.mp h1;let w:=b_s.Ui (b,h2);show((x++v).Uj v.β,(x++v).Gd v.β,(DJ ..).UH,λc a=>wc^WYa,e_C.Ui (λc a=>wc^P7a,by rw[zM,o9];lia))
 rw[e];show Xm! (by rw[r9];show h)
def Ek!:∀{wu:lU},p7L emL QQou↔u=w/\nOLw
 |[],u=>(λh=>(h,PR),λh=>h.1)
 |x::w,[]=>PE id λh=>by cases h.1
 |x::w,c::u=>by
  change fits L (δx) c/\p7L emL QQou↔_;rw[Ek!,c_f!];constructor
  .rintro⟨⟨a,b⟩,ζ,d⟩;obtain ζ:=bxζ;show(0,a,d)
  .rintro⟨e,a,d⟩;cases e;show((a,λyz=>by cases z;rfl),0,d)
def uu! QRC(h:w.β≤7):u5L^xYLQQo:=by
 let e:xYLQQo=λu=>nOLu/\w <:+ u:=pF λu=>by
  constructor
  .rintro⟨x,v,ζ,h1,h2⟩;let(rfl,h2):=Ek.mp h2;show(b_s.Ui QM8,x,0)
  .rintro⟨h,x,ζ⟩;show(x,w,0,(b_s.mp h).1,Ek.Ui (0,(b_s.mp h).2))
 rw[e];show BD! h
def Rf!:xYLQFX=VIL sk:=pF λu=>by
 constructor
 .rintro⟨x,v,ζ,h1,h2⟩;cases v with
  |nS=>show h2.Q5
  |nF c v=>
   let((a,b),d):=h2;obtain ζ:=b sζ;let(f,ζ):=e_C.mp d;show(b_s.Ui (h1,c_f.Ui (a,f)),x,v,5)
 .rintro⟨h,x,v,ζ,ζ⟩;let(h1,h2):=b_s.mp h;let(h2,e):=c_f.mp h2;show(x,s::v,0,h1,(h2,λyz=>by cases z;rfl),e_C.Ui (e,0))
def qB!{s:χ}QUO:∀{q:γQSe},(∀x,δx∈q->x=s)->p7 [s] Aq=p7 [s] A (nM q.β ε)
 |[],_=>rfl
 |p::q,h=>pF λu=>by
  cases u with
  |nS=>show Iff.rfl
  |nF c u=>
   change fits [s] p c/\p7 [s] Aqu↔fits [s] εc/\p7 [s] A (nM q.β ε) u;rw[qB! λxa=>hxQTk];show and_congr_left! λ_=>(λz=>(z.1,λ_z=>nomatch z),λz=>(z.1,λx e=>?_));rw[hx (e▸cG)];show o6 z.1
def Cy!(h:∀x,δx∈q->x=s)(a:q.β≤6):u5 [s]^xY [s] q:=by
 rw[xY,qB! h];show TK! a
def Xd!(h:ps.β≤5)(b:u5LQU7):xALQLN:=by
 let(g,e):=de! (L:=L) (p:=p) h;let a:ac LQLN=p7LQJcQMK:=by
  change aF (ac LQB7)^ac Le6=_;rw[e,G3,PM]
 show(DZ g.1 XW (a▸Xm!^by rw[oY];show Hl! h),by rw[a,Cu!];show b)
def qQ!:ac L^rVe6q=xYLq:=by rw[f_c,G3];rfl
def Ca!(c:q.β≤6)(a:∀i,i≤q.β->u5L^xYL^q.Uj i):xAL^rVe6q:=
 (ka! XW λib=>by rw[G3];show aib,by rw[qQ!,Yb!];show Xm!^by rw[w6];show c)
def Cz!(h:k≤2):u5L^xYLQFX:=by rw[Rf!];show Xz! h
def Yk!(h:k≤2):xAL^rVe6QFX:=Ca! (by rw[oY,r9];lia) λia=>by
 cases i with
 |qW=>show TK! (n:=0) (!0)
 |qV i=>
  rw[γ.take_succ_cons,γ.take_replicate];show Cz! (by rw[oY,r9]at a;lia)
def Bo!(h:k≤3):xA [s]^rVe6QFX:=Ca! (by rw[oY,r9];show Gg! h) λib=>by
 let m:∀x,δx∈δ s::nMk (ε:ψχ)->x=s:=λxa=>(u3.mp a).Q5 QU8 λz=>nomatch γ.YD z;show Cy! (λxa=>mx^WYa) (by rw[rS,oY,r9];lia)
def nf!(a:s∈L)(b:r∈L)(n:r≠s):E9L^rVe6 (δ s::nM 3 ε):=(_,cF.self _,by rw[qQ!,Rf!];show dy! a b n)
abbrev J'(s:χ):χ->cF
 |0=>.rE .WG (pc QQp) e6
 |k+1=>.rE .WG (rVQCjQKa) e6
def vn!:(nMk (ε:ψχ)++[δ s]).UQ=δ s::nMkε:=by rw[γ.reverse_append,γ.reverse_replicate];rfl
def ua!{s:χ}:∀{k:χ},ac L^J'sk=p7LQJcQKa
 |0=>by change aF (ac L^pc QQp)^ac Le6=_;rw[Fs,G3,PM];rfl
 |k+1=>by
  change aF (ac L^rVQCjQKa)^ac Le6=_;rw[f_c,Fs,G3,CB!,HZ,G0,<-PM,IE];rfl
def Bj!(h:k≤3)(a:u5L^xYLQFX):xAL^J'sk:=by
 rw[<-vn!]at a;cases k with
 |qW=>show Xd! (p:=δ s) (ps:=[]) (!0) a
 |qV k=>show Xd! (p:=ε) (ps:=nMkε++[δ s]) (by rw[o9,r9];change k+1≤5;lia) a
def la!(a:s∈L)(b:r∈L)(n:r≠s):E9L^.uR .T7^J's 3:=(_,cF.self _,by
 change RAL^aO^ac L^J's 3;rw[ua!,Cu!,vn!,Rf!];show dy! a b n)
def xj!:ac LQEF=E'L (·=a+1):=by
 rw[f_c,Fs,HZ,G0,IE];show pF λu=>e_C! (n:=a+1)
def vv!(g:0<a):vT (E'L (·=a))=E'L (· % a=0):=pF λu=>by
 constructor
 .intro h;induction h with
  |nS=>show(PR,χ.zero_mod _)
  |jA _ h b=>show(b_s.Ui (b.1,h.1),by rw[o9,h.2];change (_+a)%a=0;rw[χ.add_mod_right];show b.2)
 .let d:∀nQMX,u.β=n*a->nOLu->vT (E'L (·=a)) u:=by
   intro n;induction n with
   |qW=>intro ue_;rw[χ.zero_mul]at e;rw[γ.ZD e];show .nS
   |qV n b=>
    intro ueh;rw[χ.succ_mul]at e;rw[<-DJ (n*a) u];show(b_ (by rw[rS];lia) λcf=>hc^WYf).jA (λcf=>hc^P7f,by rw[zM];lia)
  rintro⟨h,e⟩;show d (u.β/a) u (by rw[χ.mul_comm];show(χ.mul_div_cancel'^χ.dvd_of_mod_eq_zero e).UH) h
def gu!:ac LQVu=E'L (· % (a+1)=0):=by
 change vT^ac LQEF=_;rw[xj!,vv! QQq]
abbrev pv!(a b:χ):cF:=.rE .both QVu^.uR .again^rVQCj^nMbε
def WO:ac LQO'=E'L λn=>n%(a+1)=0/\n%(b+1)=0:=pF λu=>by
 change ac L (.uR .again _) u/\ac L (.uR .again _) u↔_;rw[gu!,gu!];show(λh=>(h.1.1,h.1.2,h.2.2),λh=>((h.1,h.2.1),h.1,h.2.2))
def SH!(d:a≤4)(e:b≤4)(i:0<r)(g:r≤8)QOR QOS:xALQO':=by
 let c:∀{a},a≤4->∀p∈(cF.uR .again QEF).I1,u5LQC6:=λ{a}d=>SW (de!^by rw[r9];lia).1.1 (by rw[gu!];show rq! QQq (!6) λn=>by rw[χ.add_mod_right]);let ad:∀{a n},r%(a+1)=0->(n+r)%(a+1)=n%(a+1):=λ{a n}h=>by rw[χ.add_mod,h,χ.add_zero,χ.mod_mod]
 let f:u5L^ac LQO':=by rw[WO];show rq! ig λn=>by rw[ad h1,ad h2]
 show(DZ (c d) (c e) f,by rw[WO,zB!,<-WO];show f)
def Fc!(f:c∈L)(g:9≤r)QOR QOS(e:∀d,0<d->d<9->¬ QHO):E9LQO':=by
 let ad:∀{a n},r%(a+1)=0->(r+n)%(a+1)=n%(a+1):=λ{a n}h=>by rw[χ.add_mod,h,χ.WL,χ.mod_mod]
 show(_,cF.self _,by rw[WO];show wQ! fgQM8 λdjiz=>edji ((ad h1).UH.ξ z.1,(ad h2).UH.ξ z.2))
end
section
variable{L:lU}
def HW:∀QDZ{x:cF},x.over L->(∀c,δc∈ps->c∈L)->(rVxps).over L
 |[],_,h,_=>h
 | p::ps,_,h,g=>HW (ps:=ps) (h,by
   cases p with
   |ε=>trivial
   | δ c=>show gccG) λc a=>gc^qO_a
def wg!:∀p:ψχ,(pc p).Kd=1/\(pc p).sz=1
 |ε=>(0,0)
 |δ _=>(0,0)
def MV:∀QDZ{x:cF},(rVxps).Kd=x.Kd+ps.β/\(rVxps).sz=x.sz+2*ps.β
 |[],_=>(0,0)
 |p::ps,x=>by
  let(a,b):=MV (ps:=ps) (x:=.rE .WG xQJd);let(d,e):=wg! p;have:=x.dep_pos;show(a.ξ ?_,b.ξ ?_)
  .change max x.Kd (pc p).Kd+1+ps.β=_;rw[d,oY];lia
  .change x.sz+(pc p).sz+1+2*ps.β=_;rw[e,oY];lia
def sl!(h:∀c,p<*c->c∈L):(pc p).over L:=by
 cases p with
 |ε=>trivial
 |δ c=>show hcζ
structure BA QA6(k:ω)(s:χ)QEc(g:b9)QAu:Prop where
 kY:t.over L
 kE:t.Kd≤9+i
 sz!:t.sz≤21+3*i
 gd!:g=ν->xALt
 gr!:g=π->E9Lt
 no!:k=1\/k=3->t.over []
 on!:4≤k->xA [s] t
def RS(h:δc∈nMn (ε:ψχ)):oA:=nomatch γ.YD h
def cr0!(f:∀x∈c::cs,x∈L)(m:cs.β≤8)(l:k=0):BALk sQMe (decide (5<cs.β)) 0:=by
 let i:∀x,δx∈δc::cs.Tx δ->x∈L:=λxd=>fx (by
  rcases u3.mp d with e|d
  .cases e;show cG
  .obtain ⟨y,j,e⟩:=WB.mp d;cases e;show qO_j)
 let(a,b):=MV (ps:=cs.Tx δ) (x:=pc^δc);rw[j']at a b;show(HW (fccG) λxd=>ix^qO_d,by rw[a];change 1+_≤9+0;lia,by rw[b];change 1+_≤21+3*0;lia,
  λg=>(de!^by rw[j'];show xG^Msg).1,λg=>Dq! (fccG) i (by rw[j'];show VGg),λh=>!6,λh=>!6)
def OL!(r:c∈L)(j:∀x,δx∈p::ps->x∈L)(u:ps.β≤7)(t:k<4)(o:k=1\/k=3->∀x,δx∈p::ps->oA)(l:ps.β≤5->u5LQU7):BALk sQLN (decide (5<ps.β)) 0:=by
 let(a,b):=MV (ps:=ps) (x:=pc p);let(d,e):=wg! p;rw[d]at a;rw[e]at b;let i:∀{M:lU},(∀x,δx∈p::ps->x∈M)->(cF.rE .WG QB7e6).over M:=λh=>(HW (sl! λx e=>hx (e▸cG)) λxf=>hxQOh,trivial);show(ij,3,3,λg=>Xd! QSg^lQSg,λg=>?_,λh=>i λxf=>(ohxf).Q5,λh=>!6)
 .change max (rVQJdps).Kd 2+1≤9;lia
 .change (rVQJdps).sz+2+1≤21;lia
 .obtain ⟨q,m,n⟩:=Dq! rj^VGg;show(q,qO_^XS_m,n)
def vk!(e:c∈L)(f:n≤7)(d:k<4):BALk s (.rE .WG (rVQCjQHr) e6) (decide (5<n)) 0:=by
 let b:∀x,δx∈(ε:ψχ)::nMnε->oA:=λxa=>RS (n:=n+1) a;have:=OL! (k:=k) (s:=s) e (p:=ε) (ps:=nMnε) (λxa=>(bxa).Q5) (by rw[r9];show f) d (λ_=>b) λh=>by
  rw[show(ε:ψχ)::nMnε=nM (n+1) ε from ζ,γ.reverse_replicate];rw[r9]at h;show TK!^Hl! h
 rw[r9]at this;show this
def MQ!(b:∀x∈c::cs,x∈L)(f:cs.β≤7)(g:k=2):BALk s (.rE .WG QMee6) (decide (5<cs.β)) 0:=by
 have:=OL! (k:=k) (s:=s) (bccG) (p:=δc) (ps:=cs.Tx δ) (λxa=>bx^by
  rcases u3.mp a with e|a
  .cases e;show cG
  .obtain ⟨y,d,e⟩:=WB.mp a;cases e;show qO_d) (by rw[j'];show f) (!6) (λh=>!6) λh=>by
  rw[show δc::cs.Tx δ=(c::cs).Tx δ from ζ,<-γ.map_reverse];rw[j']at h;show uu! (by rw[w6,oY];lia)
 rw[j']at this;show this
def ob!(e:c∈L)(n:a≤4)(m:b≤4)(o:0<r)QOR QOS(l:∀d,0<d->d<r->¬ QHO)(q:k<4):BALk sQO' (decide (8<r)) 0:=by
 let f:∀{M:lU},(pv! a b).over M:=(HW (x:=pc ε) trivial λc e=>(RSe).Q5,HW (x:=pc ε) trivial λc e=>(RSe).Q5);let(d1,j):=MV (ps:=nMaε) (x:=pc ε);let(d2,i):=MV (ps:=nMbε) (x:=pc ε);rw[r9]at d1 j d2 i;let u:(pc ε).Kd=1:=ζ;let t:(pc ε).sz=1:=ζ;show(f,3,3,λg=>SH! n moQSgh1h2,λg=>?_,λ_=>f,λh=>!6)
 .change max ((rVQCj^nMaε).Kd+1) ((rVQCj^nMbε).Kd+1)+1≤9;lia
 .change (rVQCj^nMaε).sz+1+((rVQCj^nMbε).sz+1)+1≤21;lia
 .let g:=VGg;show Fc! e (!6) h1h2 λdpv=>ldp (!6)
def vd!(d:ww L)(f:s∈L)(h:1<L.β):∃r∈L,r≠s:=by
 match L,h with
 |a::b::l,_=>
  let c:=d.eR;by_cases e:a=s
  .refine (b,qO_cG,λz=>?_);show(ZL.mp c).1 (by rw[e,<-z];show cG)
  .exact (a,cG,e)
def LT(c:ww L)(b:s∈L)(h:¬ 1<L.β):L=[s]:=by
 match L,c.lo with
 |[a],_=>rw[o6b]
 |_::_::_,_=>show mW (χ.succ_lt_succ^succ_pos! _) h
def SK!(d:ww L)(a:s∈L)(f:n≤3)(o:4≤k):BALk s (rVe6QMf) (decide (n=3)&&decide (1<L.β)) 0:=by
 let(d1,i):=MV (ps:=δ s::nMnε) (x:=e6);rw[oY,r9]at d1 i;let q:e6.Kd=2:=ζ;let p:e6.sz=2:=ζ;show(HW (x:=e6) trivial λcb=>?_,9,9,λg=>?_,λg=>?_,λh=>!6,λ_=>Bo! f)
 .rcases u3.mp b with e|b
  .cases e;show a
  .exact (RSb).Q5
 .rcases b9.and_eq_false_iff.mp g with g|g
  .exact Yk! (by have:=Msg;show Gx! this f)
  .rw [LTda^Msg];show Bo! f
 .obtain ⟨m,l⟩:=b9.and_eq_true_iff.mp g;let(r,j,n):=vd! da^VGl;rw[VGm];show nf! ajn
def uv!(b:n≤3):u5 [s]^xY [s] QMf:=
 Cy! (λxa=>(u3.mp a).Q5 QU8 λz=>(RSz).Q5) (by rw[oY,r9];show Gg! b)
def SL!(e:ww L)(a:s∈L)(f:n≤3)(q:4≤k):BALk sQJe (decide (n=3)&&decide (1<L.β)) 0:=by
 let i:∀{M:lU},u5M^xYMQMf->xAMQJe:=λh=>(Bj! f h).rnd 11;let j:xA [s] QJe:=i^uv! f;let d:(J'sn).over L/\(J'sn).Kd≤8/\(J'sn).sz≤20:=by
  cases n with
  |qW=>show((a,trivial),by change 3≤8;decide,by change 4≤20;decide)
  |qV n=>
   let(d1,l):=MV (ps:=nMnε++[δ s]) (x:=pc ε);rw[o9,r9]at d1 l;let v:(pc ε).Kd=1:=ζ;let u:(pc ε).sz=1:=ζ;let t:[δ s].β=1:=ζ;show((HW (x:=pc ε) trivial λcb=>?_,trivial),3,3)
   .rcases lp.mp b with b|b
    .exact (RSb).Q5
    .cases o6b;show a
   .change max (rVQCjQU9).Kd 2+1≤8;lia
   .change (rVQCjQU9).sz+2+1≤20;lia
 show(d.1,WJ d.2.1,WJ d.2.2,λg=>?_,λg=>?_,λh=>!6,λ_=>j)
 .rcases b9.and_eq_false_iff.mp g with g|g
  .exact i (Cz!^by have:=Msg;show Gx! this f)
  .rw [LTea^Msg];show j
 .obtain ⟨o,m⟩:=b9.and_eq_true_iff.mp g;let(r,p,n):=vd! ea^VGm;rw[VGo];show la! a pn
def mi! QIM(h:t.over L):∀j,(rnd jt).over L
 |0=>h|1=>(h,trivial)|2=>(trivial,h)|3=>(h,trivial)|4=>(trivial,h)|5=>(trivial,h)|6=>(h,trivial)|7=>(trivial,h)|8=>(h,trivial)|9=>(trivial,h)|10=>(h,trivial)|_+11=>h
def zx!:∀j,(rnd jt).Kd≤max t.Kd 2+1/\(rnd jt).sz≤t.sz+3:=λj=>by
 have:(cF.yT .X5).Kd=1/\(cF.yT .X7).Kd=1/\e6.Kd=2/\(cF.uR .WA QBQ).Kd=2:=(5,5);have:(cF.yT .X5).sz=1/\(cF.yT .X7).sz=1/\e6.sz=2/\(cF.uR .WA QBQ).sz=2:=(5,5);let o:∀k,(cF.uR k t).Kd≤max t.Kd 2+1/\(cF.uR k t).sz≤t.sz+3:=λk=>(by change t.Kd+1≤_;lia,by change t.sz+1≤_;lia);let l:∀ky,y.Kd≤2->y.sz≤2->(cF.rE k t y).Kd≤max t.Kd 2+1/\(cF.rE k t y).sz≤t.sz+3:=λkyab=>(by change max t.Kd y.Kd+1≤_;lia,by change t.sz+y.sz+1≤_;lia);let r:∀ky,y.Kd≤2->y.sz≤2->(cF.rE kyt).Kd≤max t.Kd 2+1/\(cF.rE kyt).sz≤t.sz+3:=λkyab=>(by change max y.Kd t.Kd+1≤_;lia,by change y.sz+t.sz+1≤_;lia);match j with
 |0=>show o_
 |1=>show l__ (!0) (!0)
 |2=>show r__ (!0) (!0)
 |3=>show l__ (!0) (!0)
 |4=>show r__ (!0) (!0)
 |5=>show r__ (!0) (!0)
 |6=>show l__ (!0) (!0)
 |7=>show r__ (!0) (!0)
 |8=>show l__ (!0) (!0)
 |9=>show r__ (!0) (!0)
 |10=>show l__ (!0) (!0)
 |_+11=>show o_
def BA.next(h:BALk s tgi)QIL:BALk s (rnd jt) g (i+1):=by
 let(a,b):=zx! (t:=t) j;have:=h.kE;have:=h.sz;show(mi! h.kY j,9,9,λz=>(h.gd z).rnd j,λz=>(h.gr z).rnd j,λz=>mi! (h.no z) j,λz=>(h.on z).rnd j)
end
abbrev IG(x:cF)(pts!:γcF):cF:=pts.foldl (λa p=>.rE .WG a p) x
def DH!:IGx (a++[y])=.rE .WG (IGxa) y:=foldl_append! ..
def UG:IGx^ps.Tx pc=rVxps:=γ.foldl_map
def z7.Uj QJa:∀QBmQHVQLU,z7Rxsts->z7R (xs.Uj n) (ts.Uj n)
 |[],[],_,_=>by rw[γ.take_nil,γ.take_nil];trivial
 |_::_,_::_,0,_=>trivial
 |_::_,_::_,_+1,h=>(h.1,z7.Uj h.2)
def z7.rep QJa{v:V}QIM(h:Rtv):∀n,z7R (nMnv) (nMnt)
 |0=>trivial
 |n+1=>(h,z7.rep hn)
def mj!{v:V}:∀n,(nMn [v]).XQ=nMnv
 |0=>rfl
 |n+1=>by rw[FP,PI,mj! n];rfl
end _b
section
seal _F.mP _F.w0 _F.tR _F.qT _F.vZ _F.PG _F.vI _F.FR _F.W6 _F.PW _F.PX
namespace _K
open _F _b
abbrev o5 QAu:cZ:=Δ.Challenge.pw_roomalgebra_k37_just_what_is_too_great.main.body.TC iQBU
instance j4:bE:="machine"
instance o3:bE:="letters"
instance oM:bE:="rooms"
instance OY:bE:="things"
instance j9:bE:="words"
instance iN:bE:="is_marked"
instance u':bE:="walk"
instance fY:bE:="goals_of"
instance t4:bE:="ways"
instance uS:bE:="marks"
instance y6:bE:="room"
instance AY:cZ:=o5 25
instance CZ:cZ:=o5 26
instance Cl!:cZ:=o5 24
instance II:cZ:=x7 Cl! 0
structure WH! QAw QAy(cWfI:θ)(fdI:uP):Prop where
 tv!:mg "Walk"<*.ο cW
 dM:zVKcW
 mkW:D5KcWfI
 na1:u6KcWo3
 na2!:u6KcWOY
 na3!:u6KcWj9
 na4!:u6KcWt4
 na5!:u6KcWuS
 ini!:nEK "__init__" "Walk.__init__" IIfI fdI
def BQ!:n9 ["self",o3,"start"] ["self",o3,"start"]^hYII:=nU
def Ze!(p:WH! K mg lfI fdI):mTPwK mg υms 1 fI fdI ["self",o3,"start"]^vx! l:=by
 show p.ini.ok BQ! QAG (λbYAb7sHvsQ E Zh=>?_)
 .obtain ⟨x,dx,L,v,ζ,_⟩:=h;rfl
 .obtain ⟨x,dx,L,v,ζ,T,q⟩:=h;show(_,(lW (HU (f:=o3) QADQAFζ)^lW (HU (f:=OY) QAD (AVQFG) ζ)^lW (HU (f:=j9) QADQQrζ)^lW (HU (f:=t4) QADQGRζ)^hF^HU (f:=uS) QADQGRζ),3);show(x,l,dx,2,T,p.dM,p.na1,!0,3);show(m6^by change 1≤16777216;decide,λtD=>(x,l,dx,2,p5hJD,p.dM,p.na2,VM (G'^show _=1 from ζ) (!0),3));let c:t≠x:=λz=>by rw[z,hJ]at D;cases D
  show(m6^by change 1≤16777216;decide,λi d=>(x,l,dx,2,p5hJd,p.dM,p.na3,VM (G'^show _=2 from ζ) (!0),3));let u:i≠x:=λz=>by rw[z,hJ]at d;cases d
  show(pT_,λyr=>(x,l,dx,2,p5hJr,p.dM,p.na4,VM (G'^show _=3 from ζ) (!0),3));let B:y≠x:=λz=>by rw[z,hJ]at r;cases r
  show(pT_,λm k=>(x,l,dx,2,p5hJk,p.dM,p.na5,VM (G'^show _=4 from ζ) (!0),3));let C:m≠x:=λz=>by rw[z,hJ]at k;cases k
  let j:t≠i:=λz=>by rw[<-z,a'c,hJ]at d;cases d
  let ty:t≠y:=λz=>by rw[<-z,a'c,a'j,a'c,hJ]at r;cases r
  let M:t≠m:=λz=>by rw[<-z,a'c,a' ty,a'c,a'j,a'c,hJ]at k;cases k
  let F:i≠y:=λz=>by rw[<-z,a'u,hJ]at r;cases r
  let J:i≠m:=λz=>by rw[<-z,a'u,a'F,a'u,hJ]at k;cases k
  let I:y≠m:=λz=>by rw[<-z,a'B,hJ]at k;cases k
  let N:∀b,b≠x->b≠m->b≠y->b≠i->b≠t->Hb=mE (mE (mE (mE (mE (mE (mE (mE (mEHx^.TM l dx^am o3QAc []) t^.P' [v]) x^.TM l dx^am OYQFR^am o3QAc []) i^.P' [.uM^lY []]) x^.TM l dx QCZ) yQB3) x^.TM l dx QSh) mQB3) x (.TM l dx^am uSQMVQSh)  b:=λbh1h2YX W=>by
   rw[a'h1,a'h2,a'h1,a'Y,a'h1,a'X,a'h1,a'W,a'h1]
  let g:∀QBGQIz,Hb<*o->∀QJB,Ha=ε->b≠a:=λ{bo}e{a}n=>oZen;let S:Ht=ε:=by rw[a'c]at D;show D
  let R:Hi=ε:=by rw[a'u,a'^Ne.UH j,a'u]at d;show d
  let O:Hy=ε:=by rw[a'B,a'^Ne.UH F,a'B,a'^Ne.UH ty,a'B]at r;show r
  let iM:Hm=ε:=by rw[a'C,a'^Ne.UH I,a'C,a'^Ne.UH J,a'C,a'^Ne.UH M,a'C]at k;show k
  show qtiym_j ty M F J I S R OiM (λbo Ue=>?_) ⟨(dx,hJ)⟩ ?_ ?_ ?_ ?_
  .rw [<-e];show(Nb U (geiM) (ge O) (ge R)^ge S).UH
  .rw [a'c,a'M,a'c,a' ty,a'c,a'j,a'c,hJ]
  .rw [a'u,a'J,a'u,a'F,a'u,hJ,<-KE]
  .rw [a'B,a'I,a'B,hJ]
  .rw [a'C,hJ]
def c_s!:n9 [o3,"start",fY,iN,"most",u',oM,y6,"goals","row","letter","goal"] [o3,"start",fY,iN,"most"] QKb:=nU
def SY{P:nA}QGa QC1 QEN{υ:n3}{XfIfkIiM:θ}(F:NRK "walked" "walked" AYf fd)(N:WH! K mg XfI fdI)(an:mg "len"=ε)(ct:mg "zip"=ε)(Fg!:mTPwK mg υms 4 kI fdg! [gx]^ORYLg UdS)(Fm!:mTPwK mg υms 4 iMj2 [mx!]^PSY mk UdS)(i8:υ.Ξ kI<*og!)(dd:∃bV,og.mY=.YN bV)(k8:υ.Ξ iM<*l6)(kR:∃bV,l6.mY=.YN bV)(i6:p6K fdg! [gx] [])(bm:p6Kj2 [mx!] [])(qP:∀HH':m1,mIHH'->dSH->dSH'):mTPwK mg υms 5 f fd [o3,"start",fY,iN,"most"]^OSX YLg mk UdSkIiM:=by
 let(uF,z5,es,vU):=og!;let(bV,ζ):=dd;let(eP,eo!,l4,lM):=l6;let(lJ,ζ):=kR;show F.ok c_s! QAGQBL
 .obtain ⟨s,eU,I,ζ,_⟩:=h;rfl
 .obtain ⟨s0,eU,I,ζ,Gs,hsv!,hsU!,d0,JE,hR0!,q⟩:=h;let kF:=cT.Hu (j:=2) (!0);show(_,(lW (m3 5 c_s.eR^FO N.mkW (Ze! N) kFζ N.tv (N.ini.binds (ps:=["self",o3,"start"])^λ______useG=>by let(_,_,_,ζ):=cD! eG;rfl) .nS iFQDK)^EU (m3 6 c_s.eR^Wt! cT.Wb QAFmV)^lW (W8 U_.X5 (q7MEQFlQCLQBZ)^EU (mS ((U6 (q7 h_! QBjGEQBZ)^XP^q7 Ev QCLQBjQBZ).pt) (hF^mv!)^m8)^lW (m3 7 c_s.eR QFl)^lW (m3 8 c_s.eR^JU Fg! cTi8i6QAOQU_)^lW (m3 9 c_s.eR QGR)^lW (t6 U_.X5 ζ (VWζ ct^m4QADQOK) (FMζ^wM (z0 10 c_s.eR)^wM (z0 11 c_s.eR) HV)^EU (mS (q7 (Yy! cT.Wb) QKcQCoQAN) (lW (GGQCL^XB! QCoQKc^sy! cT.Wb)^lW (rW^xNQIrQKc)^hF^rW^xNQSi^mZuI (qMQSiQF9) QPA)^m8)^hF^rW^xN (cN 9)^mM (xt! cT.Wb) QCoQKcQAQ)^lW (rW^xN (vA (f:=t4) QBtζ)^cN 9)^hF^rW^xN (vA (f:=uS) QBtζ)^JU Fm! cTk8 bm QAbQU_)^hF^k9QBt),3);let vV:∀QBGQIz,Hb<*o->∀{c:θ},Hc=ε->b≠c:=λ{bo}e{c}n=>oZen;show λD dx ce c2 er!=>(D,dx,L,eU,0,hJ,λtbGybTH1a1a2a3a4a5a6R3uT fy! lGC9hWfPbRd7cP=>(0,3));let fr:∀QBG,mE (mEH dx^.own D) D (.TM X dx []) b=ε->Hb=ε:=λ{b}e=>by
   by_cases h1:b=D
   .rw [h1];show ce
   .rw [a'h1]at e;by_cases h2:b=dx
    .rw [h2];show c2
    .rw [a'h2]at e;show e
  let s1:mIHH1:=λboe=>C9bo (vVe ce) (by rw[a'^vVe ce,a'^vVec2];show e);let ab:pJYH1s0eU:=hsv.Ki λbxse=>s1__e;let eI:∀QM5(bF:m1),H1d=ε->y8PwbFd Y [s0]->(∀bo,H1b<*o->bFb<*o)->WIPwHbFX YLDtbGybTd [s0] [eU] [[]] [] [] []:=λdbF hd kEs2=>by
   let ne:∀QBGQIz,H1b<*o->d≠b:=λ{bo}ez=>by rw[<-z,hd]at e;cases e
   let(J,dZ):=hW.ex;show(s1.ξ s2,(J,s2__dZ),s2__fP,(rfl,λikvh1h2=>by
    match i,h1,h2 with
    |0,h1,h2=>cases h1;cases h2;show ab.Ki λbxse=>s2__e
    | i+1,h1,_=>simp at h1),s2__bR,s2__d7,(0,λiarh1=>by simp at h1),s2__cP,kE,fr R3,fr uT,fr fy!,fr lG,HAs1 hd,a1,a2,a3,a4,a5,a6,ne fP,ne bR,ne d7,ne cP,ne dZ,λaeM=>by simp at eM)
  show⟨λbsH'=>∃d,bs=[δQAc,δeU,δQPB,δQPC,δ^NFI,δQA0,δQDC,ε,ε,ε,ε,ε]/\WIPwHH'X YLDtbGybTd [s0] [eU] [[]] [] [] [],?_,?_⟩
  .refine (Y,λd hd=>(hJ,3));let up:∀{eAjJ:j7}QV1(o:j7),H1b<*o->mE (mEH1deA) djJb<*o:=λ{eAjJ}boe=>by
    rw[MW];show p5e hd
   by_cases bP:Y=.i
   .rw [bP]at ab eI⊢;unfold pJ at ab;rw[mGζ]at ab;let(n,ζ,ζ):=ab;show .UR (0,2,d,0,eId_ hd ?_ up);unfold y8;rw[mGζ];show(hJ,λtfP=>(n,o6fP))
   .let hsv2!:=ab;unfold pJ at hsv2!;rw[mFbP]at hsv2!;let(b,ζ,cY):=hsv2!;let hT:∀{eA:j7},(r6Pw Y).kin (mEH1deA) (zss0) b:=λ{eA}=>(cY.Ki λbxse=>p5e hd).kin;show .P2 (bP,b,zss0,0,hT,d,0,eId_ hd ?_ up);unfold y8;rw[mFbP];show(_,hJ,λxc9=>?_,0,λikxh1h2=>?_)
    .rw [o6c9,MW];show hT
    .match i,h1,h2 with
     |0,h1,h2=>cases h1;cases h2;show(0,0)
     |i+1,h1,_=>simp at h1
  rintro jW bF⟨d,ζ,d9⟩;let c5:∀QFs{ks:n0}{T:γ V}{ws:n0}{C:γθ}{R:n0}QKn,WIPwHH'X YLDtbGybTdksTwsC RB->CTgL s0 mk UkswsRB 0->(R.β=ks.β\/∃n,I=δn/\n<ks.β)->Q QA0H':=λOhP he=>
   q D t bG y bT _ _ _ _ _ _ _ O.jN O.obj O.fP O.H9 O.hw O.d7 O.wr O.hm hP.g7 hP.ways hP.dW hP.mks hP.hG (n5QII hP.left) he
  show⟨λnbsH'=>∃ksTwsC RBgMkJy7fMdN,n=U.β-γ.β R/\bs=[δQAc,δeU,δQPB,δQPC,δ^NFI,δQA0,δQDC,gM,kJ,y7,fM,dN]/\WIPwHH'X YLDtbGybTdksTwsC RB/\CTgL s0 mk UkswsRB 0,(_,[s0],[eU],[[]],[],[],[],ε,ε,ε,ε,ε,5,d9,CT.ZR hsU!),?_⟩;rintro n bs bJ⟨ks,T,ws,C,R,B,gM,kJ,y7,fM,dN,ζ,ζ,O,hP⟩;let(J,dZ):=O.obj.ex;let ch:(C.Tx V.ο).β=R.β:=by rw[j',O.wr.1]
  let bM:T.β=ks.β:=O.H9.1;let l0:ks.β≤U.β:=n5QII hP.left;show(D,X,J,1,dZ,N.dM,N.na4,0,y,2,.UR^pG.of O.d7,D,X,J,1,dZ,N.dM,N.na2,0,t,2,.UR^pG.of O.fP,4,p9 (λeF=>?_)^λeF=>?_);case _=>
   rw[ch,bM]at eF;let eF:R.β<ks.β:=ofNat_lt.mp eF;show⟨λaNcM=>∃ksTwsCgNBgMkJy7fMdN,gN.β=R.β+1/\aN=[δQAc,δeU,δQPB,δQPC,δ^NFI,δQA0,δQDC,gM,kJ,y7,fM,dN]/\WIPwHcMX YLDtbGybTdksTwsCgNB/\CTgL s0 mk UkswsgNB 0,?_,?_⟩
   .rintro aN cM⟨m,l,ws',cd,gN,vW,ae!,u8,ay!,u10!,u11!,hR'!,jO,hI'!,hP'⟩;show(U.β-gN.β,by rw[hR'!];lia,m,l,ws',cd,gN,vW,ae!,u8,ay!,u10!,u11!,0,jO,hI'!,hP')
   obtain⟨k0,co⟩:∃k0,ks[R.β]?<*k0:=(ks[R.β],mOeF);obtain⟨v0,cI⟩:∃v0,T[R.β]?<*v0:=(T[R.β]'(by rw[bM];show eF),mO_);obtain⟨a0,d6⟩:∃a0,ws[R.β]?<*a0:=(ws[R.β]'(by rw[<-hP.g7.eN];show eF),mO_);let a7:k0∈U:=hP.hG k0^v7 co;show(λaNcM=>aN=[δQAc,δeU,δQPB,δQPC,δ^NFI,δQA0,δQDC,gM,kJ,y7,fM,dN]/\cM=bJ,3,3)
   .cases I with
    |ε=>show(0,zEζ (0,0))
    |δ M=>
     show(0,QE (D,X,J,1,dZ,N.dM,N.na2,0,t,2,.UR^pG.of O.fP,4,3));rw[bM];show p9 (λjV=>c5OhP^.P2 (M,0,ofNat_lt.mp jV)) QQs
   rintro aN cM⟨rfl,ζ⟩;show(D,X,J,1,dZ,N.dM,N.na4,0,y,2,.UR^pG.of O.d7,3);rw[ch];let d4:qZT ((R.β:χ):ω)<*v0:=r8cI;show(0,D,X,J,1,dZ,N.dM,N.na2,0,q8 O.fP d4 (k0,v0,0,O.H9.2 ___ co cI,a7,qP__ O.jN hR0!,λgsxsd8s5 cX BZY4=>?_));let as:=O.I9 s5;let a9:d8gs<*.iT xs\/d8gs<*.P' xs:=cX.imp id λz=>z.2;let bi:∀QBGQIz,cMb<*o->(∀zs,o≠.iT zs)->gs≠b:=λ{bo}edIz=>by
    rcases cX with h1|⟨h1,_⟩
    .rw [z,s5__e]at h1;cases h1;show dI_ζ
    .rw [z,e]at h1;cases h1
   obtain⟨kU,jT⟩:∃φ,cMd<*.ext φ:=by
    let W:=O.iI;unfold y8 at W;by_cases c:Y=.i
    .rw [mGc]at W;show(_,W.1)
    .rw [mFc]at W;let(bZ,e,_):=W;show(_,e)
   let g1:gs≠t:=bi O.fP (by intro zsz;cases z);let g2:gs≠bG:=bi O.hw (by intro zsz;cases z);let g3:gs≠y:=bi O.d7 (by intro zsz;cases z);let AE:gs≠bT:=bi O.hm (by intro zsz;cases z);let R4:gs≠d:=bi jT (by intro zsz;cases z);show(pT_,λrw S=>?_);let r1:rw≠t:=Ne.UH^oZ as.fP S;let r2:rw≠bG:=Ne.UH^oZ as.hw S;let RE:rw≠y:=Ne.UH^oZ as.d7 S;let hk!:rw≠bT:=Ne.UH^oZ as.hm S;let NU:rw≠d:=Ne.UH^oZ (s5__jT) S;let tx!:rw∉C:=λhm=>by
    let(i,g6):=tl.mp hm;let kT:i<R.β:=by rw[<-as.wr.1];show(m9g6).1
    rw[as.wr.2 i rw _ g6 (mOkT)]at S;cases S
   let rg:gs≠rw:=λz=>by
    rw[<-z]at S;rcases a9 with h1|h1<;>rw[S]at h1<;>cases h1
   let Eo!:H rw=ε:=HA as.jN S;let gJ:=as.I9^mI.mE (o:=.P' []) S;let cV:mEd8 rw QB3 gs<*.iT xs\/mEd8 rw QB3 gs<*.P' xs:=by rw[a' rg];show a9
   show ku! cV λd2LYj8=>?_;let aU:((lYL).Ym.Zh.Tx λc=>V.uM ⟨#[c]⟩).β=xs.β:=by rw[j',tI,BZ]
   show T0 (xs:=(lYL).Ym.Zh.Tx λc=>V.uM ⟨#[c]⟩) (ys:=xs) aU (λqi3e7=>IK! λml ws' ri5i4=>Fw! (i3=[δQAc,δeU,δQPB,δQPC,δ^NFI,δQA0,δQDC,δ^.tV ((R.β:χ):ω),δ^.ο gs,δ^.ο rw,i5,i4]) (WIPwHe7X YLDtbGybTdml ws' C RB) (CTgL s0 mk Um ws' RBq) (L5gm R.β rq) (e7 rw<*.P'^mJr) (e7gs=d8gs) (∀QIL(x:V),xs[j]?<*x->pJYe7 (gk0j) x) (m[R.β]?<*k0) (ws'[R.β]?<*a0)) ?_ ?_ ?_ ?_
   .exact (ks,T,ws,[],fM,dN,0,gJ,hP,L5.nS,hJ,a' rg,λjxc9=>(Y4jxc9).Ki λbzse=>p5e S,co,d6)
   .rintro q i3 e7⟨m,l,ws',r,i5,i4,ζ,hI'!,hP',aM,hrw'!,hgk,bS,hk',fJ⟩;show(0,LYe7^by rw[hgk,a' rg])
   .rintro q iE gx' p i3 e7 e8 gE b5⟨m,l,ws',r,i5,i4,ζ,hI'!,hP',aM,hrw'!,hgk,bS,hk',fJ⟩;rw[tI,na]at e8;cases hcq!:L[q]? with
    |ε=>rw[hcq!]at e8;cases e8
    |δ c=>
    rw[hcq!]at e8;cases e8;let bU:q<L.β:=(m9 hcq!).1;let d3:L.TC q 0=c:=by rw[pu,hcq!];rfl
    let kG:gk0q∈U:=d0k0a7qbU;let u:=hI'.I9^mI.mE (o:=.iT [.uM ⟨#[c]⟩,gx']) b5;let C':pJYe7QOp gx':=bSq gx' gE;let eW:pJY (mEe7pQFm) QOp gx':=C'.Ki λbzse=>p5eb5;let f7:mEe7pQFm rw<*.P'^mJr:=p5 hrw'! b5;let a8:mEe7pQFmgs=d8gs:=by
     have:gs≠p:=λz=>by
      rw[<-z,hgk]at b5;rcases a9 with h1|h1<;>rw[b5]at h1<;>cases h1
     rw[a' this];show hgk
    let aV:∀(j:χ)(x:V),xs[j]?<*x->pJY (mEe7p^.iT [.uM ⟨#[c]⟩,gx']) (gk0j) x:=λjxc9=>(bSjxc9).Ki λbzse=>p5eb5;let cO:mEe7p (.iT [.uM ⟨#[c]⟩,gx']) p<*.iT [.uM ⟨#[c]⟩,gx']:=hJ;generalize mE e7 p (.iT [.uM ⟨#[c]⟩,gx'])=H7 at u eW f7 a8 aV cO;let cl:m.β≤U.β:=n5 (χ.le_add_left __) hP'.left;let al:m.β≤100000:=n5 cl JE;let b0:l.β=m.β:=u.H9.1;show(p,2,n'.of cO,0,1,4,3);show⟨λcr gY=>∃ap aTaS,cr=[δ^.uM^lYL,δeU,δ^.ο kI,δ^.ο iM,δ^NFI,δ^.ο D,δ^.ο d,δ^.tV ((R.β:χ):ω),δ^.ο gs,δ^.ο rw,δ^.uM ⟨#[c]⟩,δ gx']/\WIPwHgYX YLDtbGybTd ap aTaSC RB/\CTgL s0 mk U ap aSRB (q+1)/\L5g ap R.β rq/\
     gY rw=δ^.P'^mJr/\gYgs=d8gs/\(∀(j:χ)(x:V),xs[j]?<*x->pJYgY (gk0j) x)/\ap[R.β]?=δk0/\aS[R.β]?=δa0/\gk0q∈ap,?_,?_⟩
    .refine (d,2,u.iI.get eW,3);by_cases hm:gk0q∈m
     .rw [(PK! hm).1];show(m,l,ws',0,u,hP'.old Gs.eR hk' fJbU hm,aM,f7,a8,aV,hk',fJ,hm)
     .rw [show DPmQOp=ε from mF hm];let(eA,b3,LV):=u.iI.put eW hm^EW al;let(J,fR):=u.obj.ex;let hU:mEH7deAD=_:=(a'^Ne.UH u.e5).ξ fR;let G8:mEH7deAt=_:=(a'^Ne.UH u.e1).ξ u.fP;let kS:mEH7deAbG=_:=(a'^Ne.UH u.e2).ξ u.hw;let c8:D≠t:=qSfR u.fP (!5);let c6:mEQQttQLOD=_:=(a'c8).ξ hU;let jE:mEQQttQLObG=_:=(a'^Ne.UH u.d1).ξ kS;let c4:qZ (oI ws') ((R.β:χ):ω)<*.uM^lYa0:=r8 (by rw[oI,na,fJ];rfl);let eq!:a0.β≤100000:=n5 (hP'.wl a0^v7fJ) al;rw[<-b0]at b3;show(D,X,J,1,fR,N.dM,N.na2,0,t,2,.UR^pG.of u.fP,d,2,b3,3);show(D,X,J,1,hU,N.dM,N.na2,0,.UR (0,_,pG.of G8),t,4,G8,EW (by rw[b0];show al),3);show(D,X,J,1,c6,N.dM,N.na3,0,.UR (0,_,pG.of jE),D,X,J,1,c6,N.dM,N.na3,0,q8jEc4 (4,3,bG,4,jE,EW (by rw[oI,j',<-hP'.g7.eN];show al),3))
      .change (lYa0).β+1≤Φ;rw[nJ];show m6 (!6)
      let c3:lYa0++(⟨#[c]⟩:bE)=lY (a0++[c]):=by rw[<-yE];rfl
      let b6:=u.new (a:=a0++[c]) eWLV;let A9:=hP'.new Gs.eR hk' fJbU hm kG;rw[d3]at A9;let kt:∀bzs,H7b<*.iT zs->mE (mEQQttQLO) bG (.P' (oI ws'++[.uM^lY (a0++[c])])) b<*.iT zs:=λbzse=>by
       obtain⟨φ,cA⟩:∃φ,H7d<*.ext φ:=by
        let W:=u.iI;unfold y8 at W;by_cases c:Y=.i
        .rw [mGc]at W;show(_,W.1)
        .rw [mFc]at W;let(bZ,e,_):=W;show(_,e)
       rw[a'^qSe u.hw (!5),a'^qSe u.fP (!5),a'^qSecA (!5)];show e
      show(m++[gk0q],l++[gx'],ws'++[a0++[c]],0,3,A9,aM.grow (m9 hk').1,3,3,λjxc9=>?_,YM hk',YMfJ,!1)
      .rw [<-c3]at b6;show b6
      .rw [a'r2,a'r1,a'NU];show f7
      .rw [a'g2,a'g1,a'R4];show a8
      .refine (aVjxc9).Ki λbzse=>?_;have:=kt bzse;rw[<-c3]at this;show this
    rintro cr gY⟨ap,aT,aS,ζ,Z,l',b2,aA,dT,b1,IZ,d5,G9⟩;let b4:=Z.iI.get^b1q gx' gE;rw[(PK! G9).1]at b4;let ds:r.β≤100:=by rw[b2.1];show n5 (XsbU)^n5 Gs.g6 (!0)
    show(.UR (0,_,pG.of aA),d,2,b4,rw,4,aA,EW (by rw[o8];show n5ds (!0)),3);show(ap,aT,aS,r++[ap.UL QOp],1,Z.beside aA Eo! r1r2RE hk! NU tx!,l',b2.snoc IZG9,3,3,λjxc9=>?_,IZ,d5)
    .rw [hJ,KY]
    .rw [a' rg];show dT
    .exact (b1jxc9).Ki λbzse=>by rw[a'^qSeaA (!5)];show e
   .rintro i3 e7⟨m,l,ws',r,i5,i4,ζ,hI'!,hP',aM,hrw'!,hgk,bS,hk',fJ⟩;rw[aU,BZ]at hP' aM;let(J,lR):=hI'.obj.ex;let cl:m.β≤100000:=n5 (n5QII hP'.left) JE;let bd:R.β≤100000:=n5 hP'.le cl;let Z:=hI'.row hrw'! r1r2RE hk! NU;let(c7,hU):=Z.obj.ex;obtain⟨v1,Bs⟩:∃v1,l[R.β]?<*v1:=(l[R.β]'(by rw[hI'.H9.1];show(m9 hk').1),mO_);show(D,X,J,1,lR,N.dM,N.na4,0,.UR (0,_,pG.of hI'.d7),y,4,hI'.d7,EW (by rw[j',hI'.wr.1];show bd),3);show(D,X,c7,1,hU,N.dM,N.na5,0,.UR (0,_,pG.of Z.hm),0,D,X,c7,1,hU,N.dM,N.na2,0,q8 Z.fP (r8Bs) (k0,v1,0,Z.H9.2 ___ hk' Bs,a7,qP__ Z.jN hR0!,λVl! y7=>(bT,4,(Z.I9 y7).hm,EW (by rw[j',hP'.dW];show bd),3)));show(m,l,ws',C++[rw],R++[r],B++[mk k0],7,7,_,by rw[o9];rfl,0,(Z.I9 y7).mark,hP'.next hk' aM)
  case _=>
   rw[ch,bM]at eF;show c5OhP (.UR^ZV hP.le^xG λz=>eF^ofNat_lt.Ui z)
inductive Ss(cTM:θ)QAJ QAH QAR QA5:Prop
 |mk (e wl fS:θ) (part!:V) QS5 (_:vs=[.ο e,.ο wl,.ο fS,part!]) (_:He<*rMe cTM ε) (_:H wl<*.P' xs) (_:HfS<*.P' ys) (_:∀QBe(dll2:θ),(∀bo,b≠e->Hb<*o->H'b<*o)->H'e<*rMe cTM QTp->d≠e->l≠e->l2≠e->H'd<*CPd [(j9,.ο l,),("tails",.ο l2,),("part",part!,)]->H'l<*.P' xs->H'l2<*.P' ys->Q .vS H')
instance sH!:cZ:=o5 8
instance G5:cZ:=x7 sH! 0
structure G6 QAw QAy(cTM cRE B1:θ)(fdX:uP):Prop where
 M':mg "TooMany"<*.ο cTM
 Zb!:mg "RoomError"<*.ο cRE
 own:B3K cTM B1
 xc!:M1K cTM
 na1:u6K cTM j9
 na2!:u6K cTM "tails"
 na3!:u6K cTM "part"
 bi:gg! K cRE
 fn:isFn K^.ο B1=π
 exm!:exmOne KQJbQJb<*π
 lG:DEK cTM
 exr!:exmOne KQJb^.ο cRE<*π
 ini!:nEK "__init__" "TooMany.__init__" G5B1 fdX
def jf!:n9 ["self",j9,"tails","part"] ["self",j9,"tails","part"]^hYG5:=nU
def gv!:∀vsHQ E,Ss cTM vsHQ E->vs.β=(["self",j9,"tails","part"]:γbE).β:=λvsHQ Eh=>by
 let(e,a,b,part!,xs,ys,ζ,_):=h;rfl
def nX!{P:nA}QGa(j:G6K mg cTM cRE L fdX)(g:mg "list"=ε)(bY:η)(A:o7)QER QCD(H0:m1)QE4(R:o7)(c:b9)(h:Ss cTM vsHQ S):∃t,tR {aWmsPwK mg υ ["self",j9,"tails","part"] "TooMany.__init__" (hYG5) LbYAb7sH0E with A:=R,TN:=c,xe:=λ__=>oA} (nRG5) t/\t {pO:=λ_H'=>Q .vS H',CF:=Q} (ZR ["self",j9,"tails","part"] vs) H:=by
  let(e,N,I,part!,xs,ys,ζ,x,hw,C,q):=h;show(_,(lW (rW^wf! j.bi j.Zb^m4QADj5)^lW (en! (f:=j9) ζQAD (D9 cK! (!4) g boot_list! QEe) ζ)^lW (en! (f:="tails") ζQAD (D9 cK! (!4) g boot_list! QFG) ζ)^hF^en! (f:="part") ζQADQAbζ),3);show(e,cTM,L,2,x,j.own,3);show(N,xs,0,.UR^pG.of hw,λlp=>(e,cTM,0,j.xc,j.na1,.UR (p5xp,λdki=>?_)));let J:l≠e:=λz=>by rw[z,x]at p;cases p
  let r:Hd=ε:=by
   by_cases z:d=l
   .rw [z];show p
   .rw [a'z]at k;show k
  let k1:∀bo,b≠e->Hb<*o->_F.mE QAxdQDdb<*o:=λboyz=>by
   rw[a'^oZzr,a'y,a'^oZzp];show z
  let u:_F.mE QAxdQDde<*rMe cTM QTp:=by rw[a'QHm,hJ]
  let d1:_F.mE QAxdQDdd<*CPd [(j9,.ο l,)]:=hJ;let M:_F.mE QAxdQDdl<*.P' xs:=by rw[a' (λz=>by rw[<-z,hJ]at k;cases k),a'J,hJ]
  let F:I≠e:=λz=>by rw[z,x]at C;cases C
  generalize _F.mE QAx d QDd=O at k1 u d1 M;show(I,ys,0,.UR^pG.of^k1__ FC,λv a=>(e,cTM,0,j.xc,j.na2,.P2 (d,_,p5ua,p5d1a,by change 1<1000;decide,3)));show(e,cTM,0,j.xc,j.na3,.P2 (d,_,by rw[a'QHm];show p5ua,hJ,by change 2<1000;decide,3));let n:l≠d:=λz=>by rw[<-z]at k;rw[hJ]at k;cases k
  let D:Ol<*.P' xs:=M;let m:v≠d:=λz=>by rw[z,d1]at a;cases a
  let B:v≠e:=λz=>by rw[z,u]at a;cases a
  show q_dlv (λboyz=>?_) ?_ i JBhJ ?_ ?_
  .let h1:b≠d:=oZzr;let h2:b≠v:=oZ (k1boyz) a;rw[a'h1,a'h1,a'h2];show k1boyz
  .rw [a'QHm,a'QHm];show p5ua
  .rw [a'n,a'n];show p5Da
  .rw [a'm,a'm,hJ]
def dv! QPq(a:mg "list"=ε):mTPwK mg υms 1 c fdX ["self",j9,"tails","part"]^Ss cTM:=b.ini.ok jf! gv! λbYAb7sHvsQ Edh=>nX! babYAb7sH E__h
def pz! QPq(a:mg "list"=ε):K_! PwK mg υc fdX ["self",j9,"tails","part"]^Ss cTM:=b.ini.okH jf! gv! λbYAb7sHvsQ E vh=>nX! babYAb7sH E__h
instance D0:cZ:=(nRCZ).TC 0 QBU
instance D6:cZ:=(nRCZ).TC 1 QBU
instance q_g:bE:="walked_machine.<locals>.goals_of"
instance q_m:bE:="walked_machine.<locals>.is_marked"
abbrev IV(s:cZ):nV:=match s with
 |.FunctionDef _ _ _ _ _ _ _ _ _ p=>p
 |_=>((0),(0),(0),(0))
abbrev hN:γQDo:=[(IVD0,q_g,),(IVD6,q_m,)]
def Ij!:xV [y6,j4] [y6] [j4] QSj:=QAn
def k_!:xV [y6,j4] [y6] [j4] QSk:=QAn
section
variable{P:nA}{w:o4}{K:qI}{mg:bE->ψη}{υ:n3}{fcm:θ}{cU:γQBH}{cR pm ctv:η}{L:lU}{W:n0}{B:γb9}
def TL!(y:υ.Ξ f<*fnMade fY q_g (p'D0) (nRD0) QSjcUcR pm c ctv)(r:υ.Vt QAX q_g)(C:rGυcUQSj [j4] [.ο m])(t:oOL WB):mTPwK mg υms 1 f (Δ.W.fnX fY q_g (p'D0) (nRD0) QSjcU .ε .ε cR pm εQAX ctv) [y6] (OR .i LQOB (B2W) λH=>C4HmL WB):=by
 show GP (fvs:=[.ο m]) yζr Ij! CQAG (λAb7sHvsQ E Th=>?_)
 .obtain ⟨k,v,ζ,_⟩:=h;rfl
 .obtain ⟨k,v,ζ,o,F,I,q⟩:=h;show(_,(hF^k9^L6QMgQAD),3);let(n,ζ,D):=ow! F;unfold pJ at o;rw[mGζ]at o;let(S,e,ζ):=o;injection e with e;subst e;let(R,mk,a,h1,h2,U,M,J):=I;obtain⟨g,d⟩:∃g,a[n]?<*g:=(a[n]'(by rw[M];show D),mO_);let(ws,u,O):=J__d;let l:=t.row ws^v7u;show(m7h1fV (m7h2 (wR V.ο d) ?_));show qgQOcHQHs (.UR O) (by rw[o8];show l.1) λjxb=>?_;unfold pJ;rw[mGζ];rw[mJ,na]at b;cases p:ws[j]? with
  |ε=>rw[p]at b;cases b
  |δ z=>
   rw[p]at b;cases b;show(z,3,0);show[(W.TC n []).TC j 0]=[z];let N:W.TC n []=ws:=by
    rw[pu,u];rfl
   rw[N,pu,p];rfl
def ht!(j:υ.Ξ f<*fnMade iN q_m (p'D6) (nRD6) QSkcUcR pm c ctv)(b:υ.Vt QAX q_m)(C:rGυcUQSk [j4] [.ο m])QUM:mTPwK mg υms 1 f (Δ.W.fnX iN q_m (p'D6) (nRD6) QSkcU .ε .ε cR pm εQAX ctv) [y6] (PS .i (mkW B) (B2W) λH=>C4HmL WB):=by
 show GP (fvs:=[.ο m]) jζb k_! CQAG (λAb7sHvsQ Eyh=>?_)
 .obtain ⟨k,v,ζ,_⟩:=h;rfl
 .obtain ⟨k,v,ζ,a,o,p,q⟩:=h;show(_,(hF^k9^mMQP QMgQADQAQ),3);let(n,ζ,l):=ow! o;unfold pJ at a;rw[mGζ]at a;let(x,e,ζ):=a;injection e with e;subst e;let(u,mk,g,h1,h2,t,D,z):=p;let r:B[n]?<*B.TC nν:=by
   rw[pu,mO^by rw[d.dW];show l];rfl
  show(m7h1iO (mk,_,4,t,wR V.dW r,qHQHs))
end
def c_g!:n9 [j4,fY,iN] [j4]^hYCZ:=nU
def T'{kVcR pm bY ct e:η}(lD:K.ς g<*(e,i,.Yv #[.ε] l,h)):p6K (q3 "walked" "walked" QMhQMiQKb (.ο g) kVcR pm an bY ct) [o3,"start",fY,iN,"most"] [.ε]:=λsuskj=>by
 let f:us.β=4:=by simpa using j
 let(a,b,c,d,ζ):=MB! f;show BindsTo.of_defaults ζ (k__ lD) ζζζ
def Cd!(nO:bv X UjHd)QDk QCx(o:X.N[0]?<*j4)(e:j[0]?<*δQMV)(n:X.fN.g8.TW.ς j4<*.aQ)(l:sc.TW.ς j4<*.VC)(k:((j4:bE),lE.VC,)∈sc.TW):rGdb sc [j4] [.ο m]:=by
 show(λyzch1h2=>nO.WZ yzcQSVQSW,A7,λych=>nO.aQ ycQUw,0,λiyvh1h2=>?_);match i,h1,h2 with
 |0,h1,h2=>
  cases h1;cases h2;let(a,f):=A7_kζ;let(c,u,r,q,p):=nO.val 0 j4QMVoen;let g:=hG__f;rw[r]at g;cases g;show(l,_,u,f,q,p)
 |i+1,h1,_=>simp at h1
set_option maxHeartbeats 8000000 in
def wE{P:nA}QGa{uFkVcR pm ct eISl OdXa4:η}(lk:K.ς f<*(uF,z5,.YN^q3 "walked_machine" "walked_machine" (p'CZ) (nRCZ) (hYCZ) .ε kVcR pm an QAX ct,b4))(bd:t9KQAX "walked_machine"=π)(lw:K.ς uT<*(eI,a3,.YN^q3 "walked" "walked" QMhQMiQKbQLmSl O an2 dX,osl2))(jJ:t9Kd "walked"=π)QDX(g5:mg "walked"<*.ο uT)(lD:K.ς CM<*(a4,A9,.Yv #[.ε] R9,b0))QC9(al:mg "len"=ε)(eF:mg "zip"=ε)(dJ:vRυc P0)QDj:mTPwK mg υms 6 f (q3 "walked_machine" "walked_machine" (p'CZ) (nRCZ) (hYCZ) .ε kVcR pm an QAX ct) [j4] QPD:=by
 show rh! lk bd c_g! QAGQAz
 .obtain ⟨m,L,W,B,ζ,_⟩:=h;rfl
 .obtain ⟨m,L,W,B,ζ,hM,g,hT,q⟩:=h;show(_,(lW (FU (i:=1) (bA:=q_g) (c:=c) (P0:=P0) (hN:=hN) c_g.eR ζQBxζdJgF (!3) (!3))^lW (FU (i:=2) (bA:=q_m) (c:=c) (P0:=P0) (hN:=hN) c_g.eR ζQBxζdJgF (!3) (!3))^hF^k9^JW (dvs:=[.vS]) ζg5 kw (T' (kV:=S) (cR:=l) (pm:=O) (an:=an2) (bY:=d) (ct:=X) lD) QD0 (rNQBB^v5mVQAFQAO) QH7),3);show(hT,λZkc1H1fJaMf7 cd s1aSdNaA=>(aS,λYvDC ap fMjEb6s2hUdSqP=>?_));let as:x8P0HC:=J1s1s2;let aT:C4CmL WB:=hM.ofT (MJ.ofX as hT);let(b1,i3,_):=id aS;let(a2,bm,a8,T):=id hU;let nP:∀QBGQCk,H1b<*.ext φ->b≠P0:=λ{bφ}ez=>by rw[z,i3]at e;cases e
  let I:Ck<*z'kfY q_g (p'D0) (nRD0) QSjZc1:=s2k_ (nPaA) aA;let J:Cc1<*ol c1 q_g:=s2c1_ (nPdN) dN;let F:Cv<*z'viN q_m (p'D6) (nRD6) QSkYD:=qP;let bs:=aT;let(fU,mk,bM,h1,h2,h3,h4,AF):=aT;let aN:∀u∈[k,v,c1,D],∃φ,Cu<*.ext φ:=λuhO=>by
   simp only[u3,i7,w7]at hO;rcases hO with ζ|rfl|rfl|rfl
   .exact (_,I)
   .exact (_,F)
   .exact (_,J)
   .exact (_,dS)
  show(m7h1bO ([k,v,c1,D],aN,λpnO=>?_));let(bS,b3,bV,aV):=nO.ext k_ (!1) I;let(bP,b2,bU,aU):=nO.ext v_ (!1) F;let i5:p.Vt QLn q_g:=nO.ext c1_ (!1) J;let i4:p.Vt QA0 q_m:=nO.ext D_ (!1) dS;let C1:=Cd! (sc:=hYD0) (m:=m) nOfJaMζζζζ (!3);let C2:=Cd! (sc:=hYD6) (m:=m) nO ap fMζζζζ (!3);let I0:NRK "walked" "walked" AYuT_:=((eI,a3,.ο CM,S,l,O,an2,d,X,osl2,0,lw,jJ),kw);show((5),OScW .i LQOB (mkW B) (B2W) (λH=>C4HmL WB) kv,cT,SYI0WT al eF ((TL! aVi5C1g).Hu (!0)) ((ht! aUi4C2g).Hu (!0)) aV (_,0) aU (_,0) (.u7 λuseG=>by let(_,ζ):=DUeG;rfl) (.u7 λuseG=>by let(_,ζ):=DUeG;rfl) QIs,3);let j:∀QBGQIz,Cb<*o->QCr->b∉[k,v,c1,D]:=λ{bo}edIM=>by
   let(φ,e2):=aNb M;rw[e]at e2;show dIφ^ψ.δ.WZ e2
  let ce:=g.n60;show([0],.tV 0,ε,0,g.lt,3,cC.Ui g.n1,QF g,by rw[uX!];lia,bs.AP (λbxse=>by rw[tT^jeQAC];show e) (λbxse=>by rw[tT^jeQAC];show e),λdYtbGybTksa0wsN R Bm bJa1hWfPa7a6d7eWa9g7 ab dWa5hG le he bi=>?_)
  .unfold pJ;rw[mGζ];show((0),5)
  let hR:R.β=ks.β:=by
   rcases he with z|⟨n,z,_⟩
   .exact z
   .cases z
  let gT:∀QBGQIz,bJb<*o->retr [k,v,c1,D] CbJb<*o:=λ{bo}e=>by
   rw[DO λM=>?_]
   .exact e
   .rw [bi b M]at e;cases e
  let U:∀QBGQIz,Cb<*o->retr [k,v,c1,D] CbJb<*o:=λ{bo}e=>by
   by_cases M:b∈[k,v,c1,D]
   .rw [MRM];show e
   .exact gT (a1bo^by rw[tTM];show e)
  rw[hR]at g7;let(dx,dZ):=hW.ex;show qdYtbGybTksa0wsN R Bm _ (λbo Me=>U^as b o M e) (a2,U bm,a8,λxc9=>(Txc9).imp id λi6=>by let(c',e1,e2):=i6;show(c',e1,Ue2)) QKd (gTfP) (a7.Ki λbxse=>gTe) (gTa6) (gTd7) (eW.1,λiare1e2=>gT^eW.2 iare1e2) (gTa9) g7 ab hRdWa5hG (by rw[uX!]at le;show le)
instance VK!:cZ:=o5 18
instance MX!:cZ:=o5 19
instance Un!:cZ:=o5 17
instance ed!:cZ:=o5 20
instance eH!:cZ:=o5 21
instance fj!:cZ:=o5 22
instance hb!:cZ:=o5 46
instance fg!:cZ:=o5 45
instance CX!:cZ:=o5 15
instance Ei!:cZ:=o5 28
instance lj!:cZ:=o5 30
instance br!:cZ:=o5 43
instance ub!:cZ:=o5 44
instance fl!:cZ:=o5 31
instance jv!:cZ:=o5 38
instance eX!:cZ:=o5 41
instance Xr!:cZ:=o5 50
instance FK!:cZ:=o5 49
instance fi!:cZ:=o5 51
instance M_!:cZ:=o5 48
instance wh!:cZ:=o5 13
instance Na!:cZ:=o5 14
instance Nb!:cZ:=o5 77
instance Nc!:cZ:=o5 76
instance Nd!:cZ:=o5 75
instance Nf!:cZ:=o5 83
instance Ng!:cZ:=o5 84
instance iL!:cZ:=o5 82
instance vQ!:cZ:=o5 81
instance Nh!:cZ:=o5 80
instance Ni!:cZ:=o5 79
instance Bf!:cZ:=o5 74
instance Nj!:cZ:=o5 86
instance Nk!:cZ:=o5 87
instance Nl!:cZ:=o5 88
instance Nm!:cZ:=o5 90
instance Nn!:cZ:=o5 91
instance No!:cZ:=o5 92
instance Np!:cZ:=o5 93
instance WR:cZ:=o5 94
instance Nq!:cZ:=o5 95
instance Nr!:cZ:=o5 96
instance Nt!:cZ:=o5 97
instance Nu!:cZ:=o5 98
instance Nv!:cZ:=o5 99
instance Nw!:cZ:=o5 100
instance Nx!:cZ:=o5 101
instance Ny!:cZ:=o5 102
instance Nz!:cZ:=o5 107
instance bt!:cZ:=o5 106
instance NB!:cZ:=o5 108
instance NC!:cZ:=o5 109
instance ND!:cZ:=o5 89
instance NE:cZ:=o5 103
instance Ai!:cZ:=o5 105
instance Xl!:cZ:=o5 104
instance NH!:cZ:=o5 110
instance gp!:cZ:=o5 112
instance lH!:cZ:=o5 111
instance N7:cZ:=o5 113
instance Yl!:cZ:=x7 (o5 62) 0
instance Io!:cZ:=x7 (o5 64) 0
instance hD!:cZ:=x7 (o5 69) 0
instance sv!:cZ:=x7 (o5 60) 0
instance AH!:cZ:=x7 (o5 61) 0
instance uo!:cZ:=x7 (o5 63) 0
instance SQ!:cZ:=x7 (o5 62) 1
instance um!:cZ:=x7 (o5 70) 0
instance xH!:cZ:=x7 (o5 71) 0
instance dn!:cZ:=x7 (o5 72) 0
instance zt!:cZ:=x7 (o5 65) 0
instance a_!:cZ:=x7 (o5 66) 0
instance rz!:cZ:=x7 (o5 67) 0
instance dK!:cZ:=x7 (o5 68) 0
instance dX!:cZ:=x7 (o5 78) 0
abbrev NMS!:γbE:=["RoomError","NoLetters","NoWord","NoNumber","NoRoom","NoMachine","OtherLetters","TooMany","NoPattern","TooGreat","NoKind"]
instance ca(cs:γθ)QAu:θ:=cs.TC i 0
abbrev NL! QAw:γbE->γθ->Prop
 |s::l,c::cs=>nsIn KdGs=δ^δQAX/\NL! Klcs
 |[],_=>vN
 |_,_=>oA
def sR QC1{h:n3}QEN QJP QRE:∀{l:γbE}{cs:γθ},NL! Klcs->∀QEg{s:bE},l[i]?<*s->mg s<*.ο (ca csi)
 |_::_,_::_,n,0,_,e=>by cases e;show wJX G n.1
 |_::_,_::_,n,_+1,_,e=>sRX G n.2 e
 |[],_,_,_,_,e=>nomatch e
 |_::_,[],n,_,_,_=>n.Q5
abbrev VE QAw(cs:γθ)QFf:b9:=(γ.b_ 11).u7 λi=>i==0||Δ.W.Kq K QFY QDL==δ^decide (c=i)
def Uy!(h1:VEKcs 1=π)(d:VEKcs 7=π)(b:c=1\/c=7)(e:0<i)(a:i<11):Δ.W.Kq KQFYQDL<*decide (c=i):=by
 let h:VEKcsc=π:=by rcases b with ζ|rfl;show h1;show d
 let z:=T5.mp hi^Ug.Ui a;rw[IP,T8,T8]at z;show z.resolve_left (!6)
structure jL! QAw QAy(cs:γθ):Prop where
 ks:∀QEg{s:bE},NMS![i]?<*s->mg s<*.ο^ca csi
 ki!:∀{ci:χ},(c=1\/c=7)->0<i->i<11->Δ.W.Kq KQFYQDL<*decide (c=i)
 oB_!:yK KQCH
 eB_!:DEKQCH
 mB_!:exmOne KQQuQQv<*π
 vB_!:Δ.W.Kq KQQu^.TB "ValueError"<*π
 eH_!:DEKQAM
 mH_!:exmOne KQFZQQv<*π
 vH_!:Δ.W.Kq KQFZ^.TB "ValueError"<*π
 eN:mg "len"=ε
 b_!:mg "range"=ε
 sx!:mg "isinstance"=ε
 tV:mg "int"=ε
 bC!:mg "bool"=ε
 Xp!:mg "tuple"=ε
 oh!:mg "list"=ε
 uM:mg "str"=ε
 zip!:mg "zip"=ε
 enumerate!:mg "enumerate"=ε
 reversed!:mg "reversed"=ε
 max:mg "max"=ε
 u7:mg "all"=ε
 I9:mg "any"=ε
 X6:mg "set"=ε
 sorted!:mg "sorted"=ε
 enum!:mg "enumerate"=ε
 verr!:mg "ValueError"=ε
 most:∃t,mg "MOST_ROOMS"<*.tV 8 t
inductive sp_numbered! QAJ QAH QAR QA5:Prop
 |mk QCw (o:j7) QCR (ks:γgI) (eS:b9) QEu QOj (_:Ha<*o) (_:xs.β=ks.β) (_:ks.β≤2100) (_:(∀QAu(k:gI)(x:V),ks[i]?<*k->xs[i]?<*x->NPHkx/\W2k=eS)) (_:∀pH',mIHH'->H'p<*.P'^mJ^qRks->Q QAlH')
inductive sp_manyM! QAJ QAH QAR QA5:Prop
 |mk QCw QVk QEu (_:Ha<*.P' QKP) (_:0<ns.β) (_:∀M∈ns,QUp->Q (.tV ((M:ω)+1)) H)
inductive sp_roundsG! QAJ QAH QAR QA5:Prop
 |mk (fU mk:θ) QFh (ol6:j7) QA6 QDu QAt (most:χ) (_:vs=[.ο fU,.ο mk,.tV (most:ω)]) (_:(o=.P' QDE\/o=.iT QDE)) (_:HfU<*o) (_:(l6=.P' QGw\/l6=.iT QGw)) (_:H mk<*l6) QOQ (_:Oo! HfWW) QDf (_:∀QJR(gU:γθ)QGTQBe,mIHH'->H'p<*.P' QK0->gU.β=k+1->PUH'gUWB->(nYWB (k+1)=nYWBk\/∃M∈nYWBk,most<M+1)->k≤4410000->Q QAlH')
inductive sp_firstrooms! QAJ QAH QAR QA5:Prop
 |mk QCw QVk QEu (_:Ha<*.P' QKP) (_:0<ns.β) (_:ns.β≤2100) (_:(∀x∈ns,x<2100)) (_:(∀(Mj:χ),M∈ns->j≤M->j∈ns)) (_:∀QNVQJRQBe,GAnsm->mIHH'->Hp=ε->H'p<*.P' (mJ^(γ.b_ m).Tx λj=>ns.UL j)->Q QAlH')
inductive sp_pword5! QAJ QAH QAR QA5:Prop
 |mk (fUp:θ) (fWgU:γθ) QA6 QDu QAt (kr s:χ) (_:vs=[.uM QBX,.ο fU,.ο p,.tV (r:ω),.tV (s:ω)]) (_:HfU<*.P' QDE) (_:C0HfWW) QDf (_:Hp<*.P' QK0) QPy (_:PUHgUWB) (_:pr WBkr≠pr WBk s) (_:k≤4410000) (_:r<W.β) (_:s<W.β) (_:∀wH',mIHH'->QCJ->w.β≤2100->B.TC (n6L Wrw) ν≠B.TC (n6L W sw) ν->Q QBTH')
structure Km! QAw(cW:θ):Prop where
 dM:zVKcW
 na1:u6KcWo3
 na4!:u6KcWt4
 na5!:u6KcWuS
inductive Wd!(cW:θ)QAJ QAH QAR QA5:Prop
 |mk (dYtbGybT lo:θ) QFh QA6 (R:n0) QLu QGT (_:vs=[.ο dY,.ο lo]) QGG QLv QP2 QNl QKV (_:H lo<*.P'^mJQAU) (_:∀QNVQFOQBe,GAQAUm->mIHH'->Hf=ε->tFH'fLQDHQJW->Q QArH')
inductive Xf!(cW:θ)QAJ QAH QAR QA5:Prop
 |mk (dYtbGybTpiI:θ) (fWgU:γθ) QA6 (R:n0) QLu QGT (rs:lU) (_:vs=[.ο dY,.ο p,.ο iI]) QGG QLv QP2 QKV (_:Hp<*.P' QK0) QPy (_:PUHgUR Bm) (_:k≤4410000) (_:HiI<*.P'^mJrs) (_:rs.β=9) (_:(∀r∈rs,r<R.β)) (_:(∀(ijab:χ),i<j->rs[i]?<*a->rs[j]?<*b->pr R Bm ka≠pr R Bm kb)) (_:∀fSbWH',mIHH'->H'fS<*.P' QQl->bW.β=36->CWH'L (λa bu=>Bm.TC (n6L R (rs.TC a 0) u) ν≠Bm.TC (n6L R (rs.TC b 0) u) ν) bW 9 0->Q (.ο fS) H')
inductive AQ!(cW cH_:θ)QAJ QAH QAR QE4:Prop
 |mk (dYtbGybT:θ) QFh QA6 (R:n0) QLu (ws:n0) (_:vs=[.ο dY]) QGG QLv QP2 QNl (_:HbG<*.P'^oIws) (_:ws.β=R.β) QKV (_:(∀QAu(v:lU),ws[i]?<*v->QEz/\n6L R 0 v=i/\v.β≤2100)) (_:(∀dH',mIHH'->P9H'd .vS L^pEL R Bm->E (.ο cH_) QF8H')) (_:∀(m k:χ)QFOQBe,GAQAUm->nYR Bm (k+1)=nYR Bm k->m≤8->mIHH'->Hf=ε->tFH'fLQDHQJW->Q QArH')
inductive sp_needsame72! QAJ QAH QAR QA5:Prop
 |mk (mm2:θ) QA6 QDu QAt (cE:n0) (hV:γb9) QRi QCX QJD (_:Q .vS H)
inductive Kn!(P0:θ)QIO QAJ QAH QAR QA5:Prop
 |mk (m:θ) QA6 QDu QAt (_:vs=[.ο m]) QCX QDf (_:tZH P0hN) (_:∀QFO(dU:n0)QNwQBe,x8P0HH'->tZH'P0hN->tFH'fLdUvW->HGL WBdUvW->Q QArH')
inductive iX! QCi QAJ QAH QAR QA5:Prop
 |mk (L S:lU) (iJ:b9) (_:vs=[.uM QBX,.dW iJ,.uM^lYS]) QHz QEM (_:∀QFOQDuQAtQBe,KTtsHH'->xZH'fL WB->pEL WB=AMLiJS->Q QArH')
inductive By! QCi QAJ QAH QAR QA5:Prop
 |mk QA6 QEc (v:V) QU' QB2 QJf QHz QEM (_:∀QFOQDuQAtQBe,KTtsHH'->xZH'fL WB->pEL WB=ac Lt->Q QArH')
inductive ja!(cH_:θ)QCi QAJ QAH QAR QE4:Prop
 | mk (p:θ) (L:lU) (S:lU->Prop) (_:G4tsH) (_:(∀dH',KTtsHH'->P9H'd .vS L S->E (.ο cH_) (δ (d,π,)) H')) (_:(∀(f:θ)(dU:n0)(vW:γb9)(H':m1),KTtsHH'->xZH'fLdUvW->pELdUvW=S->Q (.ο f) H')) (_:((∃(k:K1)(m:θ)(W:n0)(B:γb9),vs=[.uM^Ix k,.ο p]/\Hp=δ^.P' [.ο m]/\xZHmL WB/\VD! Lk^pEL WB=S) \/
  ∃(k:K2)(mm2:θ)(WcE:n0)(BhV:γb9),vs=[.uM^DVk,.ο p]/\Hp=δ^.P' [.ο m,.ο m2]/\xZHmL WB/\xZHm2LcEhV/\OH! k (pEL WB)^pELcEhV=S))
inductive T1(cH_:θ)QCi QCv QAJ QAH QAR QE4:Prop
 |mk QA6 QEc (v:V) QU' QB2 QE' QHz QEM (_:(∀dpcNH',KTtsHH'->p∈t.I1->oUH'pcN->P9H'dcNLQC6->E (.ο cH_) (δQGX) H')) (_:∀QFOQDuQAtQBe,KTtsHH'->xZH'fL WB->pEL WB=ac Lt->DYLt->Q QArH')
inductive sp_isletters2! QAJ QAH QAR QA5:Prop
 |mk QA6 QLw (_:uYL) (_:(ww L->Q QLZH)) (_:(¬ ww L->Q QTBH))
inductive XC!(cNL:θ)QAJ QAH QAR QE4:Prop
 |mk QA6 QLw (_:uYL) (_:(ww L->Q .vS H)) (_:(¬ ww L->E (.ο cNL) εH))
inductive sp_iswanting! QAJ QAH QAR QA5:Prop
 |mk (ch:χ) (_:vs=[.uM QMa]) (_:Q (.dW^zW ch) H)
inductive sp_canstand! QAJ QAH QAR QA5:Prop
 |mk QA6 (ch:χ) (w:b9) (dd:χ) (_:vs=[.uM QBX,.uM QMa,.dW w,.tV (dd:ω)]) (_:Q (.dW^u0L ch w dd) H)
inductive sp_needpattern! QAJ QAH QAR QA5:Prop
 |mk QLA (_:vs=[.uM QBX,.uM QMR]) (_:M5L) (_:scan L 0 πw<*QSl) (_:∀H',mIHH'->Q .vS H')
inductive vb! QCU QAJ QAH QAR QA5:Prop
 |mk QEc (_:vs=[gG^.ZS t]) (_:(Tk.ZS t).ok) QC'
inductive Le! QCU QAJ QAH QAR QA5:Prop
 |mk QP0 (uw':V) (xy:cF) (_:vs=[.uM QOF,u,w']) (_:uVcHxu) (_:uVcHyw') (_:∀vH',mIHH'->uVcH'QIov->Qv H')
inductive fo! QCU(bR:θ)QAJ QAH QAR QA5:Prop
 |mk QNy (us:γ V) QSc QPo QCv (ps':γcF) (ws':γdP) (_:vs=[.ο d,.tV (n:ω)]) QJ8 (_:1≤n) (_:yOnpsws<*QGe) (_:ps.β≤900) QDe
inductive vy! QCU(bR:θ)QAJ QAH QAR QA5:Prop
 |mk QNy (us:γ V) QSc QPo (j8:Tk) (ps':γcF) (ws':γdP) (_:vs=[.ο d,gGj8]) QJ8 (_:j8.ok) (_:C5pswsj8<*QGe) (_:ps.β≤900) (_:ws.β≤900) QDe
inductive sp_tokens! QAJ QAH QAR QA5:Prop
 |mk QHy (_:vs=[.uM QMR]) (_:QKZ) (_:w.β≤400) (_:∀pH',Hp=ε->mIHH'->H'p<*.P'^(mUπw).Tx gG->Q QAlH')
inductive tb! QCU QAJ QAH QAR QA5:Prop
 |mk (gW:lU) QEc (_:vs=[.uM^lYgW]) (_:(∀ch∈gW,JF ch)) (_:gW.β≤300) (_:n7 (mUπ (40::(gW++[41]))) QTo<*([t],[],)) QC'
inductive qu! QCU QAJ QAH QAR QA5:Prop
 |mk (LgW:lU) QEc (l:χ) (_:vs=[.uM QBX,.uM^lYgW]) QHz (_:M5L) (_:GLtgW) (_:gW.β≤300) QC'
abbrev ah! QAw:γ (bE×cZ)->Prop
 |[]=>vN
 |p::l=>Ro! K p.1 p.2/\ah! Kl
abbrev q6 QDn QGT:ω:=ns.TC k 0
inductive hc! QAw QAJ QAH QAR QA5:Prop
 |mk QCw QDn QGT (_:vs=[.ο a,.tV (k:ω)]) QLx (_:Q (.tV^q6nsk) H)
inductive sp_letters! QAJ QAH QAR QA5:Prop
 |mk (c:ω) (_:vs=[.tV c]) (_:∀L,ww L->Q QAcH)
inductive qq! QAw QAJ QAH QAR QA5:Prop
 |mk QA6 QCw QDn (_:vs=[.uM QBX,.ο a]) QHz QLx (_:ns.β≤63) (_:∀QHyQBe,w.β=ns.β->QCJ->mIHH'->Q QBTH')
inductive T2 QCv QAJ QAH QAR QA5:Prop
 |mk QA6 QEc (v:V) QPj QB2 QE' (_:t.over L) (_:t.sz≤60) (_:∀(gW:lU)QBe,mIHH'->GLtgW->gW.β≤4*t.sz->Q (.uM^lYgW) H')
inductive sp_leaf72! QAJ QAH QAR QA5:Prop
 |mk QLA QEc (v:V) QE0 QB2 QJf QLX QEU (_:∀QJRQBe,mIHH'->H'p<*.P'^mJ^xMQCIw->Q QAlH')
inductive sp_behind72! QAJ QAH QAR QA5:Prop
 |mk QFg QHy (a b:θ) QSU (_:Ha<*.P' QLl) (_:Hb<*.P'^mJ^xMCw) QEU (_:∀QJRQBe,mIHH'->H'p<*.P'^mJ^xMQO8w->Q QAlH')
inductive sp_pieces72! QAJ QAH QAR QA5:Prop
 |mk QCQ QHy QCw QEu (_:Ha<*.P' QLl) QEU (_:∀QJRQBe,mIHH'->H'p<*.P'^mJ^xMQMbw->Q QAlH')
inductive OF QCv QAJ QAH QAR QA5:Prop
 |mk QLA QEc (v:V) QE0 QB2 QE' QLX QEU (_:qe! QCIwHQ)
inductive Fy! QCv QAJ QAH QAR QA5:Prop
 |mk QLA QEc (v:V) QE0 QB2 QE' QLX QEU (_:qe! QT7wHQ)
inductive lQ! QCv QAJ QAH QAR QA5:Prop
 |mk QLA QEc (v:V) QE0 QB2 QE' QLX QEU (_:∀QKDQBe,mIHH'->(b=π↔ac Ltw)->Q QGIH')
inductive OG QCv QAJ QAH QAR QA5:Prop
 |mk QP8 (_:vs=[x,y]) (_:OEHnx) (_:OEHny) (_:∀b:b9,(z4Hnxy->b=π)->Q QGIH)
inductive sp_isword! QAJ QAH QAR QA5:Prop
 |mk QLA (_:vs=[.uM QMR,.uM QBX]) (_:QCJ) (_:w.β≤20000) QBk
inductive sp_ismach! QAJ QAH QAR QA5:Prop
 |mk (m:θ) QA6 QDu QAt (_:vs=[.ο m,.uM QBX]) QCX QDf QBk
inductive sp_foreign! QAJ QAH QAR QA5:Prop
 |mk (z:ω) (_:vs=[.tV z]) (_:∀c:χ,(c<97\/122<c)->c<127->Q QDmH)
inductive sp_others! QAJ QAH QAR QA5:Prop
 |mk QA6 QLw (_:∀H',mIHH'->Q (.uM^lY^H4L) H')
inductive sp_noletters! QAJ QAH QAR QA5:Prop
 |mk QA6 (zp:ω) (_:vs=[.uM QBX,.tV z,.tV p]) QHz (_:∀tH',¬ ww t->uYt->mIHH'->Q (.uM^lYt) H')
inductive T3 QCv QAJ QAH QAR QA5:Prop
 |mk QEc (v:V) QPj QB2 QE' QNH (_:∀QJRQCRQBe,mIHH'->H'p<*.P' xs->z7 (oUH') xs t.I1->Q QAlH')
inductive sp_told36! QAJ QAH QAR QA5:Prop
 |mk (m:θ) QLA QDu QAt QEc (v:V) (_:vs=[.ο m,v,.uM QMR]) QCX QDf (_:pEL WB=ac Lt) QB2 QHP QLX (_:w.β≤100) QBk
inductive sp_wit36! QAJ QAH QAR QA5:Prop
 |mk (DfS:θ) QA6 (us:n0) (bW:γθ) (S:χ->χ->lU->Prop) (_:vs=[.ο D,.ο fS,.uM QBX]) (_:HD<*.P'^oIus) (_:HfS<*.P' QQl) (_:us.β=9) (_:bW.β=36) (_:(∀v∈us,QEz/\v.β≤2100)) (_:CWHL SbW 9 0) QBk
def vt!(h:baH λve=>EF (SN λ_d R=>Rvd) tt c aeQ):EF (SNb) tt c aHQ:=h
inductive Zr!(cH_:θ)QAJ QAH QAR QA5:Prop
 |mk (ed:θ) QA6 (tp:cF) (vw':V) (z:ω) (_:vs=[.ο e,v,.uM QBX,.tV z]) (_:He<*ANe (.ο cH_)^δQGX) (_:P9Hdw'LQC6) (_:oUHpw') (_:p∈t.I1) QB2 QHP QNH QBk
def EZ QVT QAu{pqrb8:nV}(k:X.mg nm<*.ο c)(d:X.mg "isinstance"=ε)(l:(X.N[i]?<*y)>>>4)(f:Hs X.fN.g8 y:=by first|show .UR ζ|show .P2 QAv|show .P2 QJL)(e:((y==("__debug__":bE))=ν)>>>0)(a:((y==("__classdict__":bE))=ν)>>>0)(j:pUX nm>>>4)(b:(pUX "isinstance")>>>4)(g:((nm==("__debug__":bE))=ν)>>>0):vIX (.Wm (.Ip "isinstance" p) [.Ip yq,.Ip nm r] [] b8)^tB^rO (ai! X.K QAXQAX)^pSQP5^pS (tC QAX) tNil:=
 qY (wW (ib! ζQVA) b diZ^rN (cNilfea)^rN (GFjkζg) jY)
def F'{c ep:θ}QEg(a:H0p=ε)(b:H0e<*ANeQFY dd)(s:mIH0H)(b5:Hp<*.P'^if c<i then[.uM^NMS.TC c ""]else[])(f:DEK^ca csc)(d:Δ.W.Kq KQFYQDL<*decide (c=i))(q:∀H',mIH0H'->H'p<*.P' (if c<i+1 then[.uM^NMS.TC c ""]else[])->D.pO [δQAm,δQAl] H'):LB! (tB^rO (ai! KQDLQDL)^pS (aG 0)^pS (tC QDL) tNil) (NX!^vFK "list" rAppend! (aG 1)^pS (tC^.uM^NMS.TC i "") tNil) u9D [δQAm,δQAl] H:=by
 show(e,7,dd,0,s__b,f,d,3);rcases χ.lt_trichotomy ci with h|rfl|h
 .rw [mGh]at b5;rw[pI^p8h];show CO (qH s^by rw[mG^ZAh];show b5)
 .rw [mF^lt_irrefl! c]at b5;rw[uOζ];show(.UR (0,_,pG.of b5),p,[],2,0,b5,HY (!0),q_ (mI.X6 sa)^by rw[mG^A6c];show hJ)
 .rw [mF^χ.lt_asymm h]at b5;rw[pI^ITh];show CO (qH s^by rw[mF^not_lt.Ui h];show b5)
inductive NQ!(cs:γθ)QAJ QAH QAR QA5:Prop
 |mk (e:θ) (dd:ψQTT) (C:χ) (_:vs=[.ο e]) (_:He<*ANe (.ο^ca csC) dd) (_:(C=1\/C=7)) (_:∀pH',mIHH'->H'p<*.P' [.uM^NMS.TC C ""]->Q QAlH')
inductive sp_chain37! QAJ QAH QAR QA5:Prop
 |mk QJR (v:V) QCR (x:cF) (pts!:γcF) QOT (_:Hp<*.P' (v::xs)) (_:oUHxv) (_:z7 (oUH) xs pts!) (_:∀v'H',mIHH'->oUH' (IGx pts!) v'->Q v'H')
inductive sp_round37! QAJ QAH QAR QA5:Prop
 |mk QGT QEc (v:V) (_:vs=[.tV (k:ω),v]) QB2 (_:k<12) (_:∀v'H',mIHH'->oUH' (rnd k t) v'->Q v'H')
abbrev sgn QA6 QDn QGT:χ:=L.TC (q6ns (7+k)%(L.β:ω)).UD 0
abbrev IM QA6 QDn:lU:=(γ.b_ 8).Tx λk=>sgn Lns (k+1)
def XN:(IMLns).β=8:=by rw[IM,j',rA]
def e_!(a:ww L):L[(q6ns (7+k)%(L.β:ω)).UD]?<*sgn Lnsk:=by
 let b:=N1QPE (show(L.β:ω)≠0 by have:=a.lo;show GB! this);let h1:=ω.Zu QPE (show(0:ω)<L.β by have:=a.lo;show O5 this);rw[sgn,pu,mO^Jc! h1b];rfl
def M9(a:ww L):sgn Lnsk∈L:=v7^e_! a
def Cb!(a:ww L):qZ (lYL).Ym.Zh (q6ns (7+k)%((lYL).β:ω))<*sgn Lnsk:=by
 let b:=N1QPE (show(L.β:ω)≠0 by have:=a.lo;show GB! this);rw[tI,nJ,<-ω.toNat_of_nonneg b];show r8^e_! a
def Q6(b:ww L):∀x∈sgn Lns 0::(IMLns).Uj r,x∈L:=λxa=>by
 rcases u3.mp a with ζ|a
 .exact M9b
 .obtain ⟨k,_,ζ⟩:=WB.mp^WYa;show M9b
def Ww! QBm(h:r≤xs.β):yA (v::xs) ε^δ (1+(r:ω))=v::xs.Uj r:=by
 rw[show(1:ω)+(r:ω)=((r+1:χ):ω) from S3,KR (by rw[oY];show FGh),γ.take_succ_cons]
def Ej!(d:ww L)(b:c∈L):ww [c]:=(by change 1≤1;decide,by change 1≤3;decide,ZL.Ui (QA9,γ.nodup_nil),λxa=>d.eW x (o6a▸b))
def WU{M:lU}:∀QIM,t.over []->t.over M
 |.yT _,_=>trivial
 |.yV _,h=>nomatch h
 |.uR _ x,h=>WU (t:=x) h
 |.rE _ x y,h=>(WU (t:=x) h.1,WU (t:=y) h.2)
def ha!(h:D4QKG^.tV j=π):i=j:=ZZh
structure T4(a br:χ):Prop where
 b8:0<r
 jV:r%(a+1)=0
 up:r≤(a+1)*(b+1)
 no!:∀d,0<d->d<r->¬ QHO
def T4.qW:T4ab (a+1):=(succ_pos! a,χ.mod_self _,χ.le_mul_of_pos_right _^succ_pos! b,λdch1⟨h2,_⟩=>by rw[χ.mod_eq_of_lt h1]at h2;lia)
def T4.le(h:T4abr)(d:a≤4)(c:b≤4):r≤25:=n5 h.up^χ.mul_le_mul (WJd)^WJc
def T4.next(h:T4abr)(n:r%(b+1)≠0):T4ab (r+(a+1)):=by
 let(m,ζ):=χ.dvd_of_mod_eq_zero h.jV;let g:m<b+1:=by
  let l:m≤b+1:=χ.le_of_mul_le_mul_left h.up QQq;rcases χ.lt_or_eq_of_le l with l|rfl
  .exact l
  .exact mW (χ.mul_mod_left __) n
 show(9,by rw[χ.add_mod_right,χ.mul_mod_right],by rw[<-χ.mul_succ];show χ.mul_le_mul_left _g,λdih1c=>?_);let(h2,f):=c;rcases χ.lt_trichotomy d ((a+1)*m)with l|rfl|l
 .exact h.no dil (h2,f)
 .exact nf
 .obtain ⟨e,ζ⟩:=χ.dvd_of_mod_eq_zero h2;have:=χ.lt_of_mul_lt_mul_left l;rw[<-χ.mul_succ]at h1;have:=χ.lt_of_mul_lt_mul_left h1;lia
def yo!(d:RQCj va)(b:R (pc QQp) vs)(c:Re6eT):∃(v:V)(xs:γ V)(x:cF)(a:γcF),nMn va++[vs,eT]=v::xs/\Rxv/\z7Rxsa/\IGxa=J'sn:=by
 cases n with
 |qW=>show(vs,[eT],pc QQp,[e6],0,b,(c,trivial),0)
 |qV n=>
  show(va,nMn va++[vs,eT],pc ε,nMnQCj++[pc QQp,e6],0,d,z7.app (R:=R) (ys:=[vs,eT]) (us:=[pc QQp,e6]) (b,c,trivial)^z7.rep dn,3);rw[show nMnQCj++[pc QQp,e6]=(nMnε++[δ s]).Tx pc++[e6] by rw[pY,γ.map_replicate,u4];rfl,DH!,UG];rfl
inductive jb! QAw QAJ QAH QAR QA5:Prop
 |mk QCw QDn QA6 QQw QLx QHz (_:∀QJR(v:V)QEc(g:b9)QBe,mIHH'->H'p<*.iT [v,.dW g]->oUH'tv->BALQG4QF_tg 0->Q QAlH')
abbrev YV QRj QAH QA6 QEc(v3v4:V):Prop:=
 (¬ ww L->∃e,v4=.ο e/\He<*ANe (.ο cNL) ε)/\
 (ww L->(v3=.vS/\∃(ed:θ)(p:cF)(cN:V),v4=.ο e/\He=δ^ANe (.ο cH_)^δ (d,ν,)/\p∈t.I1/\oUHpcN/\P9HdcNL^ac Lp) \/
  (v4=.vS/\∃(f:θ)(W:n0)(B:γb9),v3=.ο f/\xZHfL WB/\pEL WB=ac Lt/\DYLt))
def YV.Ki(h:YV cNL cH_ HLtmj)(s:mIHH'):YV cNL cH_ H'Ltmj:=(λn=>by
 let(e,a,b):=h.1 n;show(e,a,s__b),λl=>by
 rcases h.2 l with⟨a,e,d,p,cN,b,c,g,k,i⟩|⟨a,f,W,B,b,c,d⟩
 .exact .UR (a,e,d,p,cN,b,s__c,g,k.C9^mI.C9 s,i.Ki s)
 .exact .P2 (a,f,W,B,b,c.kt^KT.of (ts:=[]) s,d))
inductive Li! QCU QRj QCi QAJ QAH QAR QA5:Prop
 |mk QCw QEc QA6 QQw QHU QHP (_:uYL) QEM (_:∀QJR(v3v4:V)QBe,KTtsHH'->YV cNL cH_ H'Ltv3v4->H'p<*.iT [v3,v4]->Q QAlH')
inductive qr! QCU QCi QAJ QAH QAR QA5:Prop
 |mk QCw QEc (v:V) (Lu:lU) (_:vs=[.ο a,v,.uM QBX,.uM^lYu]) QHU QB2 QHP QHz QEM (_:xALt) (_:nOLu) (_:u.β≤100) (_:∀H',Q QLZH')
def SX!(h:G4tsH)(k:F3HH'):G4tsH':=λpb5=>by
 let(o,a,b,d):=hpb5;show(o,k__aQAC,b,λqf=>(dqf).imp id λe=>by let(c,x,y):=e;show(c,x,k__y λ_z=>nomatch z))
def je! QMx(h:pGKHbQBI)(c:HD<*.P' (x::xs))(d:∀z,x≠.tV z):pGK (_F.mE HDo) bQBI:=by
 rcases h with h|h
 .let n:b≠D:=λe=>by
   subst e;rcases h with h|⟨o,h⟩
   .rw [c]at h;cases ns with
    |nS=>cases h
    |nF z l=>cases h;show d_ζ
   .rw [c]at h;cases h
  show .UR (h.imp (λh=>by rw[a'n];show h) λa=>by let(u,h):=a;show(u,by rw[a'n];show h))
 .exact .P2 h
inductive qt! QAw QCU QCi QAJ QAH QAR QA5:Prop
 |mk (a b:θ) QEc (v:V) QA6 QDn (z:ω) (_:vs=[.ο a,v,.uM QBX,.tV z]) QHU QB2 QHP QNH QHz QEM (_:E9Lt) (_:pGKHbQBI) (_:∀H',uVcH'tQAe->oUH'tv->G4tsH'->pGKH'bQBI->Q QLZH')
section
variable{P:nA}{w:o4}{K:qI}{mg:bE->ψη}{υ:n3}{P0vIcW:θ}{ts:γQAV}{jI:γ (θ×θ)}{cs:γθ}{c:xE->θ}{cP:θ}{bRd1d2d3:θ}
def vK!:n9 ["self","sign"] ["self","sign"]^hY Yl!:=QE1
def wB!(F:nEK "__init__" "Sign.__init__" Yl! f d):mTPwK mg υms 1 f d ["self","sign"]^zj K "sign":=by
 show F.ok vK! QAGQK6
 .obtain ⟨p,v,C,dx,ζ,_⟩:=h;rfl
 .obtain ⟨p,v,C,dx,ζ,b5,g,n1,q⟩:=h;show(_,hFQMj,3);show(p,C,dx,[],0,b5,g,n1,(by change 0<1000;decide),3);show q_ (λboea=>by rw[a'a];show e) hJ
def wu!:n9 ["self","inner"] ["self","inner"]^hY hD!:=QE1
def pj!(F:nEK "__init__" "Around.__init__" hD! f d):mTPwK mg υms 1 f d ["self","inner"]^zj K "inner":=by
 show F.ok wu! QAGQK6
 .obtain ⟨p,v,C,dx,ζ,_⟩:=h;rfl
 .obtain ⟨p,v,C,dx,ζ,b5,g,n1,q⟩:=h;show(_,hFQMj,3);show(p,C,dx,[],0,b5,g,n1,(by change 0<1000;decide),3);show q_ (λboea=>by rw[a'a];show e) hJ
def vL!:n9 ["self","left","right"] ["self","left","right"]^hY Io!:=QE1
def wC!(F:nEK "__init__" "Pair.__init__" Io! fi):mTPwK mg υms 1 fi ["self","left","right"]^sL! K "left" "right":=by
 show F.ok vL! QAG (λbYAb7sHvsQ Ejh=>?_)
 .obtain ⟨p,v,u,C,dx,ζ,_⟩:=h;rfl
 .obtain ⟨p,v,u,C,dx,ζ,b5,d,n1,g,q⟩:=h;show(_,lWQMj^hF^HUQADQAOζ,3);show(p,C,dx,[],0,b5,d,n1,(by change 0<1000;decide),p,C,dx,2,hJ,d,g,(by change 1<1000;decide),3);show q_ (λboea=>by rw[a'a,a'a];show e) hJ
abbrev eZ:xE->cZ:=Vj! sv! AH! uo! SQ! um! xH! dn! zt! a_! rz! dK!
abbrev Lj!:xE->bE:=Vj! "Never.shape" "Empty.shape" "AnySign.shape" "Sign.shape" "Outside.shape" "Turned.shape" "Again.shape" "Either.shape" "Less.shape" "Both.shape" "Then.shape"
def qH!(b:∀k,MH! K (ck) cP){fs:xE->θ}{j:xE->uP}(I:∀k,M3K (ck) "shape"^fsk)(J:∀k,p6K (jk) ["self"] [])(F:∀k,nEK "shape" (Lj! k) (eZk) (fsk)^jk):∀nk,mTPwK mg υmsn (fsk) (jk) ["self"] (jQ! cnk)
 |0,k=>(λvsHQ Eh=>by let(a,t,_,_,_,o,_):=h;have:=t.dep_pos;lia,λ______vsQ E____h=>by let(a,t,_,_,_,o,_):=h;have:=t.dep_pos;lia)
 |n+1,k=>by
  let N:=qH! b I J Fn;let S:n9 ["self"] ["self"]^hY^eZk:=by
   rcases k with(_|_|_)|_|(_|_|_)|(_|_|_|_)<;>show nU
  show(F k).ok SQAG (λbYAb7sHvsQ E Th=>?_)
  .obtain ⟨a,t,ζ,_⟩:=h;rfl
  let(a,t,ζ,b5,ζ,o,q):=h;cases t with
  |yT k=>cases k<;>show(_,hF^k9^p0^rNj5jY,m6^by change 1≤16777216;decide,λpb5=>qQAl_QBd (p,0,hJ))
  |yV z=>
   let(Z,dx,e,r):=b5;cases e;show(_,hF^k9^p0^rNj5^rNQFajY,a,_,dx,1,r,(b_).cl,(b_).cg,Ry! _,m6^by change 2≤16777216;decide,λpb5=>qQAl_QBd (p,0,hJ))
  |uR k x=>
   let o:x.Kd+1≤n+1:=o;let(Z,dx,u,e,r,C):=b5;cases e;let(D,l,i,ζ,h1,M):=C.TM;cases k<;>show(_,hF^k9^p0^rNj5^rNQCsjY,a,_,dx,1,r,(b_).cl,(b_).Uf,F_! _,x.kd,D,l,i,0,h1,M,D,x,0,C,0,9,λfmgd=>(m6^by change 2≤16777216;decide,λpb5=>qQAl_ (g.ξ QBd) (p,f,0,hJ,d.C9 QG5)))
  |rE k x y=>
   let o:max x.Kd y.Kd+1≤n+1:=o;let(Z,dx,u,w',e,r,C,d7):=b5;cases e;let(D,l,i,ζ,h1,M):=C.TM;let rd!:∀QP0(f:V)(m:m1),mIHm->oUmxf->(∀vH',mIHH'->oUH'QIov->Qv H')->vq! c "shape" (jQ! cn) fA (λ_H R=>Rw'H) [] m λLX=>3≤Φ/\∀p,Xp=ε->Q QAl^_F.mE Xp^.iT [.uM QOF,f,L]:=λkfmgdq=>by
    let B:=d7.C9^mI.C9 g;let(Y,W,U,ζ,h2,l2):=B.TM;show(y.kd,Y,W,U,0,h2,l2,Y,y,0,B,0,W5o,λLX s2O=>(m6^by change 3≤16777216;decide,λpb5=>qQAl_ (g.ξ^s2.ξ QBd) (p,f,L,0,hJ,d.C9^mI.C9^s2.ξ QBd,O.C9 QG5)))
   cases k<;>show(_,hF^k9^p0^rNj5^rNQCs^rNQCsjY,a,_,dx,1,r,(b_).cl,(b_).nL,Rz! __,x.kd,D,l,i,0,h1,M,D,x,0,C,0,9,λfmgd=>(a,_,dx,1,g__r,(b_).cl,(b_).Tw,ho! __,rd! _fmgdq))
def Qv!:n9 ["self"] ["self"]^hY dX!:=QE1
def wD!(F:nEK "__init__" "Desk.__init__" dX! fu):mTPwK mg υms 1 fu ["self"]^Yr! Kc:=by
 show F.ok Qv! QAG (λbYAb7sHvsQ E vh=>?_)
 .obtain ⟨d,dx,C,ζ,_⟩:=h;rfl
 .obtain ⟨d,dx,C,ζ,p,t,nP,nW,q⟩:=h;show(_,lW (HUQADQGRζ)^hF^HUQADQGRζ,3);show(pT_,λpa g=>(d,C,dx,[],0,p5pg,t,nP,(by change 0<1000;decide),pT_,λwa a=>?_));let m:d≠pa:=oZpg;let n:(mE (mEH pa QB3) d^.TM C dx^am "patterns" QT3 []) d<*.TM C dx^am "patterns" QT3 []:=hJ;let l:d≠wa:=oZna;let j:(mE (mEH pa QB3) d^.TM C dx^am "patterns" QT3 []) pa<*.P' []:=by rw[a'^Ne.UH m,hJ]
  let k:pa≠wa:=oZja;show(d,C,dx,2,p5hJa,t,nW,(by change 1<1000;decide),3);let i:H wa=ε:=by
   rw[a'QQc,a'^Ne.UH k]at a;show a
  show q pa wa _ (λboer=>?_) (hJ,3,trivial,3,k) gi
  .rw [a'r,a'^oZei,a'r,a'^oZeg];show e
  .rw [a'^Ne.UH m,a'k];show j
  .rw [a'QQc];show hJ
instance cz!:cZ:=x7 (o5 59) 2
def Bw!:n9 ["self",o3] ["self",o3]^hY cz!:=QE1
inductive vz! QCU QRj QCi QAJ QAH QAR QE4:Prop
 | mk (a:θ) (t:cF) (L:lU) (_:vs=[.ο a,.uM^lYL]) (_:uVcHt^.ο a) (_:t.Kd≤12) (_:uYL) (_:G4tsH) (_:(¬ ww L->E (.ο cNL) εH)) (_:(ww L->(∀dpcNH',KTtsHH'->p∈t.I1->oUH'pcN->P9H'dcNL^ac Lp->E (.ο cH_) (δ (d,ν,)) H')/\
 ∀(f:θ)(W:n0)(B:γb9)(H':m1),KTtsHH'->xZH'fL WB->pEL WB=ac Lt->DYLt->Q (.ο f) H'))
abbrev kv! QLB QBg QAw QAy QRH QCU QRj QCi:Prop:=∃f fd,(∀k,M3K (ck) j4f)/\p6K fd ["self",o3] []/\mTPwK mg υQBi 23 f fd ["self",o3]^vz! c cNL cH_ ts
def WQ!(F:nEKj4 "Pattern.machine" cz! f O)QQx(r:rPPwK mg υ "need_letters" 2 [o3]^XC! cNL)(u:rPPwK mg υ "machine_of" 22 [o3,"shape"]^T1QAMts 12):mTPwK mg υQBi 23 f O ["self",o3]^vz! c cNL QAMts:=by
 show F.okX Bw! QAG (λbYAb7sHvsQ Emh=>?_)
 .obtain ⟨a,t,L,ζ,_⟩:=h;rfl
 .obtain ⟨a,t,L,ζ,b5,v,i,M,ov!,q⟩:=h;let(fs,N,I,S,T):=y.sh;let l:=m.Hu (j:=2) (!0);let b:=m.Hu (j:=12) (!0);let(U,o,n,R,h1,J):=b5.TM;cases R;show(_,(lW (rW^wUrlQAf^rNQAFjY)^hF^k9^wUumQAf^rNQAF^rN (o_! QAD (λk=>(y.pc k).cl) I (T 12) b SiF) jY),3);show(L,0,i,λx=>?_,ov!);let(D,q):=qx;show(t.kd,a,o,n,0,h1,J,a,t,0,b5,0,v,λCXeg=>(L,t,C,0,g,v,x,(KT.of e).dE M,λdpcNH'k=>DdpcNH'QVv,λf WBH'k=>qf WBH'QVv))
end
inductive Il! QAw QAJ QAH QAR QA5:Prop
 |mk QJR QVk QOT (_:pGKHpQKP) (_:(∀x∈ns,x<8)) (_:∀tH',mIHH'->H't<*.iT^mJ^EEns->Q QFRH')
inductive sp_hasm! QAJ QAH QAR QA5:Prop
 |mk (mv:θ) (o:j7) QA6 QDu QAt QFi QSQ QCX QDf QKW (_:Hv<*o) (_:k.β≤60) QRb (_:∀H',mIHH'->Q (.dW^k.I9 λr=>B.TC rν) H')
namespace Tu
inductive sp_rinto! QAJ QAH QAR QA5:Prop
 |mk (m st:θ) QA6 QDu QAt QIL (S:lU) (_:vs=[.ο m,.tV (j:ω),.ο st]) QCX QDf (_:j<L.β) (_:H st<*.iT^mJS) (_:∀pH',mIHH'->H'p<*.iT^mJ^IWW Sj->Q QAlH')
inductive Bx!(cWP1:θ)QIO QAJ QAH QAR QA5:Prop
 | mk (m:θ) (L:lU) (W:n0) (B:γb9) (_:vs=[.ο m]) (_:tFHmL WB) (_:oOL WB) (_:W.β≤8) (_:tZH P1hN) (_:∀(dYtbGybT:θ)(ks:n0)(ws:n0)(fW:γθ)(R:n0)(Bm:γb9)(H':m1),x8P1HH'->tZH'P1hN->GVH'cWdYLtbGybT->H'bG<*.P'^oIws->H'y<*.P'^fW.Tx V.ο->C0H'fWR->H'bT<*.P'^Bm.Tx V.dW->
  xS (IWW) L (RWWB) ks ws ks.β 0->MM (IWW) L.β ksR->R.β=ks.β->Bm.β=R.β->(∀(r:χ)(k:lU)(b:b9),ks[r]?<*k->Bm[r]?<*b->b=VAk)->ks.β≤256->Q (.ο dY) H')
instance JY:cZ:=o5 32
instance aJ:cZ:=(nRJY).TC 0 QBU
instance q_tg:bE:="walked_turned.<locals>.goals_of"
instance q_tl:bE:="walked_turned.<locals>.<lambda>"
instance JT:bI:=match (nRJY).TC 2 QBU with
 |.Return (δ^.Wm _ [_,_,_,l] __) _=>l
 |_=>.Ip "" QAL
instance g_W:zR:=match JT with|.Xx a _ _ _=>a|_=>([],[],ε,[],[],ε,[])
instance g_V:bI:=match JT with|.Xx _ b _ _=>b|_=>.Ip "" QAL
instance yY:qA:=match JT with|.Xx _ _ s _=>s|_=>hYaJ
instance UW:nV:=match JT with|.Xx _ _ _ p=>p|_=>((0),(0),(0),(0))
abbrev Au!:γQDo:=[(IVaJ,q_tg,),(UW,q_tl,)]
def qw!:K4 ["state",j4] "state" [j4] QMk:=(5,0,!3,5,!0,0,!3,λ__=>rfl,λ_=>rfl)
def fq!:xV ["state"] ["state"] [] yY:=QAn
section
variable{P:nA}{w:o4}{K:qI}{mg:bE->ψη}{υ:n3}{fcm:θ}{cU:γQBH}{cR pm ctv:η}{L:lU}{W:n0}{B:γb9}
def wH! QD8(O:υ.Vt QAX q_tg)(C:rGυcUQMk [j4] [.ο m])(F:oOL WB)(y:mg "len"=ε)(g:mg "range"=ε)(S:n4PwK mg υ "rooms_into" 1 [j4,"place",oM] sp_rinto!):mTPwK mg υms 2 fQDg ["state"] (OR .t L (IWW) (E0 W.β) λH=>tFHmL WB):=by
 show QI (fvs:=[.ο m]) dIζ O qw! CQAG (λAb7sH YQ EcTh=>?_)
 .obtain ⟨k,v,ζ,_⟩:=h;rfl
 .obtain ⟨k,v,ev,N,JE,X,q⟩:=h;obtain ζ:Y=v:=by simpa using ev
  show(_,(hF^k9^ji! ["state",j4] ζ (!0) (CNζg^nG^wW bw! (!4) y boot_len!^nGQMg)^λcl CbNs'H'=>(t7,(m5ScT^v5QAOQADQAF))),3);unfold pJ at N;rw[mF (!0)]at N;let(b,ζ,cY):=N;let I:=F.lt.g6;let hz:(lYL).β≤Φ:=m6 (by rw[nJ];show n5I (!0));let(fU,mk,T,h1,h2,h3,h4,AF):=id X;dsimp only[H3];show ON (n:=L.β) (λRh=>(m7h1bO (2,hz,by rw[nJ];show h))) (n5I (!0)) (λDjysH'=>∃ts:γθ,vEQMl (ts.β=j) (∀QAuQCw,ts[i]?<*a->H'a<*.iT^mJ^IWWki)) (λD J=>([],5,λiae=>by simp at e)) ?_ ?_
  .intro DjysH'fTf5Ji'dpb5k1k2;let(ts,ζ,l,o):=b5;show hI (m,b,L,W,B,j,k,3,X.Ki d,F,i',d__cY,λtcMM Z=>?_)
   .rw [ω.WL];rfl
   let r:=M__p;show k1QFR_r (mI.X6 (d.ξ M) J) (ts++[t],by rw[pY];rfl,by rw[o9,l];rfl,λiue=>?_);rcases EYe with z|⟨rfl,ζ⟩
   .exact E1 (M__^oiuz) r (!5)
   .rw [l];show E1Zr (!5)
  .intro DysH'Jdpb5;let(ts,ζ,l,o):=b5;show qDQF2H'd (.P2 (J,p)) (by rw[j',l]) λjx U=>?_;rw[na]at U;let(a,eM,ζ):=r7U;unfold pJ;rw[mF (!0)];show(a,0,ojaeM)
def kb!(i:υ.Ξ f<*kla_obj "<lambda>" q_tl g_W g_V yYcU pm c ctv)(g:υ.Vt QAX q_tl)QRk(a:m1->Prop)(U:n0):mTPwK mg υms 1 f (kla_fn "<lambda>" q_tl g_W g_V yYcU pm QAX ctv) ["state"]^PS .t VAUa:=by
 show PV (fvs:=[]) iζg fq! CQAG (λAb7sHvsQ Elh=>?_)
 .obtain ⟨k,v,ζ,_⟩:=h;rfl
 .obtain ⟨k,v,ζ,d,n,o,q⟩:=h;show(_,xPSJmVQADQAN,3);unfold pJ at d;rw[mF (!0)]at d;let(b,ζ,j):=d;show(b,2,.P2^n'.of j,0,ik! _,3);let e:A2 (.tV 0)^mJk=VAk:=Yq! 0 k;change Q (.dW^A2 (.tV 0)^mJk) H;rw[e];show qHQHs
end
def c_x!:n9 [j4,fY,"start"] [j4]^hYJY:=nU
def Fi!(nO:bv X UeHd)QDk QCx:rGdb sc [] []:=
 (λyzch1h2=>nO.WZ yzcQSVQSW,A7,λych=>nO.aQ ycQUw,0,λiyvh1h2=>by simp at h1)
set_option maxHeartbeats 8000000 in
def Fa!{P:nA}QGa{uFkVcR pm ct aN ap F al jeI bi:η}(lk:K.ς f<*(uF,z5,.YN^q3 "walked_turned" "walked_turned" (p'JY) (nRJY) (hYJY) .ε kVcR pm an QAX ct,fR))(i4:t9KQAX "walked_turned"=π)(lw:K.ς uT<*(aN,i6,.YN^q3 "walked" "walked" QMhQMiQKbQLm ap F al an2 jeI,osl2))(jJ:t9Kj "walked"=π)QDX(g5:mg "walked"<*.ο uT)(lD:K.ς CM<*(bi,cr,.Yv #[.ε] R9,ce))QC9(T:mg "len"=ε)(dS:mg "zip"=ε)(dN:mg "tuple"=ε)(J:mg "range"=ε)(ab:mg "enumerate"=ε)QJg QDj(bB!:∀υ:n3,n4PwK mg υ "rooms_into" 1 [j4,"place",oM] sp_rinto!):mTPwK mg υms 6 f (q3 "walked_turned" "walked_turned" (p'JY) (nRJY) (hYJY) .ε kVcR pm an QAX ct) [j4]^Bx! cWP1 Au!:=by
 show rh! lk i4 c_x! QAGQAz
 .obtain ⟨m,L,W,B,ζ,_⟩:=h;rfl
 .obtain ⟨m,L,W,B,ζ,hM,O,hW8,hT,q⟩:=h;show(_,(lW (FU (i:=1) (bA:=q_tg) (c:=c) (P0:=P1) (hN:=Au!) c_x.eR ζQBxζdJgF (!3) (!3))^lW (m3 2 c_x.eR^D9GI (!4) dNAU^nG^K3 [j4,fY,"start"] ζ (!0) (UZζ ab^nGQBB)^λcl CbNs'H'=>(XR^qYQAF,cN 0))^hF^k9^JW (dvs:=[.vS]) ζg5 kw (T' (kV:=ap) (cR:=F) (pm:=al) (an:=an2) (bY:=j) (ct:=eI) lD) QD0 (rNQBB^v5QAOQAF^PY (bA:=q_tl) (c:=c) (P0:=P1) (hN:=Au!) ζdJgF (!3) (!3)) QH7),3);show(hT,λeWvc1H1aMa4BscAs1a6a1aV=>?_);let a7:tFH1mL WB:=hM.Xk^FZs1hT;let(fU,mk,b3,h1,h2,h3,h4,AF):=id a7;let a2:=O.dW;let aT:=O.n60;dsimp only[rZ];dsimp only[u9,v8,aR,vY,pS,vF,rO];show Mn! (c:=mk) QHtQJLh3 (λDiysH'=>ys=mJ^(γ.b_ i).Wo λr=>B.TC rν) (by rw[j',a2];show m6^n5aT (!0)) QPF ?_ ?_
  .intro DixysH'bJfTf5dAc9M Sb5gk1k2;rw[na]at c9;let(b,p,ζ):=r7c9;let gJ:B.TC iν=b:=by rw[pu,p];rfl
   cases b with
   |π=>
    show(k1_bJ (g__ S) (mI.X6 (M.ξ g) dA) ?_);rw[b5,yl,gJ];show(KY__).UH
   |ν=>
    show(k2bJ (M.ξ g) (g__ S) ?_);rw[b5,yl,gJ];simp
  intro DysbFdAM Sb5;rw[j',a2]at b5;subst b5;show(D,2,.UR (pG.of S,λst eZ=>?_));let s2:mIH1^_F.mE bF st QCt:=M.ξ QH8;let X:_F.mE bF st QCt st<*.iT^mJQTr:=hJ;generalize _F.mE bF st QCt=bJ at s2 X;let N:=GWa6s2;show(m7 (s2__h1) bO (N,λb0f2c2IfMa3bRiEs4bPa0aU=>?_));let(f7,bU,_):=id a6;let(jE,BZ,_):=id N;let(bd,bS,i3,fJ):=id bP;let nP:∀QBGQCk,H1b<*.ext φ->b≠P1:=λ{bφ}ez=>by rw[z,bU]at e;cases e
  let Y:Iv<*z'vfY q_tg (p'aJ) (nRaJ) QMkeWc1:=s4v_ (nPaV)^s2__aV;let Z:Ic1<*ol c1 q_tg:=s4c1_ (nPa1)^s2__a1;let bV:tFImL WB:=(a7.Ki s2).Xk^FZs4N;let U:I st<*.iT^mJQTr:=FZs4N__X;let a5:∀u∈[v,f2,c1,c2],∃φ,Iu<*.ext φ:=λuhO=>by
   simp only[u3,i7,w7]at hO;rcases hO with ζ|rfl|rfl|rfl
   .exact (_,Y)
   .exact (_,aU)
   .exact (_,Z)
   .exact (_,a0)
  show([v,f2,c1,c2],a5,λdnO=>?_);let(b4,co,b6,a9):=nO.ext v_ (!1) Y;let(ch,A9,a8):=nO.ext f2_ (!1) aU;let b2:d.Vt QLn q_tg:=nO.ext c1_ (!1) Z;let b1:d.Vt (.ο c2) q_tl:=nO.ext c2_ (!1) a0;let C1:=Cd! (sc:=hYaJ) (m:=m) nOaMa4ζζζζ (!3);let C2:=Fi! (sc:=yY) nOfMa3;let I0:NRK "walked" "walked" AYuT_:=((aN,i6,.ο CM,ap,F,al,an2,j,eI,osl2,0,lw,jJ),kw);show((5),OScW .t L (IWW) VA (E0 W.β) QSmvf2,cT,SYI0WTTdS ((wH! a9b2C1O T J^bB! d).Hu (!0)) ((kb! a8b1C2__).Hu (!0)) a9 (_,0) a8 (_,0) (.u7 λuseG=>by let(_,ζ):=DUeG;rfl) (.u7 λuseG=>by let(_,ζ):=DUeG;rfl) QIs,3);let l:∀QBGQIz,Ib<*o->QCr->b∉[v,f2,c1,c2]:=λ{bo}edIp=>by
   let(φ,e2):=a5bp;rw[e]at e2;show dIφ^ψ.δ.WZ e2
  show(RWWB,.ο st,ε,0,O.lt,3,K6__,λkhZqe9=>K6__,n5 (oe! hW8) (!0),bV.Xk λbxse=>by rw[tT^l eQAC];show e,λdYtbGybTks cd wseFR Bm d8qPhWfPjT bm d7aSbsg7aAdWhUhG le he bM=>?_)
  .unfold pJ;rw[mF (!0)];show(st,0,by change x4_ I st=_;rw[tT^l UQAC];show U)
  let hR:R.β=ks.β:=by
   rcases he with z|⟨n,z,_⟩
   .exact z
   .cases z
  let gT:∀QBGQIz,d8b<*o->retr [v,f2,c1,c2] Id8b<*o:=λ{bo}e=>by
   rw[DO λp=>?_]
   .exact e
   .rw [bMbp]at e;cases e
  let as:∀QBGQIz,Ib<*o->retr [v,f2,c1,c2] Id8b<*o:=λ{bo}e=>by
   by_cases p:b∈[v,f2,c1,c2]
   .rw [MRp];show e
   .exact gT (qPbo^by rw[tTp];show e)
  rw[hR]at g7;let(dx,dZ):=hW.ex;show qdYtbGybTkswseFR Bm _ (λbope=>as (s4bop^s2__^s1bope)) (bd,as bS,i3,λxc9=>(fJxc9).imp id λi5=>by let(c',e1,e2):=i5;show(c',e1,as e2)) QKd (gT bm) (gTd7) (aS.1,λiare1e2=>gT^aS.2 iare1e2) (gTbs) g7aAhRdWhU^n5 le^oe! hW8
end Tu
namespace A
inductive Dt! QAt QCv QGp QAJ QAH QAR QA5:Prop
 |mk QJR QJM QOT QT8 (_:(∀x∈l,x<n)) (_:l.β≤50) QPk (_:∀tH',mIHH'->BY .q H' (NSBl) t->Q QFRH')
instance H8:cZ:=o5 40
instance LR:cZ:=(nRH8).TC 1 QBU
instance IU:cZ:=(nRH8).TC 2 QBU
instance q_ae:bE:="again.<locals>.entered"
instance q_ag:bE:="again.<locals>.goals_of"
instance q_al:bE:="again.<locals>.<lambda>"
instance WV:bI:=match (nRH8).TC 3 QBU with
 |.Return QH9 _=>l
 |_=>.Ip "" QAL
instance g_W:zR:=match WV with|.Xx a _ _ _=>a|_=>([],[],ε,[],[],ε,[])
instance g_V:bI:=match WV with|.Xx _ b _ _=>b|_=>.Ip "" QAL
instance yY:qA:=match WV with|.Xx _ _ s _=>s|_=>hYIU
instance UW:nV:=match WV with|.Xx _ _ _ p=>p|_=>((0),(0),(0),(0))
abbrev sitesA!:γQDo:=[(IVLR,q_ae,),(IVIU,q_ag,),(UW,q_al,)]
def Yh!:xV [oM,"piece"] [oM] ["piece"] QPG:=QAn
def SZ:xV ["state","entered","piece"] ["state"] ["entered","piece"] QPH:=QAn
def It!:xV ["state"] ["state"] [] yY:=QAn
section
variable{P:nA}{w:o4}{K:qI}{mg:bE->ψη}{υ:n3}{fcmg:θ}{cU:γQBH}{cR pm ctv:η}{L:lU}{W:n0}{B:γb9}
def nd!(X:υ.Ξ f<*fnMade "entered" q_ae (p'LR) (nRLR) QPGcUcR pm c ctv)(D:υ.Vt QAX q_ae)(C:rGυcUQPG ["piece"] [.ο m])(F:oOL WB)(Z:W.β≤8)(I:n4PwK mg υ "has_marked" 1 [j4,oM] sp_hasm!)(b:n4PwK mg υ "lot_of" 1 [oM] QT9):mTPwK mg υms 2 f (Δ.W.fnX "entered" q_ae (p'LR) (nRLR) QPGcU .ε .ε cR pm εQAX ctv) [oM] QLP:=by
 show GP (fvs:=[.ο m]) XζD Yh! CQAG (λAb7sHvsQ E vh=>?_)
 .obtain ⟨p,l,ζ,_⟩:=h;rfl
 .obtain ⟨p,l,ζ,b5,hlW!,hl50!,Y,q⟩:=h;show(_,(lW (mS (qY^m5Iv^m4QAFQAD) (hF^k9^p0^m4CR^m5bv^nG^mZU1QAD^AV^nGmV)^m8)^hF^k9^p0^m4CR^m5bvQCu),3);show(m,p,_,L,W,B,l,0,Y,F,.UR ζ,b5,n5 hl50! (!0),hlW!,λUe=>?_);let S:∀x∈l,x<8:=λxk=>pP (hlW! xk) Z;let rE:2≤Φ:=m6 (!0);unfold NS at q;cases M:l.I9 QHM with
  |π=>
   rw[mGM]at q;show(m6^by change 1≤16777216;decide,λda=>?_);let s2:=e.ξ^mI.mE (o:=.P' [.tV 0]) a;let R:=p5 (u:=.P' [.tV 0]) QOLa;let O:_F.mE UdQJhd<*.P' [.tV 0]:=hJ;generalize _F.mE U d QJh=T at s2 R O;show(p,d,4,R,O,m6 (by rw[o8];change l.β+1≤16777216;show Gq! hl50!),λiy=>?_);let J:=s2.ξ^mI.mE (o:=.P' QEH) y;let N:_F.mE TiQQyi<*.P'^mJ (l++[0]):=by rw[hJ,mJ,mJ,pY];rfl
   generalize _F.mE T i QQy=bJ at J N;show(i,l++[0],0,pG.of N,λxk=>?_,λtcMjn=>(rE,λst eZ=>q st _ (J.ξ^j.ξ QH8) (t,(1),2,nZ_,hJ,p5neZ)));rcases lp.mp k with z|z
   .exact Sxz
   .rw [o6z];decide
  |ν=>
   rw[mF^by rw[M];show b9.UF]at q;show(p,l,0,pG.of QOL,S,λtcMjn=>(rE,λst eZ=>q st _ (e.ξ^j.ξ QH8) (t,(0),2,pT_,hJ,p5neZ)))
def ZB!(dI:υ.Ξ f<*fnMade fY q_ag (p'IU) (nRIU) QPHcUcR pm c ctv)(eF:υ.Vt QAX q_ag)(C:rGυcUQPH ["entered","piece"] [.ο g,.ο m])(y:oOL WB)(h8:W.β≤8)(fJ:n4PwK mg υ "lots_after" 1 [j4,oM] P8)QK7(an:p6K fd [oM] [])(R:mTPwK mg υms 2 g fd [oM] QLP):mTPwK mg υms 3 f (Δ.W.fnX fY q_ag (p'IU) (nRIU) QPHcU .ε .ε cR pm εQAX ctv) ["state"] (OR .q LQTy (ER W.β) λH=>tFHmL WB):=by
 show GP (fvs:=[.ο g,.ο m]) dIζeFSZCQAGQAz
 .obtain ⟨k,v,ζ,_⟩:=h;rfl
 .obtain ⟨k,v,ζ,Y,JE,hM,q⟩:=h;let Z:=cT.Hu (j:=1) (!0);show(_,(hF^k9^ji! ["state","entered","piece"] ζ (!0) (wV^m5fJZ^m4QAOQBB)^λcl CbNs'H'=>(t7,JU (i:=2) RcTgE an QAOQCu)),3);let(b0,S,ζ,eI,hS,M):=ig! JE;unfold pJ at Y;rw[mF (!0)]at Y;let(b,ζ,c0,x,ks,e0,as,cY,al):=Y;cases e0;let ap:=y.lt.g6;dsimp only[H3];show m7cYfV (m,c0,_,L,W,B,S,0,hM,y,.P2 ζ,al,n5M (!0),hS,λllsH1XeGr ab=>?_);show(l,1,.UR ζ,eG,λJkY=>X_! kYeG (λDjysH'=>∃ts:γθ,vEQMl (ts.β=j) (∀QAuQCw,ts[i]?<*a->BY .q H' (Iv! WB (b0::S) i) a)) (by rw[j',r];show m6^n5 ap (!0)) (λD T=>([],5,λiae=>by simp at e)) ?_ ?_)
  .intro DjxysH'fTf5T In Fb5k1k2;let(ts,ζ,d,p):=b5;rw[na]at I;let(a,O,ζ):=r7I;let i':j<L.β:=by rw[<-r];show(m9O).1
   show hI (0,a,gAW Sj,0,n__^ab ja O,R8yhSi',by rw[gA,j'];show n5M (!0),(hM.Ki X).Ki n,λtcMUfP=>?_);let N:=U__ F;let up:∀QIzbxs,cMb<*.iT xs->_F.mE cMDob<*.iT xs:=λbxse=>E1e N (!5);show k1QFR_ N (mI.X6 (n.ξ U) T) (ts++[t],by rw[pY];rfl,by rw[o9,d];rfl,λiue=>?_);rcases EYe with z|⟨rfl,ζ⟩
   .exact ((piuz).Ki λbxse=>U__e).Ki up
   .rw [d];show fP.Ki up
  .intro DysH'Tn Fb5;let(ts,ζ,d,p):=b5;rw[j',r]at d;show qDQF2H' (X.ξ n) (.P2 (HAX T,F)) (by rw[j',d]) λjx I=>?_;rw[na]at I;let(a,O,ζ):=r7I;unfold pJ;rw[mF (!0)];show(a,0,pja O)
def EK!(j:υ.Ξ f<*kla_obj "<lambda>" q_al g_W g_V yYcU pm c ctv)(e:υ.Vt QAX q_al)QRk(a:m1->Prop)(U:n0):mTPwK mg υms 1 f (kla_fn "<lambda>" q_al g_W g_V yYcU pm QAX ctv) ["state"]^PS .q Mw! Ua:=by
 show PV (fvs:=[]) jζe It! CQAGQMm
 .obtain ⟨k,v,ζ,_⟩:=h;rfl
 .obtain ⟨k,v,ζ,d,p,r,q⟩:=h;show(_,K8 0,3);unfold pJ at d;rw[mF (!0)]at d;let(b,ζ,c0,x,ks,ζ,i,n,l):=d;show(m7nbO^qHQHs)
end
end A
namespace H
inductive Fp! QU0(n1n2:χ)QGp QAJ QAH QAR QA5:Prop
 |mk QRB QJR QJM (_:vs=[.tV (r:ω),.ο p]) QT8 (_:r<n1) (_:(∀x∈l,x<n2)) (_:l.β≤50) QPk (_:∀tH',mIHH'->BY .p H' (NIeYrl) t->Q QFRH')
instance HF:cZ:=o5 39
instance G7:cZ:=(nRHF).TC 3 QBU
instance aJ:cZ:=(nRHF).TC 4 QBU
instance q_te:bE:="then.<locals>.entered"
instance q_tg:bE:="then.<locals>.goals_of"
instance q_tl:bE:="then.<locals>.<lambda>"
instance JT:bI:=match (nRHF).TC 5 QBU with
 |.Return QH9 _=>l
 |_=>.Ip "" QAL
instance g_W:zR:=match JT with|.Xx a _ _ _=>a|_=>([],[],ε,[],[],ε,[])
instance g_V:bI:=match JT with|.Xx _ b _ _=>b|_=>.Ip "" QAL
instance yY:qA:=match JT with|.Xx _ _ s _=>s|_=>hYaJ
instance UW:nV:=match JT with|.Xx _ _ _ p=>p|_=>((0),(0),(0),(0))
abbrev sitesH!:γQDo:=[(IVG7,q_te,),(IVaJ,q_tg,),(UW,q_tl,)]
def da!:xV [y6,oM,"ahead"] [y6,oM] ["ahead"] QKe:=QAn
def qw!:xV ["state","goals","ahead","behind","entered"] ["state"] ["ahead","behind","entered"] QMk:=QAn
def fq!:xV ["state","behind"] ["state"] ["behind"] yY:=QAn
abbrev Two QAH(mm2:θ)QA6 QPW QHa:Prop:=tFHmL W1eY/\tFHm2LcEhV
section
variable{P:nA}{w:o4}{K:qI}{mg:bE->ψη}{υ:n3}{fcmm2g:θ}{cU:γQBH}{cR pm ctv:η}{L:lU}{W1cE:n0}{eYhV:γb9}
def OQ!(T:υ.Ξ f<*fnMade "entered" q_te (p'G7) (nRG7) QKecUcR pm c ctv)(v:υ.Vt QAX q_te)(C:rGυcUQKe ["ahead"] [.ο m])(z:oOL W1eY)(y:oOLcEhV)(X:cE.β≤8)(B:n4PwK mg υ "lot_of" 1 [oM] QT9):mTPwK mg υms 2 f (Δ.W.fnX "entered" q_te (p'G7) (nRG7) QKecU .ε .ε cR pm εQAX ctv) [y6,oM] QFn:=by
 show GP (fvs:=[.ο m]) Tζv da! CQAG (λAb7sHvsQ E Sh=>?_)
 .obtain ⟨r,p,l,ζ,_⟩:=h;rfl
 .obtain ⟨r,p,l,ζ,b5,k,hlW!,hl50!,U,q⟩:=h;show(_,(hF^k9^p0^m4QAD^m5B S^nG^BH! (qY^L6 (K8 2) QAD) (mZU1QAF^AV^nGmV) QAF),3);let(fU,mk,F,h1,h2,Y,h4,AF):=id U.1;let b:∀x∈inT eYrl,x<8:=λx R=>pP (U7 hlW! y.n1 x R) X;let rE:2≤Φ:=m6 (!0);unfold NI at q;show m7h1iO (m7Y (OO^UJ z.dW k) ?_);unfold inT at q b;cases I:eY.TC rν with
  |π=>
   rw[mGI]at q b;show(m6^by change 1≤16777216;decide,λda=>?_);let s2:=mI.mE (o:=.P' [.tV 0]) a;let N:=p5 (u:=.P' [.tV 0]) b5a;let M:_F.mE HdQJhd<*.P' [.tV 0]:=hJ;generalize _F.mE H d QJh=O at s2 N M;show(p,d,4,N,M,m6 (by rw[o8];change l.β+1≤16777216;show Gq! hl50!),λen=>?_);let D:=s2.ξ^mI.mE (o:=.P' QEH) n;let J:_F.mE OeQQye<*.P'^mJ (l++[0]):=by rw[hJ,mJ,mJ,pY];rfl
   generalize _F.mE O e QQy=bJ at D J;show(e,l++[0],0,pG.of J,b,λt Zij=>(rE,λst eZ=>q st _ (D.ξ^i.ξ QH8) QT_))
  |ν=>
   rw[mF^by rw[I];show b9.UF]at q b;show(p,l,0,pG.of b5,b,λt Zij=>(rE,λst eZ=>q st _ (i.ξ QH8) QT_))
def wH! QD8(eW:υ.Vt QAX q_tg)(C:rGυcUQMk ["ahead","behind","entered"] [.ο m,.ο m2,.ο g])(J:oOL W1eY)(ap:oOLcEhV)(N:mg "zip"=ε)(fM:n4PwK mg υ "lots_after" 1 [j4,oM] P8)QK7(dS:p6K fd [y6,oM] [])(R:mTPwK mg υms 2 g fd [y6,oM] QFn):mTPwK mg υms 3 fQDg ["state"] (OR .p LQOxQVw λH=>Two Hmm2L W1cEeYhV):=by
 show GP (fvs:=[.ο m,.ο m2,.ο g]) dIζeW qw! CQAGQAz
 .obtain ⟨k,v,ζ,_⟩:=h;rfl
 .obtain ⟨k,v,ζ,dO,JE,hM,q⟩:=h;let fJ:=cT.Hu (j:=1) (!0);show(_,(lW (m3 1 qw.eR^m5fMfJ^m4QAbQBB)^hF^k9^K3 ["state","goals","ahead","behind","entered"] ζ (!0) (VWζ N^m4QMnQAF)^λcl CbNs'H'=>(t7,JU (i:=6) RcTgEdSQCoQDK)),3);let(U,S,ζ,Y,hS,ab):=oy! JE;unfold pJ at dO;rw[mF (!0)]at dO;let(b,ζ,c0,x,ks,e0,cY,aA):=dO;cases e0;let dN:=J.lt.g6;let(al,eF):=hM;show m7cYfV (m2,c0,_,L,cE,hV,S,0,eF,ap,.P2 ζ,aA,n5 ab (!0),hS,λllsH1TeGeI as=>?_);let(fU,mk,B,h1,h2,h3,h4,AF):=id^al.Ki T;obtain⟨l7,X⟩:∃l7,B[U]?<*l7:=(B[U]'(by rw[h4];show Y),mO_);let(ws,e5,AA):=AF__X;let y:=J.row ws^v7e5;let dZ:W1.TC U []=ws:=by rw[pu,e5];rfl
  dsimp only[H3];show Oq! (d1:=.xJ l7) (d2:=.ls l) (λRh=>(m7h1fV^m7 (T__cY) bO^m7h2 (wR V.ο X) h)) AAeG (by rw[o8,j',eI];show y.1)
   (λDjysH'=>∃ts:γθ,vEQMl (ts.β=j) (∀QAuQCw,ts[i]?<*a->BY .p H' (VYW1eYcE (U::S) i) a)) (by rw[o8,y.1];show m6^n5dN (!0)) (λDdA=>([],5,λiae=>by simp at e)) ?_ ?_
  .intro DjxzysH'bJfTdAM hz r Ib5dk1;let(ts,ζ,n,F):=b5;let i':j<ws.β:=by have:=(m9M).1;rwa [o8]at this
   let Z:j<L.β:=by rw[<-y.1];show i'
   rw[xUi']at M;cases M;rw[na]at hz;let(a,eM,ζ):=r7 hz;let O:=T.ξ^r.ξ d;let l0:ws.TC j 0=pRW1Uj:=by unfold pR;rw[dZ]
   show(0,ws.TC j 0,a,gAcESj,0,(r.ξ d) __^as j a eM,by rw[l0];show BJJ Y Z,R8 ap hSZ,by rw[gA,j'];show n5 ab (!0),(al.Ki O,eF.Ki O),λtcMs4fP=>?_);rw[l0]at fP;let an:=s4__^d__ I;let up:∀QIzbxs,cMb<*.iT xs->_F.mE cMDob<*.iT xs:=λbxse=>E1e an (!5);show k1QFR_ an (mI.X6 (r.ξ^d.ξ s4) dA) (ts++[t],by rw[pY];rfl,by rw[o9,n];rfl,λiue=>?_);rcases EYe with z|⟨rfl,ζ⟩
   .exact ((Fiuz).Ki λbxse=>s4__^d__e).Ki up
   .rw [n];show fP.Ki up
  .intro DysH'dAr Ib5;let(ts,ζ,n,F):=b5;rw[o8,y.1]at n;show qDQF2H' (T.ξ r) (.P2 (HATdA,I)) (by rw[j',n]) λjx M=>?_;rw[na]at M;let(a,eM,ζ):=r7M;unfold pJ;rw[mF (!0)];show(a,0,FjaeM)
def kb!(r:υ.Ξ f<*kla_obj "<lambda>" q_tl g_W g_V yYcU pm c ctv)(d:υ.Vt QAX q_tl)(C:rGυcUyY ["behind"] [.ο m2])(j:oOLcEhV)(l:n4PwK mg υ "has_marked" 1 [j4,oM] sp_hasm!):mTPwK mg υms 2 f (kla_fn "<lambda>" q_tl g_W g_V yYcU pm QAX ctv) ["state"] (PS .p (Mx! hV) QVw λH=>Two Hmm2L W1cEeYhV):=by
 show PV (fvs:=[.ο m2]) rζd fq! CQAGQMm
 .obtain ⟨k,v,ζ,_⟩:=h;rfl
 .obtain ⟨k,v,ζ,a,u,z,q⟩:=h;show(_,(m5lo^m4QAFQBB),3);let(D,S,ζ,n,y,i):=oy! u;unfold pJ at a;rw[mF (!0)]at a;let(b,ζ,c0,x,ks,B,t,e):=a;cases B;show m7tfV (m2,c0,_,L,cE,hV,S,0,z.2,j,.P2 ζ,e,n5i (!0),y,q)
end
end H
instance A1:cZ:=o5 42
instance LP:cZ:=(nRA1).TC 1 QBU
instance LO:cZ:=(nRA1).TC 2 QBU
instance q_pg:bE:="paired.<locals>.goals_of"
instance q_pm:bE:="paired.<locals>.is_marked"
abbrev TZ:γQDo:=[(IVLP,q_pg,),(IVLO,q_pm,)]
def Vx!:xV ["pair",j4,"second"] ["pair"] [j4,"second"] QPI:=QAn
def Bg!:xV ["pair","is_wanted",j4,"second"] ["pair"] ["is_wanted",j4,"second"] QPJ:=QAn
abbrev Two QAH(mm2:θ)QA6 QPW QHa:Prop:=tFHmL W1eY/\tFHm2LcEhV
section
variable{P:nA}{w:o4}{K:qI}{mg:bE->ψη}{υ:n3}{fcmm2gf7:θ}{cU:γQBH}{cR pm ctv:η}{L:lU}{W1cE:n0}{eYhV:γb9}{rule:b9->b9->b9}
def qf!(dI:υ.Ξ f<*fnMade fY q_pg (p'LP) (nRLP) QPIcUcR pm c ctv)(S:υ.Vt QAX q_pg)(C:rGυcUQPI [j4,"second"] [.ο m,.ο m2])(J:oOL W1eY)(X:oOLcEhV)(u:mg "list"=ε)(z:mg "zip"=ε):mTPwK mg υms 1 f (Δ.W.fnX fY q_pg (p'LP) (nRLP) QPIcU .ε .ε cR pm εQAX ctv) ["pair"] (OR .t L (YSW1cE) QLQ λH=>Two Hmm2L W1cEeYhV):=by
 show GP (fvs:=[.ο m,.ο m2]) dIζ S Vx! CQAGQAz
 .obtain ⟨k,v,ζ,_⟩:=h;rfl
 .obtain ⟨k,v,ζ,N,JE,hM,q⟩:=h;show(_,(hF^k9^mB! ζζuζz^m4 (L6QMgQBB) QMn),3);let(a,b,ζ,eM,cY):=oz! JE;unfold pJ at N;rw[mF (!0)]at N;let(pp,ζ,O):=N;let(U,T):=hM;let(fU,mk,n,h1,h2,h3,h4,AF):=U;let(ab,eF,d,g1,g2,g3,AE,R4):=T;obtain⟨D,I⟩:∃D,n[a]?<*D:=(n[a]'(by rw[h4];show eM),mO_);obtain⟨M,p⟩:∃D,d[b]?<*D:=(d[b]'(by rw[AE];show cY),mO_);let(ws,e5,AA):=AF__ I;let(y,R1,hg!):=R4__p;let i:=J.row ws^v7e5;let o:=X.row y^v7R1;let al:=J.lt.g6;let r:H pp<*.iT [.tV (a:ω),.tV (b:ω)]:=O;show(m7h1fV^m7rbO (m7h2 (wR V.ο I) ?_));show(m7g1fV^m7rfV (m7g2 (wR V.ο p) ?_));show(D,M,1,AA,hg!,by rw[o8,o8,i.1,o.1],by rw[o8,i.1];lia,λltsbFBeRRjNeGfP=>?_);show qlQF2bFjN (.P2 (R,eG)) (by rw[j',B,o8];show i.1) λjx Z=>?_;rw[na]at Z;let(t,F,ζ):=r7Z;let i':j<L.β:=by have:=(m9F).1;rw[B,o8,i.1]at this;show this
  unfold pJ;rw[mF (!0)];let dZ:W1.TC a []=ws:=by rw[pu,e5];rfl
  let Y:cE.TC b []=y:=by rw[pu,R1];rfl
  show(t,0,3);let e:=fPjt__ F (xU^by rw[i.1];show i') (xU^by rw[o.1];show i');change _<*j7.iT^mJ [pRW1aj,pRcEbj];rw[e];unfold pR;rw[dZ,Y];rfl
def S_!(J:υ.Ξ f<*fnMade iN q_pm (p'LO) (nRLO) QPJcUcR pm c ctv)(n:υ.Vt QAX q_pm)(C:rGυcUQPJ ["is_wanted",j4,"second"] [.ο g,.ο m,.ο m2])(x:oOL W1eY)(u:oOLcEhV)(M:υ.Ξ g<*(uF,z5,.YN z,vU))(o:p6Kz ["one","two"] [])(R:mTPwK mg υms 1 gz ["one","two"]^TY rule):mTPwK mg υms 2 f (Δ.W.fnX iN q_pm (p'LO) (nRLO) QPJcU .ε .ε cR pm εQAX ctv) ["pair"] (PS .t (Ov! rule eYhV) QLQ λH=>Two Hmm2L W1cEeYhV):=by
 show GP (fvs:=[.ο g,.ο m,.ο m2]) Jζn Bg! CQAG (λAb7sHvsQ E Ih=>?_)
 .obtain ⟨k,v,ζ,_⟩:=h;rfl
 .obtain ⟨k,v,ζ,j,S,T,q⟩:=h;show(_,(hF^k9^JU (i:=1) R I MoQAF^m4QMn^L6 (K8 3) QBB),3);let(a,b,ζ,O,N):=oz! S;unfold pJ at j;rw[mF (!0)]at j;let(D,ζ,l):=j;let(r,p):=T;let(Z,mk,y,h1,h2,U,h4,AF):=r;let(B,F,e,Y,g2,X,AE,R4):=p;let d:HD<*.iT [.tV (a:ω),.tV (b:ω)]:=l;show(0,m7h1iO^m7dbO^m7U (OO^UJ x.dW O)^m7YiO^m7dfV^m7X (OO^UJ u.dW N) (1,qHQGf))
end
instance F0:cZ:=o5 35
instance Ks:bE:="either.<locals>.<lambda>"
instance Ws:bI:=match (nRF0).TC 0 QBU with
 |.Return QGg _=>l
 |_=>.Ip "" QAL
instance vl!:zR:=match Ws with|.Xx a _ _ _=>a|_=>([],[],ε,[],[],ε,[])
instance J_!:bI:=match Ws with|.Xx _ b _ _=>b|_=>.Ip "" QAL
instance x_either!:qA:=match Ws with|.Xx _ _ s _=>s|_=>hYA1
instance wo!:nV:=match Ws with|.Xx _ _ _ p=>p|_=>((0),(0),(0),(0))
abbrev X':γQDo:=[(wo!,Ks,)]
def sw!:xV ["one","two"] ["one","two"] [] x_either!:=QAn
def Bn!:n9 [j4,"second"] [j4,"second"]^hYF0:=nU
def Cw!(i:υ.Ξ f<*kla_obj "<lambda>" Ks vl! J_! x_either! d pm cg)(e:υ.Vt QAXKs)(C:rGυd x_either! [] []):mTPwK mg υms 1 f (kla_fn "<lambda>" Ks vl! J_! x_either! d pm QAXg) ["one","two"]^TYQO3:=by
 show PV (fvs:=[]) iζe sw! CQAGQFb
 .obtain ⟨a,b,ζ,_⟩:=h;rfl
 .obtain ⟨a,b,ζ,q⟩:=h;show(_,(cH! QAD^HTQAF),3);cases a with
  |π=>show(2,q)
  |ν=>show(2,q)
instance F1:cZ:=o5 36
instance U5:bE:="both.<locals>.<lambda>"
instance ZP:bI:=match (nRF1).TC 0 QBU with
 |.Return QGg _=>l
 |_=>.Ip "" QAL
instance yH!:zR:=match ZP with|.Xx a _ _ _=>a|_=>([],[],ε,[],[],ε,[])
instance yw!:bI:=match ZP with|.Xx _ b _ _=>b|_=>.Ip "" QAL
instance x_both!:qA:=match ZP with|.Xx _ _ s _=>s|_=>hYA1
instance mL!:nV:=match ZP with|.Xx _ _ _ p=>p|_=>((0),(0),(0),(0))
abbrev X2:γQDo:=[(mL!,U5,)]
def zn!:xV ["one","two"] ["one","two"] [] x_both!:=QAn
def zu!:n9 [j4,"second"] [j4,"second"]^hYF1:=nU
def Dj!(i:υ.Ξ f<*kla_obj "<lambda>" U5 yH! yw! x_both! d pm cg)(e:υ.Vt QAXU5)(C:rGυd x_both! [] []):mTPwK mg υms 1 f (kla_fn "<lambda>" U5 yH! yw! x_both! d pm QAXg) ["one","two"]^TYQO4:=by
 show PV (fvs:=[]) iζe zn! CQAGQFb
 .obtain ⟨a,b,ζ,_⟩:=h;rfl
 .obtain ⟨a,b,ζ,q⟩:=h;show(_,(D2QAD^HTQAF),3);cases a with
  |π=>show(2,q)
  |ν=>show(2,q)
instance F2:cZ:=o5 37
instance U4:bE:="less.<locals>.<lambda>"
instance ZO:bI:=match (nRF2).TC 0 QBU with
 |.Return QGg _=>l
 |_=>.Ip "" QAL
instance wd!:zR:=match ZO with|.Xx a _ _ _=>a|_=>([],[],ε,[],[],ε,[])
instance yu!:bI:=match ZO with|.Xx _ b _ _=>b|_=>.Ip "" QAL
instance x_less!:qA:=match ZO with|.Xx _ _ s _=>s|_=>hYA1
instance Ta!:nV:=match ZO with|.Xx _ _ _ p=>p|_=>((0),(0),(0),(0))
abbrev X4:γQDo:=[(Ta!,U4,)]
def zm!:xV ["one","two"] ["one","two"] [] x_less!:=QAn
def zr!:n9 [j4,"second"] [j4,"second"]^hYF2:=nU
def Bt!(i:υ.Ξ f<*kla_obj "<lambda>" U4 wd! yu! x_less! d pm cg)(e:υ.Vt QAXU4)(C:rGυd x_less! [] []):mTPwK mg υms 1 f (kla_fn "<lambda>" U4 wd! yu! x_less! d pm QAXg) ["one","two"]^TYQNi:=by
 show PV (fvs:=[]) iζe zm! CQAGQFb
 .obtain ⟨a,b,ζ,_⟩:=h;rfl
 .obtain ⟨a,b,ζ,q⟩:=h;show(_,(D2QAD^HT^RYQAF),3);cases a with
  |π=>show(2,(2,q))
  |ν=>show(2,q)
namespace H
def h_K!:n9 [j4,"second","ahead","behind","entered",fY] [j4,"second"]^hYHF:=nU
set_option maxHeartbeats 8000000 in
def Ye!{P:nA}QGa QC1 QB8 QHF(i1:(P1,sitesH!,)∈ts){uFkVcR pm ct b1 bi fM bd Ui4G9:η}(lk:K.ς f<*(uF,z5,.YN^q3 "then" "then" (p'HF) (nRHF) (hYHF) .ε kVcR pm an QAX ct,ev))(i8:t9KQAX "then"=π)(lw:K.ς uT<*(b1,cP,.YN^q3 "walked" "walked" QMhQMiQKbQLm bi fM bd an2 Ui4,osl2))(jJ:t9K U "walked"=π)QDX(g5:mg "walked"<*.ο uT)(lD:K.ς CM<*(G9,ey!,.Yv #[.ε] R9,lM))QC9(bS:mg "len"=ε)(aU:mg "zip"=ε)QJg QDj(O3:∀υ:n3,n4PwK mg υ "lots_after" 1 [j4,oM] P8)(O2:∀υ:n3,n4PwK mg υ "has_marked" 1 [j4,oM] sp_hasm!)(DT:∀υ:n3,n4PwK mg υ "lot_of" 1 [oM] QT9)(d2:n4PwK mg υ "need_same_letters" 1 [j4,"second"] sp_needsame72!)(Bs:n4PwK mg υ "least" 7 [j4] QKf)(d3:rPPwK mg υ "told" 4 [u'] QSn):mTPwK mg υQBi 8 f (q3 "then" "then" (p'HF) (nRHF) (hYHF) .ε kVcR pm an QAX ct) [j4,"second"]^C8 cTM tsaF:=by
 show OV lk i8 h_K! QAGQAz
 .obtain ⟨m,m2,L,W1,Z,eY,hV,ζ,_⟩:=h;rfl
 .obtain ⟨n1,n2,L,D_!,ee!,D1,rR,ζ,hN1!,hNa1!,cA,hNa2!,h18,h28,hA,qE,q⟩:=h;let iE:=hA_i0;let c7:=cT.Hu (j:=1) (!0);let c6:=cT.Hu (j:=2) (!0);let c5:=cT.Hu (j:=4) (!0);let c4:=cT.Hu (j:=5) (!0);show(_,(lW (rW^m5d2c7QDK)^lW (m3 2 h_K.eR^m5BscTQCu)^lW (m3 3 h_K.eR^m5BscTQEe)^lW (FU (i:=4) (bA:=q_te) (c:=c) (P0:=P1) (hN:=sitesH!) h_K.eR ζ (Or.P2 ζ) ζdJgF (!3) (!3))^lW (FU (i:=5) (bA:=q_tg) (c:=c) (P0:=P1) (hN:=sitesH!) h_K.eR ζQBxζdJgF (!3) (!3))^hF^k9^wUd3c5QAf^nG^JW (dvs:=[.vS]) ζg5 kw (T' (kV:=bi) (cR:=fM) (pm:=bd) (an:=an2) (bY:=U) (ct:=i4) lD) QD0 (rN (K8 2)^v5 (An! (i:=4) [y6,oM] QBj (m4mVQGR) QH7) QBt^PY (bA:=q_tl) (c:=c) (P0:=P1) (hN:=sitesH!) ζdJgF (!3) (!3)) QH7),3);show(n1,n2,L,D_!,D1,ee!,rR,0,hN1!,cA,3);show(n1,L,D_!,D1,0,hN1!,hNa1!,iE,λm W1eY Ha! sa! bm dTT=>?_);let kA:KTtsH Ha!:=KT.ofX eRi0 sa! iE bm;let LV:=kA.jN;show(n2,L,ee!,rR,0,cA.Xk LV.iT,hNa2!,bm,λm2ZhVH0AGkFkGS=>?_);let F:=T.mach;let J:=S.mach;let LY:W1.β≤8:=n5 T.eN h18;let dN:Z.β≤8:=n5 S.eN h28;let kB:KTts Ha! H0:=KT.ofX eRi0AG bm kF;let hT:tZH0P1 sitesH!:=kB.dE (kA.dE hA) _i1;let G8:=kB.jN;let dS:Two H0mm2L W1ZeYhV:=(dT.Xk G8.iT,kG);show(hT,λICc1H1a1a9YFY9s1 cr jE cd=>(cr,λaMY WbFbV ch YEY5s2bsjOk8=>?_));let b0:x8P1H0bF:=J1s1s2;let a0:=FZb0hT;let D:Two bFmm2L W1ZeYhV:=(dS.1.Xk a0,dS.2.Xk a0);let(fU,mk,l',h1,h2,h3,h4,AF):=id D.1;let(eq!,kT,_):=id cr;let(eP,ds,_):=id bs;let b2:∀QBGQCk,H1b<*.ext φ->b≠P1:=λ{bφ}ez=>by rw[z,kT]at e;cases e
  let IZ:∀QBGQCk,bFb<*.ext φ->b≠P1:=λ{bφ}ez=>by rw[z,ds]at e;cases e
  let as:bFC<*z'C "entered" q_te (p'G7) (nRG7) QKeIc1:=s2__ (b2 cd) cd;let a7:bFc1<*ol c1 q_te:=s2__ (b2jE) jE;show(m7h1bO (C,0,(7,7,7,_,as),pT_,λjW dd=>?_));let sE:mIbF^_F.mE bFjWQB3:=mI.mE dd;let eI:_F.mE bFjWQB3jW<*.P'^mJ []:=hJ;generalize _F.mE bF jW QB3=H2' at sE eI;let fJ:=sE__ as;let a6:=sE__a7;let eW:Two H2' mm2L W1ZeYhV:=(D.1.Ki sE,D.2.Ki sE);let co:∀u∈[C,c1],∃φ,H2' u<*.ext φ:=λuX=>by
   simp only[u3,i7,w7]at X;rcases X with ζ|rfl
   .exact (_,fJ)
   .exact (_,a6)
  show((7,7,7,_,fJ),[C,c1],co,λMbM=>?_);let(gJ,er!,lR,d1):=bM.ext C_ (!1) fJ;let d4:M.Vt QLn q_te:=bM.ext c1_ (!1) a6;let eK!:rGM IQKe ["ahead"] [.ο m]:=LGbMa1a9ζ λiyvlB=>by
   match i,l,B with
   |0,l,B=>cases l;cases B;show QK8
   |i+1,l,_=>simp at l
  let ap:∀QBGQIz,H2' b<*o->QCr->b∉[C,c1]:=λ{bo}edIO=>by
   let(φ,B):=co b O;rw[e]at B;show dIφ^ψ.δ.WZ B
  let aV:∀bxs,H2' b<*.iT xs->x4 [C,c1] H2' b<*.iT xs:=λbxse=>by rw[tT^ap eQAC];show e
  show((2),Fp! eY W1.β Z.β QK9,_,c6,.u7 λuseG=>by let(_,_,ζ):=MSeG;rfl,OQ! d1d4 eK! F JdN^DTM,(0),jW,[],ζ,by rw[tT^ap eIQAC];show eI,F.n1,!1,!1,(eW.1.Xk aV,eW.2.Xk aV),λst bPcOhUkE=>?_);let s3:mIbFQRl:=λboe=>by
   let e':=sE__e;by_cases O:b∈[C,c1]
   .rw [MRO];show e'
   .rw [DOO];show cObo (by rw[tTO];show e')
  let a2:BY .p QRlQK1 st:=hU.Ki λbxse=>by
   rw[DO λO=>?_]
   .exact e
   .rw [kEb O]at e;cases e
  generalize retr [C,c1] H2' bP=bJ at s3 a2;let i3:=GWbss3;show(i3,λi5f3c3NbUf7eOgRs4fR ce b6=>?_);let(eo!,Q0,lF,Y4):=id fR;let aN:∀QBGQCk,bFb<*.ext φ->Nb<*.ext φ:=λe=>s4__ (IZe)^s3__e;let a4:NC<*z'C "entered" q_te (p'G7) (nRG7) QKeIc1:=aN as;let a8:Nc1<*ol c1 q_te:=aNa7;let a3:N Y<*z'YfY q_tg (p'aJ) (nRaJ) QMkaMW:=aNk8;let a5:N W<*ol W q_tg:=aNjO;let al:=FZs4i3;let aA:Two Nmm2L W1ZeYhV:=((D.1.Ki s3).Xk al,(D.2.Ki s3).Xk al);let A9:BY .p NQK1 st:=a2.Ki al;let cl:∀u∈[C,Y,f3,c1,W,c3],∃φ,Nu<*.ext φ:=λuX=>by
   simp only[u3,i7,w7]at X;rcases X with ζ|rfl|rfl|rfl|rfl|rfl
   .exact (_,a4)
   .exact (_,a3)
   .exact (_,b6)
   .exact (_,a8)
   .exact (_,a5)
   .exact (_,ce)
  show([C,Y,f3,c1,W,c3],cl,λgnO=>?_);let(j2,lS,l4,bR):=nO.ext C_ (!1) a4;let(lG,kO,lJ,BZ):=nO.ext Y_ (!1) a3;let(es,l0,jT):=nO.ext f3_ (!1) b6;let d9:g.Vt QLn q_te:=nO.ext c1_ (!1) a8;let d6:g.Vt (.ο W) q_tg:=nO.ext W_ (!1) a5;let d5:g.Vt (.ο c3) q_tl:=nO.ext c3_ (!1) ce;let C1:rGg IQKe ["ahead"] [.ο m]:=LGnOa1a9ζ λiyvlB=>by
   match i,l,B with
   |0,l,B=>cases l;cases B;show QK8
   |i+1,l,_=>simp at l
  let C2:rGgaMQMk ["ahead","behind","entered"] [.ο m,.ο m2,.ο C]:=LGnObV ch ζ λiyvlB=>by
   match i,l,B with
   |0,l,B=>cases l;cases B;show QK8
   |1,l,B=>cases l;cases B;show(((3),5),5)
   |2,l,B=>cases l;cases B;show(((4),5),5)
   |i+3,l,_=>simp at l
  let w_!:rGgi5yY ["behind"] [.ο m2]:=LGnObUf7ζ λiyvlB=>by
   match i,l,B with
   |0,l,B=>cases l;cases B;show(((3),5),5)
   |i+1,l,_=>simp at l
  let I0:NRK "walked" "walked" AYuT_:=((b1,cP,.ο CM,bi,fM,bd,an2,U,i4,osl2,0,lw,jJ),kw);show((5),OScW .p L (VYW1eYZ) (Mx! hV) (Cs W1.β Z.β) QK9Yf3,c4,SYI0WTbSaU ((wH! BZd6C2F JaU (O3g) bR (.u7 λuseG=>by let(_,_,ζ):=MSeG;rfl)^OQ! bRd9C1F JdN^DTg).Hu (!0)) ((kb! jTd5 w_! J^O2g).Hu (!0)) BZ (_,0) jT (_,0) (.u7 λuseG=>by let(_,ζ):=DUeG;rfl) (.u7 λuseG=>by let(_,ζ):=DUeG;rfl) QJ9,3);let i6:∀QBGQIz,Nb<*o->QCr->b∉[C,Y,f3,c1,W,c3]:=λ{bo}edIO=>by
   let(φ,B):=cl b O;rw[e]at B;show dIφ^ψ.δ.WZ B
  let eF:∀bxs,Nb<*.iT xs->x4 [C,Y,f3,c1,W,c3] Nb<*.iT xs:=λbxse=>by rw[tT^i6eQAC];show e
  let aT:=dB! (n1:=W1.β) Z.β LY;show(NIeY 0 [],.ο st,ε,0,F.lt,3,nz! dN J.n1 F.n1 (!1),Rj! F JdN,n5aT (!0),(aA.1.Xk eF,aA.2.Xk eF),λdYtbGybTkskUwsqPR Bm d8C'hWfPj0 cX d7b4c8g7 ab dWcVhG le he kS=>?_)
  .unfold pJ;rw[mF (!0)];show(st,0,A9.Ki eF)
  let hR:R.β=ks.β:=by
   rcases he with z|⟨n,z,_⟩
   .exact z
   .cases z
  let gT:∀QBGQIz,d8b<*o->retr [C,Y,f3,c1,W,c3] Nd8b<*o:=λ{bo}e=>by
   rw[DO λO=>?_]
   .exact e
   .rw [kSb O]at e;cases e
  let d0:∀QBGQIz,Nb<*o->retr [C,Y,f3,c1,W,c3] Nd8b<*o:=λ{bo}e=>by
   by_cases O:b∈[C,Y,f3,c1,W,c3]
   .rw [MRO];show e
   .exact gT (C'bo^by rw[tTO];show e)
  rw[hR]at g7;let(dx,dZ):=hW.ex;let M':KTtsH^retr [C,Y,f3,c1,W,c3] Nd8:=(kA.ξ^kB.ξ^(KT.ofX eRi1b0hTbs).ξ^(KT.of s3).ξ^KT.ofX eRi1s4i3fR).ξ (KT.of λboe=>d0e);let aS:=J7 (Bm:=Bm) F.lt g7 ab hRdW^n5 le^n5aT (!0);let b3:pEL R Bm=aF (pEL D_! D1)^pEL ee! rR:=RQ! λuX=>by
   unfold AC aa!;dsimp only;rw[J8g7 ab hRdWcVX,vm! F JdNX];constructor
   .rintro⟨x,v,ζ,l,B⟩;show(x,v,0,by rw[<-T.takes hNa1! λce8=>Xc^by simp[e8]];show l,by rw[<-S.takes hNa2! λce8=>Xc^by simp[e8]];show B)
   .rintro⟨x,v,ζ,l,B⟩;show(x,v,0,by rw[T.takes hNa1! λce8=>Xc^by simp[e8]];show l,by rw[S.takes hNa2! λce8=>Xc^by simp[e8]];show B)
  show(dY,t,bG,y,bT,qP,L,R,Bm,ws,0,QKd,gTd7,(b4.1,λiarlB=>gT^b4.2 iarlB),gTc8,gT cX,by rw[hR];show g7.eN.UH,aS,λivdO=>lm g7 ab hRaSdO,λdH's'H6=>qEdH'QEI (b3▸H6),λNOkdRe7 hm cIkRi9 hf jV=>?_);show qdR__e7QJi (jV,OT hm aS,SOkR)^(TV hm aScI).ξ b3
end H
namespace A
def h_o!:n9 [j4,"piece","entered",fY] [j4]^hYH8:=nU
def Fb!{P:nA}QGa QC1 QB8 QHF(i1:(P1,sitesA!,)∈ts){uFkVcR pm ct a5aMSdNIaUb1:η}(lk:K.ς f<*(uF,z5,.YN^q3 "again" "again" (p'H8) (nRH8) (hYH8) .ε kVcR pm an QAX ct,kS))(co:t9KQAX "again"=π)(lw:K.ς uT<*(a5,b0,.YN^q3 "walked" "walked" QMhQMiQKbQLmaMSdN an2 IaU,osl2))(jJ:t9K I "walked"=π)QDX(g5:mg "walked"<*.ο uT)(lD:K.ς CM<*(b1,kE,.Yv #[.ε] R9,c8))QC9(a0:mg "len"=ε)(aV:mg "zip"=ε)QJg QDj(O3:∀υ:n3,n4PwK mg υ "lots_after" 1 [j4,oM] P8)(O2:∀υ:n3,n4PwK mg υ "has_marked" 1 [j4,oM] sp_hasm!)(DT:∀υ:n3,n4PwK mg υ "lot_of" 1 [oM] QT9)(C':n4PwK mg υ "least" 7 [j4] QKf)(G8:rPPwK mg υ "told" 4 [u'] QSn):mTPwK mg υQBi 8 f (q3 "again" "again" (p'H8) (nRH8) (hYH8) .ε kVcR pm an QAX ct) [j4] (V1 cTM ts λ_=>vT):=by
 show OV lk co h_o! QAGQAz
 .obtain ⟨m,L,W,B,ζ,_⟩:=h;rfl
 .obtain ⟨m0,L,pe!,p_!,ζ,hM0!,eW,hW8,hA,qE,q⟩:=h;let i4:=hA_i0;let ce:=cT.Hu (j:=4) (!0);let cd:=cT.Hu (j:=5) (!0);show(_,(lW (m3 1 h_o.eR^m5C'cTQCu)^lW (FU (i:=2) (bA:=q_ae) (c:=c) (P0:=P1) (hN:=sitesA!) h_o.eR ζ (Or.P2 ζ) ζdJgF (!3) (!3))^lW (FU (i:=3) (bA:=q_ag) (c:=c) (P0:=P1) (hN:=sitesA!) h_o.eR ζQBxζdJgF (!3) (!3))^hF^k9^wUG8 ce QAf^nG^JW (dvs:=[.vS]) ζg5 kw (T' (kV:=aM) (cR:=S) (pm:=dN) (an:=an2) (bY:=I) (ct:=aU) lD) QD0 (rNQMg^v5 (p0^m4CR^p0^nGmV) QAb^PY (bA:=q_al) (c:=c) (P0:=P1) (hN:=sitesA!) ζdJgF (!3) (!3)) QH7),3);show(m0,L,pe!,p_!,0,hM0!,eW,i4,λm WBH0s0bshMaT=>?_);let C:=aT.mach;let h8:W.β≤8:=n5 aT.eN hW8;let kA:KTtsHH0:=KT.ofX eRi0s0i4bs;let hT:tZH0P1 sitesA!:=kA.dE hA_i1;show(hT,λU Nc1H1a3 bi d1kTs1i3 cr cl=>(i3,λT M JbFa2i6d0dss2aSfR ch=>?_));let a4:x8P1H0bF:=J1s1s2;let i5:tFbFmL WB:=hM.Xk^FZa4hT;let(fU,mk,IZ,h1,h2,h3,h4,AF):=id i5;show(m7h1bO (m6^by change 1≤16777216;decide,λVJA9=>(m6^by change 2≤16777216;decide,λst eZ=>?_)));let s3:mIbFQEV:=(mI.mE A9).ξ QH8;let al:BY .q QEV [1,0] st:=(VJ,(1),[0],0,nZ_,hJ,p5hJeZ);generalize _F.mE (_F.mE bFVJ^.iT [.tV 0]) st (.iT [.dW π,.ο VJ])=bJ at s3 al;let aN:=GWaSs3;show(aN,λLVX Ypa1 bd LYkFs4 bm qPa9=>?_);let(dd,BZ,_):=id i3;let(k8,jT,_):=id aS;let(kR,dT,kG,iE):=id bm;let b3:∀QBGQCk,H1b<*.ext φ->b≠P1:=λ{bφ}ez=>by rw[z,BZ]at e;cases e
  let b2:∀QBGQCk,bFb<*.ext φ->b≠P1:=λ{bφ}ez=>by rw[z,jT]at e;cases e
  let aA:∀QBGQCk,bFb<*.ext φ->pb<*.ext φ:=λe=>s4__ (b2e)^s3__e;let up1!:∀QBGQCk,H1b<*.ext φ->pb<*.ext φ:=λe=>aA^s2__ (b3e) e;let fJ:p N<*z'N "entered" q_ae (p'LR) (nRLR) QPGUc1:=up1! cl;let eI:pc1<*ol c1 q_ae:=up1! cr;let ap:p M<*z'MfY q_ag (p'IU) (nRIU) QPHT J:=aA ch;let as:p J<*ol J q_ag:=aAfR;let eF:=FZs4aN;let Bs:tFpmL WB:=(i5.Ki s3).Xk eF;let a8:BY .q p [1,0] st:=al.Ki eF;let hU:∀u∈[N,M,X,c1,J,Y],∃φ,p u<*.ext φ:=λuhO=>by
   simp only[u3,i7,w7]at hO;rcases hO with ζ|rfl|rfl|rfl|rfl|rfl
   .exact (_,fJ)
   .exact (_,ap)
   .exact (_,a9)
   .exact (_,eI)
   .exact (_,as)
   .exact (_,qP)
  show([N,M,X,c1,J,Y],hU,λgnO=>?_);let(cX,Y4,c6,bS):=nO.ext N_ (!1) fJ;let(cV,jO,c5,bP):=nO.ext M_ (!1) ap;let(i8,c4,bM):=nO.ext X_ (!1) a9;let G9:g.Vt QLn q_ae:=nO.ext c1_ (!1) eI;let cP:g.Vt (.ο J) q_ag:=nO.ext J_ (!1) as;let cO:g.Vt (.ο Y) q_al:=nO.ext Y_ (!1) qP;let C1:rGg UQPG ["piece"] [.ο m]:=LGnOa3 bi ζ λiyvD F=>by
   match i,D,F with
   |0,D,F=>cases D;cases F;show QPK
   |i+1,D,_=>simp at D
  let C2:rGg TQPH ["entered","piece"] [.ο N,.ο m]:=LGnOa2i6ζ λiyvD F=>by
   match i,D,F with
   |0,D,F=>cases D;cases F;show QK8
   |1,D,F=>cases D;cases F;show QPK
   |i+2,D,_=>simp at D
  let w_!:=Tu.Fi (sc:=yY) nOa1 bd;let I0:NRK "walked" "walked" AYuT_:=((a5,b0,.ο CM,aM,S,dN,an2,I,aU,osl2,0,lw,jJ),kw);show((5),OScW .q LQTy Mw! (ER W.β) QSmMX,cd,SYI0WTa0aV ((ZB! bPcPC2Ch8 (O3g) bS (.u7 λuseG=>by let(_,ζ):=DUeG;rfl)^nd! bSG9C1Ch8 (O2g)^DTg).Hu (!0)) ((EK! bMcO w_! __).Hu (!0)) bP (_,0) bM (_,0) (.u7 λuseG=>by let(_,ζ):=DUeG;rfl) (.u7 λuseG=>by let(_,ζ):=DUeG;rfl) QIs,3);let fM:∀QBGQIz,pb<*o->QCr->b∉[N,M,X,c1,J,Y]:=λ{bo}edIcY=>by
   let(φ,F):=hUbcY;rw[e]at F;show dIφ^ψ.δ.WZ F
  let ab:∀bxs,pb<*.iT xs->x4 [N,M,X,c1,J,Y] pb<*.iT xs:=λbxse=>by rw[tT^fMeQAC];show e
  show([1,0],.ο st,ε,0,C.lt,3,cx! (l:=[0]) (!1) QBF (λxc9=>by rw[o6c9];show C.n1),dr! Ch8,n5 (qk! _) (!0),Bs.Xk ab,λdYtbGybTksc7wsdSR Bm d8bVhWfPjVb6d7a7jEg7OdWb4hG le he cA=>?_)
  .unfold pJ;rw[mF (!0)];show(st,0,a8.Ki ab)
  let hR:R.β=ks.β:=by
   rcases he with z|⟨n,z,_⟩
   .exact z
   .cases z
  let gT:∀QBGQIz,d8b<*o->retr [N,M,X,c1,J,Y] pd8b<*o:=λ{bo}e=>by
   rw[DO λcY=>?_]
   .exact e
   .rw [cAbcY]at e;cases e
  let cI:∀QBGQIz,pb<*o->retr [N,M,X,c1,J,Y] pd8b<*o:=λ{bo}e=>by
   by_cases cY:b∈[N,M,X,c1,J,Y]
   .rw [MRcY];show e
   .exact gT (bVbo^by rw[tTcY];show e)
  rw[hR]at g7;let(dx,dZ):=hW.ex;let M':KTtsH^retr [N,M,X,c1,J,Y] pd8:=(kA.ξ^(KT.ofX eRi1a4hTaS).ξ^(KT.of s3).ξ^KT.ofX eRi1s4aN bm).ξ (KT.of λboe=>cIe);let Z:=J7 (Bm:=Bm) C.lt g7OhRdW^n5 le^n5 (qk! _) (!0);let a6:pEL R Bm=vT^pEL pe! p_!:=xg! λuhO=>by
   unfold AC;rw[J8g7OhRdWb4hO,yC! Ch8hO];let j8:∀v:lU,QVo->B.TC (n6L W 0 v) ν=p_.TC (n6L pe! 0 v) ν:=λvdO=>aT.takes eW λce8=>hOc^dOce8;show(λz=>z.congr j8,λz=>z.congr λvdO=>(j8vdO).UH)
  show(dY,t,bG,y,bT,dS,L,R,Bm,ws,0,QKd,gTd7,(a7.1,λiarD F=>gT^a7.2 iarD F),gTjE,gTb6,by rw[hR];show g7.eN.UH,Z,λivdO=>lm g7OhRZdO,λdH's'H6=>qEdH'QEI (a6▸H6),λNOkdRe7 hm bUf7i9 hf bR=>?_);show qdR__e7QJi (bR,OT hm Z,SOf7)^(TV hm ZbU).ξ a6
end A
inductive Kt! QLB QBg QAw QAy(cTM:θ)QCi QAJ QAH QAR QE4:Prop
 |mk (mm2gf7:θ) QA6 QPW QHa QHS QNk (_:vs=[.ο m,.ο m2,.ο g]) QU5 (_:oOL W1eY) QJD (_:oOLcEhV) (_:W1.β≤8) (_:cE.β≤8) (_:QU PwK mg Hgf7 rule) QEM (_:(∀QDuQAt,(∀u:lU,QA_->(AC L WBu=π↔U3 rule QDIQHpu))->pEL WB=S)) (_:(∀dH',KTtsHH'->P9H'd .vS L S->EQJbQF8H')) (_:∀QFO(dU:n0)QNwQBe,KTtsHH'->xZH'fLdUvW->pELdUvW=S->Q QArH')
def h_M!:n9 [j4,"second","is_wanted",fY,iN] [j4,"second","is_wanted"]^hYA1:=nU
set_option maxHeartbeats 8000000 in
def tu!{P:nA}QGa QC1 QB8(i1:(P1,TZ,)∈ts){uFkVcR pm ct a1aNTfMCaSb1:η}(lk:K.ς f<*(uF,z5,.YN^q3 "paired" "paired" (p'A1) (nRA1) (hYA1) .ε kVcR pm an QAX ct,i8))(jE:t9KQAX "paired"=π)(lw:K.ς uT<*(a1,b0,.YN^q3 "walked" "walked" QMhQMiQKbQLmaNTfM an2 CaS,osl2))(jJ:t9KC "walked"=π)QDX(g5:mg "walked"<*.ο uT)(lD:K.ς CM<*(b1,jO,.Yv #[.ε] R9,c6))QC9(aT:mg "len"=ε)(eF:mg "zip"=ε)(dS:mg "list"=ε)QJg QDj(cI:n4PwK mg υ "need_same_letters" 1 [j4,"second"] sp_needsame72!)(C':rPPwK mg υ "told" 4 [u'] QSn):mTPwK mg υQBi 6 f (q3 "paired" "paired" (p'A1) (nRA1) (hYA1) .ε kVcR pm an QAX ct) [j4,"second","is_wanted"] QE_:=by
 show OV lk jE h_M! QAGQAz
 .obtain ⟨m,m2,g,J,L,W1,cE,eY,hV,rule,S,ζ,_⟩:=h;rfl
 .obtain ⟨m,m2,g,J,L,W1,cE,eY,hV,rule,S,ζ,bs,D,i3,ab,h18,h28,hRu!,hA,hS,qE,q⟩:=h;let hT:=hA_i1;let A9:=cT.Hu (j:=1) (!0);let b4:=cT.Hu (j:=4) (!0);show(_,(lW (rW^m5cIA9QDK)^lW (FU (i:=3) (bA:=q_pg) (c:=c) (P0:=P1) (hN:=TZ) h_M.eR ζQBxζdJgF (!3) (!3))^lW (FU (i:=4) (bA:=q_pm) (c:=c) (P0:=P1) (hN:=TZ) h_M.eR ζQBxζdJgF (!3) (!3))^hF^k9^wUC'b4QAf^nG^JW (dvs:=[.vS]) ζg5 kw (T' (kV:=aN) (cR:=T) (pm:=fM) (an:=an2) (bY:=C) (ct:=aS) lD) QD0 (rNQBB^v5 (p0^m4mVmV) QAbQBj) QH7),3);show(m,m2,L,W1,eY,cE,hV,0,bs,i3,3);show(hT,λW Fc1H1aVi6jVkSs1 bm qPa8=>(bm,λU IX YaU bd kTY4s2hUa9 ce=>?_));let O:x8P1H Y:=J1s1s2;let i4:tFYmL W1eY:=bs.Xk^FZOhT;let BZ:tFYm2LcEhV:=i3.Xk^FZOhT;let(kR,fR,_):=id hT;let(c8,co,_):=id bm;let(bA,bS,c4,sc,c3,a7,eI,iE,cA):=hRu.ex;let nP:∀QBGQCk,H1b<*.ext φ->b≠P1:=λ{bφ}ez=>by rw[z,co]at e;cases e
  let a2:∀QBGQCk,Hb<*.ext φ->b≠P1:=λ{bφ}ez=>by rw[z,fR]at e;cases e
  let a6:=Og_ (a2a7) a7;let as:=O J_ (a2eI) eI;let fJ:Y F<*z'FfY q_pg (p'LP) (nRLP) QPIWc1:=s2F_ (nPa8) a8;let eW:Yc1<*ol c1 q_pg:=s2c1_ (nPqP) qP;let ap:Y I<*z'IiN q_pm (p'LO) (nRLO) QPJUX:=ce;let(fU,mk,cP,h1,h2,h3,h4,AF):=id i4;show(m7h1bO (m6^by change 2≤16777216;decide,λst eZ=>?_));let B:mIY^_F.mE Y st QIt:=mI.mE eZ;let al:_F.mE Y st QIt st<*.iT^mJ [0,0]:=hJ;generalize _F.mE Y st QIt=bJ at B al;let bR:=i4.Ki B;let jT:=BZ.Ki B;let(c7,ds,kF,ch):=GWhUB;let bi:∀u∈[F,I,c1,X,g,J],∃φ,bJu<*.ext φ:=λuhO=>by
   simp only[u3,i7,w7]at hO;rcases hO with ζ|rfl|rfl|rfl|rfl|rfl
   .exact (_,B__fJ)
   .exact (_,B__ ap)
   .exact (_,B__eW)
   .exact (_,B__a9)
   .exact (_,B__a6)
   .exact (_,B__ as)
  show([F,I,c1,X,g,J],bi,λlnO=>?_);let(IZ,dd,cX,bP):=nO.ext F_ (!1)^B__fJ;let(G9,k8,cV,bM):=nO.ext I_ (!1)^B__ ap;let(a0,aA,i5):=nO.ext g_ (!1)^B__a6;let cO:l.Vt QLn q_pg:=nO.ext c1_ (!1)^B__eW;let LV:l.Vt (.ο X) q_pm:=nO.ext X_ (!1)^B__a9;let G8:l.Vt (.ο J) bA:=nO.ext J_ (!1) (B__ as);let C1:rGl WQPI [j4,"second"] [.ο m,.ο m2]:=LGnOaVi6ζ λiyvpx=>by
   match i,p,x with
   |0,p,x=>cases p;cases x;show(((0),5),5)
   |1,p,x=>cases p;cases x;show QPK
   |i+2,p,_=>simp at p
  let C2:rGl UQPJ ["is_wanted",j4,"second"] [.ο g,.ο m,.ο m2]:=LGnOaU bd ζ λiyvpx=>by
   match i,p,x with
   |0,p,x=>cases p;cases x;show QK8
   |1,p,x=>cases p;cases x;show(((0),5),5)
   |2,p,x=>cases p;cases x;show QPK
   |i+3,p,_=>simp at p
  let I0:NRK "walked" "walked" AYuT_:=((a1,b0,.ο CM,aN,T,fM,an2,C,aS,osl2,0,lw,jJ),kw);show((5),OScW .t L (YSW1cE) (Ov! rule eYhV) QLQ (λH=>Two Hmm2L W1cEeYhV) F I,cT,SYI0WTaTeF ((qf! bPcOC1D ab dSeF).Hu (!0)) ((S_! bMLVC2D ab i5 (cAa0aA)^iEla0aAi5G8).Hu (!0)) bP (_,0) bM (_,0) (.u7 λuseG=>by let(_,ζ):=DUeG;rfl) (.u7 λuseG=>by let(_,ζ):=DUeG;rfl) QJ9,3);let aM:∀QBGQIz,bJb<*o->QCr->b∉[F,I,c1,X,g,J]:=λ{bo}edIcY=>by
   let(φ,x):=bi bcY;rw[e]at x;show dIφ^ψ.δ.WZ x
  let N:∀bxs,bJb<*.iT xs->x4 [F,I,c1,X,g,J] bJb<*.iT xs:=λbxse=>by rw[tT^aMeQAC];show e
  show([0,0],.ο st,ε,0,D.lt,3,Y_! D.n1 ab.n1,QT D ab,n5 (Ow! h18 h28) (!0),(bR.Xk N,jT.Xk N),λdYtbGybTksc5wsdNR Bm d8bVhWfPkEb3d7a5b6g7MdWb2hG le he cl=>?_)
  .unfold pJ;rw[mF (!0)];show(st,0,N__ al)
  let hR:R.β=ks.β:=by
   rcases he with z|⟨n,z,_⟩
   .exact z
   .cases z
  let gT:∀QBGQIz,d8b<*o->retr [F,I,c1,X,g,J] bJd8b<*o:=λ{bo}e=>by
   rw[DO λcY=>?_]
   .exact e
   .rw [cl bcY]at e;cases e
  let Bs:∀QBGQIz,bJb<*o->retr [F,I,c1,X,g,J] bJd8b<*o:=λ{bo}e=>by
   by_cases cY:b∈[F,I,c1,X,g,J]
   .rw [MRcY];show e
   .exact gT (bVbo^by rw[tTcY];show e)
  rw[hR]at g7;let(dx,dZ):=hW.ex;let M':KTtsH^retr [F,I,c1,X,g,J] bJd8:=(KT.ofX eRi1OhThU).ξ (KT.of λboe=>Bs^B__e);let a3:=n5 le^Ow! h18 h28;let Z:=J7 (Bm:=Bm) D.lt g7MhRdW^n5a3 (!0);let a4:pEL R Bm=S:=hS__ λuhO=>by
   unfold AC U3;rw[J8g7MhRdWb2hO,Ox!];rfl
  show(dY,t,bG,y,bT,dN,L,R,Bm,ws,0,QKd,gTd7,(a5.1,λiarpx=>gT^a5.2 iarpx),gTb6,gTb3,by rw[hR];show g7.eN.UH,Z,λivdO=>lm g7MhRZdO,λdH's'H6=>qEdH'QEI (a4▸H6),λNOkdRe7 hm bU cd i9 hf cr=>?_);show qdR__e7QJi (cr,OT hm Z,SO cd)^(TV hm ZbU).ξ a4
set_option maxHeartbeats 8000000 in
def Cr!{P:nA}QHI(i1:(kZ,X',)∈ts)QKC(lk:K.ς f<*(T,z5,.YN^q3 "either" "either" (p'F0) (nRF0) (hYF0) .ε kVcR pm an QAX ct,S))(o:t9KQAX "either"=π)QRF QDj(x:rPPwK mg υ "paired" 6 [j4,"second","is_wanted"] QE_):mTPwK mg υQBi 7 f (q3 "either" "either" (p'F0) (nRF0) (hYF0) .ε kVcR pm an QAX ct) [j4,"second"]^C8 cTM tsIA:=by
 show OV lk o Bn! QAGQFc
 .obtain ⟨m,m2,L,J,I,N,M,ζ,_⟩:=h;rfl
 .obtain ⟨m,m2,L,J,I,N,M,ζ,t,v,r,u,h18,h28,F,R,q⟩:=h;let j:=F_i1;show(_,(hF^k9^wUx WQAf^v5QADQAF^PY (bA:=Ks) (c:=c) (P0:=kZ) (hN:=X') ζ ZgF (!3) (!3)),3);show QDY;let kA:KTtsHH1:=KT.ofX Ui1Ojp;let D:=kA.jN;let l:∀y,i.ς y=ε:=λy=>by
   cases e:i.ς y with
   |ε=>rfl
   |δ a=>show nomatch (show(ε:ψθ)<*a from hGyae)
  show(m,m2,g,f7,L,J,I,N,M,QO3,2,t.Xk D.iT,v,r.Xk D.iT,u,h18,h28,(7,7,i,Y,n,λC pm BgJ cd=>Cw! gJ cd QSo,λpm B=>.u7 λusX=>by let(_,_,ζ):=MSX;rfl),kA.dE F,λ__=>pd!,λdH'k=>RdH'QJj,λdRdUvWH'k=>qdRdUvWH'QJj)
set_option maxHeartbeats 8000000 in
def CH!{P:nA}QHI(i1:(kZ,X2,)∈ts)QKC(lk:K.ς f<*(T,z5,.YN^q3 "both" "both" (p'F1) (nRF1) (hYF1) .ε kVcR pm an QAX ct,S))(o:t9KQAX "both"=π)QRF QDj(x:rPPwK mg υ "paired" 6 [j4,"second","is_wanted"] QE_):mTPwK mg υQBi 7 f (q3 "both" "both" (p'F1) (nRF1) (hYF1) .ε kVcR pm an QAX ct) [j4,"second"]^C8 cTM tsRO:=by
 show OV lk o zu! QAGQFc
 .obtain ⟨m,m2,L,J,I,N,M,ζ,_⟩:=h;rfl
 .obtain ⟨m,m2,L,J,I,N,M,ζ,t,v,r,u,h18,h28,F,R,q⟩:=h;let j:=F_i1;show(_,(hF^k9^wUx WQAf^v5QADQAF^PY (bA:=U5) (c:=c) (P0:=kZ) (hN:=X2) ζ ZgF (!3) (!3)),3);show QDY;let kA:KTtsHH1:=KT.ofX Ui1Ojp;let D:=kA.jN;let l:∀y,i.ς y=ε:=λy=>by
   cases e:i.ς y with
   |ε=>rfl
   |δ a=>show nomatch (show(ε:ψθ)<*a from hGyae)
  show(m,m2,g,f7,L,J,I,N,M,QO4,2,t.Xk D.iT,v,r.Xk D.iT,u,h18,h28,(7,7,i,Y,n,λC pm BgJ cd=>Dj! gJ cd QSo,λpm B=>.u7 λusX=>by let(_,_,ζ):=MSX;rfl),kA.dE F,λ__=>RX!,λdH'k=>RdH'QJj,λdRdUvWH'k=>qdRdUvWH'QJj)
set_option maxHeartbeats 8000000 in
def fb!{P:nA}QHI(i1:(kZ,X4,)∈ts)QKC(lk:K.ς f<*(T,z5,.YN^q3 "less" "less" (p'F2) (nRF2) (hYF2) .ε kVcR pm an QAX ct,S))(o:t9KQAX "less"=π)QRF QDj(x:rPPwK mg υ "paired" 6 [j4,"second","is_wanted"] QE_):mTPwK mg υQBi 7 f (q3 "less" "less" (p'F2) (nRF2) (hYF2) .ε kVcR pm an QAX ct) [j4,"second"]^C8 cTM tsN5:=by
 show OV lk o zr! QAGQFc
 .obtain ⟨m,m2,L,J,I,N,M,ζ,_⟩:=h;rfl
 .obtain ⟨m,m2,L,J,I,N,M,ζ,t,v,r,u,h18,h28,F,R,q⟩:=h;let j:=F_i1;show(_,(hF^k9^wUx WQAf^v5QADQAF^PY (bA:=U4) (c:=c) (P0:=kZ) (hN:=X4) ζ ZgF (!3) (!3)),3);show QDY;let kA:KTtsHH1:=KT.ofX Ui1Ojp;let D:=kA.jN;let l:∀y,i.ς y=ε:=λy=>by
   cases e:i.ς y with
   |ε=>rfl
   |δ a=>show nomatch (show(ε:ψθ)<*a from hGyae)
  show(m,m2,g,f7,L,J,I,N,M,QNi,2,t.Xk D.iT,v,r.Xk D.iT,u,h18,h28,(7,7,i,Y,n,λC pm BgJ cd=>Bt! gJ cd QSo,λpm B=>.u7 λusX=>by let(_,_,ζ):=MSX;rfl),kA.dE F,λ__=>TH!,λdH'k=>RdH'QJj,λdRdUvWH'k=>qdRdUvWH'QJj)
section
variable{P:nA}{w:o4}{K:qI}{mg:bE->ψη}{υ:n3}{P0vIcW:θ}{ts:γQAV}{jI:γ (θ×θ)}{cs:γθ}{c:xE->θ}{cP:θ}{bRd1d2d3:θ}
def f_r!:n9 ["values","numbers","value"] ["values"]^hY VK!:=nU
def mH!(F:nEK "numbered" "numbered" VK! f fd)QAE:mTPwK mg υms 1 f fd ["values"] sp_numbered!:=by
 show F.okA f_r! ?_;rintro _ _ _ _ H _ _ _ Q⟨a,o,xs,ks,eS,ζ,X,U,M,l,hZ,q⟩;show(_,(lW (m3 1 f_r.eR^zL!)^lW (t6 U_.X5 ζ (wVQAD) (z0 2 f_r.eR)^hF^mS (q7 (sX! Q.Wb) QAOQAFQAN) (hF^GG (wW En! (!4) T.eN boot_len! QEe)^XB! QAFQAO^hr! Q.Wb)^m8)^hF^k9^x9 ["values","numbers","?"] ζ (!0) (wVQAD)^λcl CbNs'H'=>(t7,mM (uf! Pw Q.Wb) QAOQADQAQ)),3);let hz:xs.β≤Φ:=m6 (by rw[M];show n5l (!0));let e:∀QEg{x:V},xs[i]?<*x->∃k,ks[i]?=δk/\NPHkx/\W2k=eS:=λ{ix}v=>by
  let Y:i<ks.β:=by rw[<-M];show(m9v).1
  show(ks[i],mOY,hZi_x (mOY) v)
 show(if eS=π then .eS else .dW,λd E=>?_);show(a,o,xs,0,X,p5U E,λJ N=>KPN (λimH'=>E2 λLr=>vE (m=[δQAe,δQDC,L]) (H'=_F.mE Hdr)^NVPwH'deSQJk) (ε,2,0,NV.new PwHdeS) ?_ ?_ ?_)
 .rintro i m H'⟨L,r,ζ,ζ,_⟩;show p5U E
 .rintro i x m H' v⟨L,r,ζ,ζ,s⟩;let(k,h,t,n):=e v;let p:NP (_F.mE Hdr) kx:=t.Zx λbysz=>p5z E;show(d,2,s.get pn,3);by_cases y:k∈pAQJk
  .rw [show(!(JsQJkk).BC)=ν by rw[Js,mGy];rfl];show(4,3);rw[uWh];show s.Ki y
  .rw [show(!(JsQJkk).BC)=π by rw[Js,mFy];rfl];let S:(pAQJk).β<Φ:=by
    let h1:=rD! QJk;let h2:(ks.Uj i).β≤2100:=by rw[rS];show n5 (χ.min_le_right __) l
    show pP (χ.lt_succ_of_le^n5h1h2)^m6 (!0)
   let(O,B,R):=s.put pny S;show(d,2,s.eN,d,2,B,3);show(δx,O,0,MW,3);rw[uWh];show R
 .rintro m H'⟨L,r,ζ,ζ,s⟩;rw[M,XF]at s;let I:_F.mE Hdra<*o:=p5U E;let A:mIH^_F.mE Hdr:=mI.mE E;show(a,o,xs,0,X,I,λJ N=>X_! N I (λDjysH'=>ys=(mJ^qRks).Uj j) hz (λD W=>!1) ?_ ?_)
  .intro DjxysH'fTf5Wvgub5k1k2;let(k,h,t,n):=e v;let y:k∈pAks:=mem_dis.Ui^v7h;let Z:=(s.Hu g).get (t.Zx λbysz=>(A.ξ g) __z) n;rw[show Jsksk<*_ from mGy]at Z;show hI (d,2,Z,k1_H'u (mI.X6 g W) ?_);rw[b5];show(uW ?_).UH;rw[mJ,qR,map_map!,na,h];rfl
  .intro DysH'Wgub5;show qDH' (A.ξ g) ?_;rw[u,b5,M,vJ^by rw[o8,JO];show nZ_]
def nx!:n9 ["lots"] ["lots"]^hY MX!:=nU
def kj!(F:nEK "many_lots" "many_lots" MX! fj)QAE:mTPwK mg υms 1 fj ["lots"] sp_manyM!:=by
 show F.okA nx! ?_;rintro _ _ _ _ _ _ _ _ _⟨a,ns,ζ,i,e,q⟩;show(_,(hF^k9^mZaZ (wW (uH! ζ) (!4) T.max WC.Rows.boot_max QCu) mV),3);show(a,zsns,0,by rw[i,JS],by rw[oq!];show e,λMhb=>(4,3));let(m,g,ζ):=WB.mp h;show qmg λxd=>ω.ofNat_le.mp^b_^WB.Ui (x,d,0)
def c_Z!:n9 [t4,uS,"most","rounds","lots","finer"] [t4,uS,"most"]^hY Un!:=nU
def kh!(F:nEK "rounds_of" "rounds_of" Un! f fd)QAE(a6:n4PwK mg υ "numbered" 1 ["values"] sp_numbered!)(i4:n4PwK mg υ "many_lots" 1 ["lots"] sp_manyM!):mTPwK mg υms 2 f fd [t4,uS,"most"] sp_roundsG!:=by
 show F.okA c_Z! ?_;rintro _ _ _ _ H _ _ _ cT⟨fU,mk,i5,o,l6,L,W,B,N,ζ,dI,a8,g7,bi,eW,as,l,q⟩;show(_,(lW (m3 3 c_Z.eR^AV^nG^m5a6cTQEe)^lW (W8 U_.X5 (q7sO (m5i4cT^nG^qMQAbQH_) QAOQBZ)^lW (m3 4 c_Z.eR^qMQAbQH_)^lW (m3 5 c_Z.eR^m5a6cT^nG^J6 [t4,uS,"most","rounds","lots","finer"] ζ (!0) (UZζ T.enumerate QCu)^λcl CbNs'H'=>p0^m4 (mMQJlQCoQADQAQ)^D9 (du! K) (!4) T.Xp AU^nG^x9 [y6,"row",t4,uS,"most","rounds","lots","finer"] ζ (show γ.qg (["goal",y6,"row",t4,uS,"most","rounds","lots","finer"]:γbE) by decide) (wVQAF)^λcl CbNs'H'=>(t7,mMQJlQF9QADQAQ))^lW (mS (q7 (P_! cT.units0) QBtQBjQBZ) (hF^mv!)^m8)^hF^rW^xNQAbQBt)^hF^k9QAb),3);let Q:=l.n60;let i6:=l.n1;show(mk,_,B.Tx V.dW,B.Tx^λb=>(gI.UR b:gI),ν,0,g7,bi,by rw[j',j'],by rw[j',l.dW];show n5Q (!0),3,λHQ! H1s1aU=>(m6^by change 1≤16777216;decide,λpb5=>?_))
 .intro ikx Jc9;rw[na]at J c9;cases cY:B[i]? with
  |ε=>rw[cY]at J;cases J
  |δ b=>rw[cY]at J c9;cases J;cases c9;show(0,0)
 rw[aB!]at aU;let bd:Hp=ε:=HAs1b5;show(Ot! HfU mk p WB N,(_,(0),[HQ!],ε,ε,5,s1.ξ QBd,hJ,0,3,λiX=>mWXQT5),3)
 .intro ire;match i,e with
  |0,e=>cases e;show p5aUb5
  |n+1,e=>simp at e
 rintro m bM H'⟨k,d,s4,s5,ζ,ζ,jN,eF,s,I,a0⟩;let J:=pX! la0;obtain⟨gV,a1⟩:∃gV,d[k]?<*gV:=(d[k]'(by rw[s];show A6k),mO_);let U:=IkgVa1;let a5:=KUsa1;let S:=BGlk;show(2,q8eFa5 (gV,nYWBk,0,U,by rw[S];show i6,λMhM_=>(4,3)));let bU:=NJlhM;show p9 (λbS=>?_) (λi3=>?_)
 rotate_left
 .exact qpdkH'jNeFs I (.P2 (M,hM,by have:¬ ((M:ω)+1)≤(N:ω):=i3;lia)) J
 show(λfMbF=>nYWB (k+1)≠nYWBk/\Ot! HfU mk p WB N (UP W.β QGL) fMbF,λfMbFh=>(_,lv! l h.1,h.2),3);show(2,q8eFa5 ?_);dsimp only[rZ];dsimp only[u9,v8,aR,vY,pS,vF,rO];show bQ! (c:=fU) QCAdI (jN__a8) (λDiysbF=>∃ps:γθ,vE (ys=ps.Tx V.ο) (ps.β=i) (∀QIL(t:θ),ps[j]?<*t->Fk bF (R6WQC2j) t)) (by rw[j',eW];show m6QSp) (λDdA=>([],5,λjte=>by simp at e)) ?_ ?_
 .intro DixysbFbJfTdAc9AdSb5vk1;let(ps,ζ,E,aA):=b5;rw[na]at c9;let(l7,aS,ζ):=r7c9;let X:i<W.β:=by rw[<-eW];show(m9aS).1
  let(ws,aN,bP,aV,aT):=as i l7 aS;let s3:mIHbJ:=(jN.ξ A).ξ v;let eI:=s3__aT;let ap:bJgV<*.P'^mJQC2:=v__^A__ U;let dZ:W.TC i []=ws:=by rw[pu,aN];rfl
  let(a9,qP):=l.row ws^v7aN;let bs:=l.lt.g6;show q8 ap (zF^by rw[S];show X) ?_;dsimp only[u9,v8,aR,vY,pS,vF,rO];show DN (a:=l7) QCAaVeI (λrRjfJcM=>fJ=(mJQEn).Uj j) (by rw[o8,a9];show m6^n5bs (!0)) (λrRdN=>!1) ?_ ?_
  .intro rRjyfJcM kL! af! dNd7 hsm4 Z al k3k4;let i':j<ws.β:=by have:=(m9d7).1;rwa [o8]at this
   rw[xUi']at d7;cases d7;show hI^q8 (hsm4 __ ap) (zF^by rw[S];show qP_^GOi') (k3_cMZ (mI.X6 hsm4 dN) ?_);rw[al];show(uW ?_).UH;rw[xU (by rw[j'];show i'),gh! i']
  .intro rRfJcMdN hsm4 Z al;rw[o8,vJ^by rw[o8,j'];show nZ_]at al;subst al;show(rR,2,.UR (pG.of Z,λbcY=>(m6^by change 2≤16777216;decide,λtfP=>?_)));let s5:=hsm4.ξ^(mI.mE (o:=.iT^mJQEn) cY).ξ^mI.mE (o:=.iT [.tV (((nYWBk).TC i 0:χ):ω),.ο b]) fP;let an:=s5__^v__dS;show k1QFR_ an (mI.X6 (A.ξ^v.ξ s5) dA) (ps++[t],by rw[pY];rfl,by rw[o9,E];rfl,λjue=>?_);by_cases i':j<ps.β
   .rw [u1i']at e;show RV (λccsz=>E1 ((v.ξ s5) __z) an (!5))^aAjue
   .rw [w5^xGi']at e;let hU:j=i:=(Og! i' (m9e).1).ξ E;subst hU;rw[E,sub_self!]at e;let kO:t=u:=by simpa using e
    subst kO;let kU:(zs (R6WQC2j).2).Tx V.tV=mJQEn:=by
     rw[<-JS];change mJ^(W.TC j []).Tx _=_;rw[dZ]
    show(b,E1hJ an (!5),3);rw[kU];show E1 (p5hJfP) an (!5)
 intro DysbFdAAdSb5;let(ps,ζ,E,aA):=b5;show(D,_,ps.Tx V.ο,(DFWQC2).Tx^λx=>(gI.P2 x:gI),π,0,.UR ζ,dS,by rw[j',j',DG,E,j',eW],by rw[j',DG];show n5Q (!0),3,λg0cM ab a3=>?_)
 .intro i kk! x Jc9;rw[na]at J c9;let(nk!,e1,ζ):=r7J;let(t,e2,ζ):=r7c9;let X:i<W.β:=by have:=(m9e1).1;rwa [DG]at this
  rw[Ii! X]at e1;cases e1;show((t,0,aAite2),0)
 rw[wL!]at a3;let Y:cMg0<*.P'^mJQGL:=a3;let aM:mIHcM:=jN.ξ QQz;let a7:=QQz__ U;let p4:=QQz__eF;let O:=I.Ki QQz;show(g0,gV,zsQGL,zsQC2,5,by rw[Y,JS],by rw[a7,JS],by rw[oq!,oq!,BGl,BGl],p9QOMQOM)
 .exact qpdkcMaMp4s O (.UR^Z1 he) J
 let a4:nYWB (k+1)≠nYWBk:=λz=>he (by rw[z]);let a2:d≠[]:=by
  intro z;rw[z]at s;simp at s
 show(.UR (0,_,pG.of p4),p,4,p4,3,a4,k+1,d++[g0],4,mI.X6 aM bd,3,3,3,3)
 .rw [j',s];show Mb! J
 .rw [hJ,pY];rfl
 .rw [o9,s];rfl
 .intro ire;by_cases X:i<d.β
  .rw [u1X]at e;let h1:=Oire;rw[a'^qL! h1p4a2];show h1
  .rw [w5^xGX]at e;let bm:i=k+1:=(Og! X (m9e).1).ξ s;subst bm;rw[s,sub_self!]at e;let kO:g0=r:=by simpa using e
   subst kO;rw[a'^qL! Yp4a2];show Y
 .intro iX;by_cases h:i=k
  .subst h;show a4
  .exact a0i^Qd! Xh
def Cx!:n9 ["lots"] ["lots"]^hY ed!:=nU
def ir!(F:nEK "first_rooms" "first_rooms" ed! f E)QAE(t:n4PwK mg υ "many_lots" 1 ["lots"] sp_manyM!):mTPwK mg υms 2 f E ["lots"] sp_firstrooms!:=by
 show F.okA Cx! ?_;rintro _ _ _ _ _ _ _ _ A⟨a,ns,ζ,s,u,B,g,l,q⟩;show(_,(hF^k9^x9 ["lots"] ζ (!0) (CNζ T.b_^nG^m5t AQCu)^λICH s'H'=>(t7,bx! KQAFQCu)),3);let(M,m,k):=Vh! u;let v:=g Mm;dsimp only[H3,rZ,u9,v8,aR,vY,pS,vF,rO];show ON (n:=M+1) (λRh=>(a,ns,0,s,u,λyri=>?_)) (!6) (λDjysH'=>ys=mJ^(γ.b_ j).Tx λj=>ns.UL j) (λDo=>rfl) ?_ ?_
 .let e:y=M:=ZV (kyr)^i Mm;rw[e];show h
 .intro DjysH'Jf5opbdb5k1k2;show hI (.UR (0,_,pG.of^b__ s),a,zsns,(0+(j:ω)),5,by rw[<-JS];show b__ s,3,3)
  .rw [ω.WL];show WB.Ui (j,l Mjm^IJp,0)
  .rw [ω.WL,ao!];show k1_H'd (mI.X6 bo) ?_;rw[b5,γ.range_succ,pY];show(KY__).UH
 .intro DysH'obdb5;subst b5;show q (M+1) DH' (succ_pos! M,λx z=>χ.lt_succ_of_le^kxz,λj p=>l Mjm^IJp) bod
def a_C!:n9 [o3,t4,"rounds","one","two","needed","here","there","word","lots","place"] [o3,t4,"rounds","one","two"]^hY eH!:=nU
def Tb!(F:nEK "parting_word" "parting_word" eH! f fd)QAE:mTPwK mg υms 1 f fd [o3,t4,"rounds","one","two"] sp_pword5!:=by
 show F.okA a_C! ?_;rintro _ _ _ s H _ _ _ _⟨fU,p,bd,v,L,W,B,k,r,s,ζ,O,dS,b,b5,o,m,eZ,as,S,Q,q⟩;show(_,(lW (mS (uU (qMQQ0QAb)^qMQQ0QBj) (hF^k9GE)^m8)^lW (m3 5 a_C.eR^LUI4 Δ.F.slot_list_index Δ.F.type_list_index jm! (x9 [o3,t4,"rounds","one","two","needed","here","there","word","?","place"] ζ (!0) (wVQAO)^λcl CbNs'H'=>(t7,xPD8 (mMQJlQADQBjQAQ) (mMQJlQADQBtQAQ) QBZ))^nGCR)^lW (m3 6 a_C.eR QAb)^lW (m3 7 a_C.eR QBj)^lW (m3 8 a_C.eR^j5)^lW (t6 U_.X5 ζ (Qa! ζ T.reversed^nG^yISAQAOz8^CSQBt) (z0 9 a_C.eR)^lW (m3 10 a_C.eR^LUI4 Δ.F.slot_list_index Δ.F.type_list_index jm! (J6 [o3,t4,"rounds","one","two","needed","here","there","word","lots","place"] ζ (!0) (VWζ T.zip^m4 (qMQAFQCo)^qMQAFQF9)^λcl CbNs'H'=>xPD8 (mMQJlQKcQADQAQ) (mMQJlQKcQAFQAQ) QBZ)^nGCR)^lW (m3 8 a_C.eR^mZuIQOK^mMEPQADQPAQAQ)^lW (m3 6 a_C.eR^qM (qMQAFQCo) QPA)^hF^m3 7 a_C.eR^qM (qMQAFQF9) QPA)^hF^k9QOK),3);let hz:(lYL).β≤Φ:=m6 (by rw[nJ];show n5 b.lt.g6 (!0));obtain⟨gV,aV⟩:∃gV,v[k]?<*gV:=(v[k]'(by rw[o];show A6k),mO_);let ap:=m kgVaV;let a4:=KUoaV;let eF:=BGbk;show(2,q8b5a4 (q8 ap (zF^by rw[eF];show S) ?_));show(2,q8b5a4^q8 ap (zF^by rw[eF];show Q) (0,3));rw[YA];show p9QOMQOM
 .exact (eZ he).Q5
 let(aT,Y,a1,y):=nu! (f:=λj=>decide QG6) (n:=k+1) (j:=k) (A6k)^pI he;dsimp only[u9,v8,aR,vY,pS,vF,rO];show DN (a:=p) QCAQAvb5 (λDjysH'=>ys=(((γ.b_ (k+1)).Tx λj=>decide QG6).Tx V.dW).Uj j) (by rw[j',o];show m6^n5 (WJ as) (!0)) QK_ ?_ ?_
 .intro DjxysH'fTf5dAI AlXk1k2;rw[na]at I;let(a6,fJ,ζ):=r7I;let E:j<k+1:=by rw[<-o];show(m9fJ).1
  let h1:=A__^mja6fJ;show hI^q8h1 (zF^by rw[BGb];show S)^q8h1 (zF^by rw[BGb];show Q) (0,3);rw[YA];show k1_H'l (mI.X6 AdA) ?_;rw[X];show(uW ?_).UH;rw[na,na,yUE];rfl
 intro DysH1dAAlX;rw[j',o,vJ (!1)]at X;subst X;show(.UR (0,_,pG.of l),D,2,0,l,aT,3);generalize ((γ.b_ (k+1)).Tx λj=>decide QG6).UL ν=t at Y a1 y⊢;let aS:pr WBtr≠pr WBt s:=Msa1;let a2:∀j<t,pr WBjr=pr WBj s:=λj E=>VG^yj E;show(2,p,2,pG.of^A__b5,λpl aN=>?_);rw[KR^by rw[j',o];show XsY];let N:((v.Tx V.ο).Uj t).β=t:=by rw[rS,j',o];show χ.min_eq_left^XsY
 show(pl,2,hJ,KP wq! (λi JH'=>E5 λ(h1:χ)(h2:χ)(w:lU)(y7:ψ V)(M:ψ V)=>Fw! (J=[δQAc,δ^.ο fU,δQAl,δQQ1,δ^.tV (s:ω),δ^.tV (t:ω),δ^.tV (h1:ω),δ^.tV (h2:ω),δQBT,y7,M]) (mI (_F.mE H1 pl^.P'^(v.Tx V.ο).Uj t) H') (h1<W.β) (h2<W.β) (w.β=i) (i≤t) (pr WB (t-i) h1≠pr WB (t-i) h2) (∀j<t-i,pr WBjh1=pr WBjh2) (w++CAL WB (t-i) h1h2=CAL WBtr s)) (r,s,[],ε,ε,by rw[<-KE];rfl,mI.Kx _,S,Q,0,pT_,aS,a2,0) ?_ ?_ ?_)
 .rintro i J H'⟨h1,h2,w,y7,M,ζ,sm2!,_⟩;show sm2! __hJ
 .rintro i x J bF I⟨h1,h2,w,y7,M,ζ,sm2!,g,hh2,eI,a9,hne2!,heq2!,hw⟩;let g6:i<t:=by have:=(m9I).1;rwa [w6,N]at this
  rw[YG (by rw[N];show g6),N,γ.getElem?_take,mG^Qg! g6,na]at I;let(a5,an,ζ):=r7I;let(u,hO,a8,a7):=Qh! g6;rw[a8]at an;rw[hO]at hne2! heq2! hw;let s0:mIHbF:=A.ξ QSq;let aU:=s0__^mua5 an;let(iP,fM,ab):=(dS.sameL s0).row g;let(rb!,dN,Z):=(dS.sameL s0).row hh2;let(e,aM):=my! bg hh2 hne2!^heq2! u^A6u;let l1:=(zZbg).1;let l2:=(zZb hh2).1;let qP:=b.lt.g6;dsimp only[rZ];dsimp only[u9,v8,aR,vY,pS,vF,rO];show dl! (d1:=.ls iP) (d2:=.ls rb!) (λRh=>q8 (s0__ O) (wR V.ο fM)^q8 (s0__ O) (wR V.ο dN) h) ab Z (by rw[o8,o8,l1,l2]) (λDjysbJ=>ys=((I1WBuh1h2).Tx V.dW).Uj j) (by rw[o8,l1];show m6^n5qP (!0)) QK_ ?_ ?_
  .intro DjxzysbJcMfTdAIaAdl U hsm4 k1;let E:j<L.β:=by have:=(m9I).1;rwa [o8,l1]at this
   rw[xU^by rw[l1];show E]at I;rw[xU^by rw[l2];show E]at aA;cases I;cases aA;let al:=hsm4 __^d__aU;show q8 al (zF^by rw[BGb];show BJbg E)^q8 al (zF^by rw[BGb];show BJb hh2 E) (0,3);rw[YA];show k1_cM (hsm4 __l) (mI.X6 (d.ξ hsm4) dA) ?_;rw[U];show(uW ?_).UH;rw[na,Xh! bg hh2 E];rfl
  intro DysbJdAdl U;rw[o8,l1,vJ^by rw[j',Yd! bg hh2];show nZ_]at U;subst U;let eW:ν∈I1WBuh1h2:=γ.idxOf_lt_length_iff.mp (by rw[Yd! bg hh2];show e);show(.UR (0,_,pG.of l),D,2,0,l,eW,3);let s3:=s0.ξ d;let a0:L[BUWBuh1h2]?<*L.TC QE2 0:=by rw[pu,mOe];rfl
  let a3:qZ (lYL).Ym.Zh ((BUWBuh1h2:χ):ω)<*L.TC QE2 0:=by
   rw[tI];show r8a0
  let e1:=zF (ns:=W.TC h1 []) (r:=BUWBuh1h2) (by rw[l1];show e);let e2:=zF (ns:=W.TC h2 []) (r:=BUWBuh1h2) (by rw[l2];show e);show(_,4,hz,a3,4,3,3)
  .rw [nJ];change w.β+1≤Φ;show m6 (Qi! eIg6Y as)
  show q8 (s3__ O) (wR V.ο fM) (q8 (d__ ab) e1 ?_);show q8 (s3__ O) (wR V.ο dN) (q8 (d__ Z) e2 ?_);rw[a7];show(pRWh1QE2,pRWh2QE2,w++[L.TC QE2 0],7,by rw[<-yE];rfl,sm2.ξ d,BJbge,BJb hh2 e,by rw[o9,eI];rfl,g6,aM,λj E=>((GMbg hh2).mp^heq2! (j+1)^χ.succ_lt_succ E).2 _e,3);rw[u4];show hw
 .rintro J bF⟨h1,h2,w,y7,M,ζ,sm2!,g,hh2,eI,a9,hne2!,heq2!,hw⟩;rw[w6,N,sub_self!]at hw;obtain ζ:w=CAL WBtr s:=by rw[<-hw];show(vP_).UH
  show(λsp=>q_bF (A.ξ QSq) sp.1 (n5 sp.2.1 b.n60) sp.2.2) (il! b SQ aSa2)
def f_M!:n9 [u',"lots",oM,t4,uS] [u',"lots"]^hY fj!:=nU
def Va!(F:nEK "folded" "folded" fj! f fd)QAE QVQ(fM:n4PwK mg υ "first_rooms" 2 ["lots"] sp_firstrooms!):mTPwK mg υms 3 f fd [u',"lots"]^Wd! cW:=by
 show F.okA f_M! ?_;rintro _ _ _ _ _ _ _ _ cT⟨dY,t,bG,y,bT,lo,J,L,R,Bm,k,ζ,hW,d7,ab,dN,d,fJ,q⟩;show(_,(lW (m3 2 f_M.eR^m5fMcTQEe)^lW (J5 [u',"lots",oM,t4,uS] (j:=3) ζ f_M.eR (!0) ζQBx (wVQAO)^λcl CbNs'H'=>(t7,D9 (du! K) (!4) T.Xp AU^nG^x9 [y6,u',"lots",oM,t4,uS] ζ (show γ.qg (["goal",y6,u',"lots",oM,t4,uS]:γbE) by decide) (wV^mMQJl (Ar! (f:=t4) KQAFζ) QADQAQ)^λcl CbNs'H'=>(t7,mMQJlQAbQADQAQ)))^lW (J5 [u',"lots",oM,t4,uS] (j:=4) ζ f_M.eR (!0) ζQBx (wVQAO)^λcl CbNs'H'=>(t7,mMQJl (Ar! (f:=uS) KQAFζ) QADQAQ))^hF^k9^p0^v5QSr (D9GI (!4) T.Xp AUQT')^D9GI (!4) T.Xp AU^nGQBj),3);let(dx,dZ):=hW.ex;let O:=d.n60;let X:=BGdk;show(lo,nYR Bm k,0,fJ,by rw[X];show d.n1,by rw[X];show O,λxc9=>pP (NJdc9) O,λMjhMv=>UX! hMv,λmpH1 hm s1aMb5=>?_);let Q:m≤2100:=by
  have:=NJd (hm.A7 (m-1)^by have:=hm.b8;show FA this);have:=hm.b8;lia
 let E:(mJQB9).β=m:=by rw[o8,j',rA]
 let room:∀QMw{x:V},(mJQB9)[j]?<*x->j<m/\x=.tV (((nYR Bm k).UL j:χ):ω):=λ{jx}e=>by
  let v:j<m:=by have:=(m9e).1;rwa [E]at this
  rw[xU^by rw[j',rA];show v]at e;cases e;show(v,3);rw[pu,na,yUv];rfl
 dsimp only[rZ];dsimp only[u9,v8,aR,vY,pS,vF,rO];show DN (a:=p) QCAQAvb5 (λDjysH'=>∃ps:γθ,vE (ys=ps.Tx V.ο) (ps.β=j) (∀QAu(t:θ),ps[i]?<*t->i<m/\H't<*.iT^mJ^(xTRQAUm).TC i [])) (by rw[E];show m6QSp) (λDdA=>([],5,λi te=>by simp at e)) ?_ ?_
 .intro DjxysH'fTf5dAc9B Ilk1k2;let(ps,ζ,n,W):=l;let(v,ζ):=room c9;let(f1,f2):=LZ hm dv;let s2:=s1.ξ B;obtain⟨iP,ap⟩:∃iP,J[(nYR Bm k).UL j]?<*iP:=(J[(nYR Bm k).UL j]'(by rw[ab.1];show f1),mO_);let an:=s2__^ab.2 _iP_ ap^mOf1;let(aA,dS):=d.row _^vOf1;show hI ?_;dsimp only[u9,v8,aR,vY,pS,vF,rO];show DN (a:=iP) (λRh=>(dY,cW,dx,1,s2__dZ,gS.dM,gS.na4,0,q8 (s2__d7) (wR V.ο ap) h)) QAv an (λrRi ScM=>S=(mJQF').Uj i) (by rw[o8,aA];show m6^n5 d.lt.g6 (!0)) (λrRY=>!1) ?_ ?_
  .intro rRiy2ScM kL! af! Y U hsm4 H sk3k4;let g6:i<R[(nYR Bm k).UL j].β:=by have:=(m9U).1;rwa [o8]at this
   rw[xUg6]at U;cases U;show hI^q8 (hsm4 __^s2__fJ) (zF^by rw[X];show dS_^GOg6) (k3_cMH (mI.X6 hsm4 Y) ?_);rw[s];show(uW ?_).UH;rw[xU (by rw[j'];show g6),gh! g6]
  .intro rRScMY hsm4 H s;rw[o8,vJ^by rw[o8,j'];show nZ_]at s;subst s;show(rR,2,.UR (pG.of H,λbcY=>?_));let s5:=hsm4.ξ^mI.mE (o:=.iT^mJQF') cY;show k1QEC_ (s5__ I) (mI.X6 (B.ξ s5) dA) (ps++[b],by rw[pY];rfl,by rw[o9,n];rfl,λiue=>?_);let eW:=s5__ I;rcases EYe with z|⟨rfl,ζ⟩
   .obtain ⟨a1,a2⟩:=Wiuz;show(a1,E1 (s5__a2) eW (!5))
   .rw [n];show(v,E1 ?_ eW (!5));rw[hJ,jx! v,pu,mOf1];rfl
 intro Dw! ysbFaNN as l;let(ps,ζ,n,W):=l;rw[E]at n;let s:=N__b5;let s2:=s1.ξ N;dsimp only[rZ];dsimp only[u9,v8,aR,vY,pS,vF,rO];show DN (a:=p) QCAQAvs (λDjysH'=>ys=((CU Bm QAUm).Tx V.dW).Uj j) (by rw[E];show m6QSp) QK_ ?_ ?_
 .intro DjxysH'fTf5dAc9B Ilk1k2;let(v,ζ):=room c9;let(f1,f2):=LZ hm dv;let Z:=s2.ξ B;show hI (dY,cW,dx,1,Z__dZ,gS.dM,gS.na5,0,q8 (Z__dN) (OO^by rw[d.dW];show f1) (k1_H'I (mI.X6 BdA) ?_));rw[l];show(uW ?_).UH;rw[na,CU,na,yUv];rfl
 intro Dm! ysbJaSAeIl;rw[E,vJ^by rw[j',CU,j',rA];show nZ_]at l;subst l;let Z:=s2.ξ A;show(dY,cW,dx,1,Z__dZ,gS.dM,gS.na1,0,3);show(Dw!,2,.UR (pG.of^A__ as,λgWeF=>?_));show(Dm!,2,.UR (pG.of^p5eIeF,λtm! al=>(m6^by change 3≤16777216;decide,λf hf=>?_)));let HE:mIbJ^_F.mE bJgW^.iT^ps.Tx V.ο:=mI.mE eF;let u2:=HE.ξ^mI.mE (o:=.iT^(CU Bm QAUm).Tx V.dW) al;let Cf!:=u2.ξ^mI.mE (o:=.iT [.uM QBX,.ο gW,.ο tm!]) hf;show qmf_ hm (Z.ξ Cf!) (HA (Z.ξ u2) hf) (gW,tm!,ps,hJ,p5 (p5hJ al) hf,p5hJ hf,by rw[n,xT,j',rA],λire=>?_);let(a1,a2):=Wire;show((xTRQAUm).TC i [],3,(A.ξ Cf!) __a2);rw[pu,xT,na,yUa1];rfl
def c_N!:n9 [u',"rounds",oM,"tails","i","one","j"] [u',"rounds",oM]^hY hb!:=nU
def WD!(F:nEK "tails_of" "tails_of" hb! f fd)QAE QVQ(dS:n4PwK mg υ "parting_word" 1 [o3,t4,"rounds","one","two"] sp_pword5!):mTPwK mg υms 2 f fd [u',"rounds",oM]^Xf! cW:=by
 show F.okA c_N! ?_;rintro _ _ _ _ H _ _ _ cT⟨dY,t,bG,y,bT,p,W,U,X,L,R,Bm,k,g,ζ,hW,d7,ap,aA,b5,eI,Q,hZ,A,fJ,eF,as,q⟩;show(_,(lW (m3 3 c_N.eR QGR)^lW (t6 U_.X5 ζ (UZζ T.enumerate QFG) (FMζ^wM (z0 4 c_N.eR)^wM (z0 5 c_N.eR) HV)^hF^t6 U_.X5 ζ (JGζ T.b_^m4 (mZaZQBjmV) QPL) (z0 6 c_N.eR)^hF^rW^xNQAb^p0^v5QBjQCo^m5dScT^rNQSr^rNQSs^v5QAFQBt^qMQAOQCo)^hF^k9QAb),3);let(dx,dZ):=hW.ex;let r:(mJg).β=g.β:=o8_;show(pT_,λD Z=>?_);let s0:=mI.mE (o:=.P' []) Z;show(.ls W,2,s0__ A,λ_=>?_);let dN:10000≤Φ:=m6 (!0);show Iq! (d:=.ls W) (xs:=mJg) (λilH'=>E4 λ(E:γθ)(s4:ψ V)(s5:ψ V)(J:ψ V)=>A5 (l=[δ^.ο dY,δQAl,δ^.ο W,δQA0,s4,s5,J]) QHuQPM (E.β=off i)^CWH'LQDPEi 0) ([],ε,ε,ε,0,s0,hJ,0,λa b ab cYe8=>!6) ?_ ?_ ?_
 .rintro i l H'⟨xs,s4,s5,J,ζ,S,_⟩;show S__ A
 .rintro i x pp l H1 c9 O⟨xs,s4,s5,J,ζ,S,htl1!,s,v⟩;let g6:i<g.β:=by have:=(m9c9).1;rwa [r]at this
  rw[xUg6]at c9;cases c9;let I:=S.ξ^mI.mE (o:=.iT [.tV (i:ω),.tV ((g.TC i 0:χ):ω)]) O;let B:=p5 (u:=.iT [.tV (i:ω),.tV ((g.TC i 0:χ):ω)]) htl1! O;show(pp,2,n'.of hJ,0,1,4,3);let C:=v.Hu (λ__=>mI.mE (o:=.iT [.tV (i:ω),.tV ((g.TC i 0:χ):ω)]) O__) λ______z=>z;generalize _F.mE H1 pp (.iT [.tV (i:ω),.tV ((g.TC i 0:χ):ω)])=bF at I B C;show(4,W,2,.UR^pG.of^I__ A,1,(O4,9,by rw[r];show kP,by rw[r];lia),3);rw[r];show zY (n:=(((g.β:χ):ω)-QON).UD) (λjlH'=>E2 λ(E:γθ)(J:ψ V)=>A5 (l=[δ^.ο dY,δQAl,δ^.ο W,δQA0,δQEo,δ^.tV ((g.TC i 0:χ):ω),J]) QHuQPM (E.β=off i+j)^CWH'LQDPEij) (xs,J,0,I,B,s,C) ?_ ?_
  .rintro j l bJ i'⟨xs2!,s6'!,ζ,h,htl3!,hxl3,htk3!⟩;let al:i+1+j<g.β:=Lw! i'
   let e1:g[i]?<*g.TC i 0:=by rw[pu,mOg6];rfl
   let e2:g[i+1+j]?<*g.TC QO9 0:=by rw[pu,mO al];rfl
   let eW:qZ (mJg) QDW<*.tV ((g.TC QO9 0:χ):ω):=by
    rw[show(i:ω)+1+(j:ω)=((i+1+j:χ):ω) from Hm!];show zF al
   let an:=h__dZ;show(.UR (0,_,pG.of htl3!),dY,cW,dx,1,an,gS.dM,gS.na1,0,dY,cW,dx,1,an,gS.dM,gS.na4,0,q8 (h__ A) eW ?_);show(y,p,U,X,L,R,Bm,k,g.TC i 0,g.TC QO9 0,0,h__d7,ap.sameL h,aA,h__b5,eI,Q.Ki h,as i QO9 _ _ lO e1 e2,hZ,eF_^v7e1,eF_^v7e2,λwcMMw1w2w3=>(m6^by change 3≤16777216;decide,λtt N=>?_));let m:=p5 (u:=.iT [.tV (i:ω),.tV QDW,.uM QMR]) (M__ htl3!) N;show(D,4,m,by rw[j',hxl3];show EW^by have:=Ep! i;lia,3);let h0:HD=ε:=Z;let Y:=(htk3.Hu (λ__=>(M.ξ^mI.mE (o:=.iT [.tV (i:ω),.tV QDW,.uM QMR]) N) __) λ______z=>z).snoc hxl3 hJw1w2w3;let sgn:mIcM^_F.mE cM tt QIJ:=mI.mE N;generalize _F.mE cM tt QIJ=d8 at m Y sgn;show(xs2!++[tt],2,mI.X6 ((h.ξ M).ξ sgn) h0,by rw[pY];show hJ,by rw[o9,hxl3];rfl,3);show Y.Hu (λboe=>by rw[a'^λz=>by rw[z,m]at e;cases e];show e) λ______z=>z
  .rintro l bJ⟨xs2!,s6'!,ζ,h,htl3!,hxl3,htk3!⟩;rw[show(((g.β:χ):ω)-QON).UD=8-i from Lq! fJ]at hxl3 htk3!;show(xs2!,8,h,htl3!,hxl3,htk3.next)
 .rintro l H1⟨xs,s4,s5,J,ζ,S,htl1!,s,v⟩;rw[r,fJ]at s v;show qDxsH1S htl1! sv
def Kb!:n9 [u',"rounds","lots",oM] [u']^hY fg!:=nU
def Aq!(F:nEK "told" "told" fg! f fd)QAE QVQ(mu!:u6KcWj9)(h7:G6K mg QAMQEGB1 fdX)(bs:n4PwK mg υ "rounds_of" 2 [t4,uS,"most"] sp_roundsG!)(i5:n4PwK mg υ "many_lots" 1 ["lots"] sp_manyM!)(i3:n4PwK mg υ "folded" 3 [u',"lots"]^Wd! cW)(i4:n4PwK mg υ "first_rooms" 2 ["lots"] sp_firstrooms!)(bm:n4PwK mg υ "tails_of" 2 [u',"rounds",oM]^Xf! cW):mTPwK mg υQBi 4 f fd [u'] QSt:=by
 show F.okX Kb! QAGQBL
 .obtain ⟨dY,t,bG,y,bT,J,L,R,Bm,ws,ζ,_⟩:=h;rfl
 .obtain ⟨dY,t,bG,y,bT,J,L,R,Bm,ws,ζ,hW,d7,eF,aN,a3,dN,n,reach!,qE,q⟩:=h;let(tm!,I):=T.most;let a8:=cT.Hu (j:=1) (!0);let aA:=cT.Hu (j:=2) (!0);let a7:=cT.Hu (j:=3) (!0);show(_,(lW (m3 1 Kb.eR^m5bsaA^v5QSs (vA (f:=uS) QADζ) QFH)^lW (m3 2 Kb.eR^qMQAFQH_)^lW (mS (q7sO (m5i5a8QFG) QFHQBZ) (hF^k9^m5i3a7QQ2)^m8)^lW (m3 3 Kb.eR^yISA (m5i4aAQFG) z8^CS^mZaZQFHmV)^hF^tg! ζζ Kk! h7.own h7.fn (dv! h7 T.oh) (cT.Hu (j:=2) (!0)) (h7.ini.binds (ps:=["self",j9,"tails","part"])^λ______useG=>by let(_,_,_,_,ζ):=Oh! eG;rfl) iF h7.M'^v5 (x9 [u',"rounds","lots",oM] ζ (!0) (wVQAb)^λcl CbNs'H'=>(t7,mMQJl (Ar! (f:=j9) KQAFζ) QADQAQ)) (m5 bm aA^v5QADQAFQAb) GE),3);let(dx,dZ):=hW.ex;let ap:=n.n60;let fM:=n.n1;show(dY,cW,dx,1,dZ,gS.dM,gS.na4,0,dY,cW,dx,1,dZ,gS.dM,gS.na5,0,3);show(y,bT,J,7,L,R,Bm,(8),0,.UR ζ,d7,.UR ζ,aN,eF.1,eF.toQ,n,λp SkH1s1b5dSW st hZ=>?_);obtain⟨gV,aU⟩:∃gV,S[k]?<*gV:=(S[k]'(by rw[dS];show A6k),mO_);let Y:=WkgVaU;let i6:=KUdSaU;let X:=BGnk;show(2,q8b5i6 ?_);show(gV,nYR Bm k,0,Y,by rw[X];show fM,λMhMaM=>(4,p9 (λaT=>?_)^λaV=>?_))
  .let aT:(M:ω)+1≤8:=aT;let eZ:nYR Bm (k+1)=nYR Bm k:=by
    rcases st with z|⟨M2,hU,z⟩
    .exact z
    .have:=aMM2hU;lia
   show(dY,t,bG,y,bT,gV,J,L,R,Bm,k,0,(dx,s1__dZ),s1__d7,eF.sameL s1,s1__aN,n,Y,λmfbF hm s2 hf bi=>?_);let a9:m≤8:=by
    let h1:=hm.A7 (m-1) (by have:=hm.b8;show FA this);let h2:=aM_h1;lia
   show qmkfbF hm eZa9 (s1.ξ s2) (HAs1 hf) bi
  .refine (gV,nYR Bm k,0,Y,by rw[X];show fM,by rw[X];show ap,λxc9=>pP (NJnc9) ap,λMjhMi'=>UX! hMi',λm rl! bF hm s2bMa6=>?_);show(4,2,rl!,2,pG.of a6,λiIeI=>?_);let a0:=s1.ξ s2;let aS:9≤m:=by
    have:=hm.lt MhM;let aV:¬ (M:ω)+1≤8:=aV;lia
   let GS:yA (mJQB9) ε^δ (8+1)=mJQG7:=by
    let e:=KR (xs:=mJQB9) (t:=9) (by rw[o8,j',rA];show aS);show e.ξ ?_;unfold mJ;rw[map_take!]
   rw[GS];let al:∀(ia:χ),QG7[i]?<*a->i<m/\a=(nYR Bm k).UL i:=λiae=>by
    rw[γ.getElem?_take]at e;split at e
    .let g6:i<m:=by have:=(m9e).1;rwa [j',rA]at this
     rw[na,yUg6]at e;cases e;show(g6,0)
    .cases e
   let N:(((γ.b_ m).Tx λj=>(nYR Bm k).UL j).Uj 9).β=9:=by rw[rS,j',rA];show χ.min_eq_left aS
   generalize ((γ.b_ m).Tx λj=>(nYR Bm k).UL j).Uj 9=g at al N;let eW:∀r∈g,r<R.β:=λrcT=>by
    let(i,g6):=tl.mp cT;let(a1,ζ):=al irg6;show(LZ hm n a1).1
   let s3:=a0.ξ QFo;let U:_F.mE bFiI (.P'^mJg) iI<*.P'^mJg:=hJ;let p3:=(s2.ξ QFo) __b5;let O:=W.Ki^s2.ξ QFo;generalize _F.mE bF iI (.P'^mJg)=bJ at s3 U p3 O;dsimp only[rZ,u9,v8,ql!,pS];show DN (a:=iI) QCAQAvU (λ_jys_=>ys=oI^(g.Uj j).Tx λr=>ws.TC r []) (by rw[o8,N];show m6 (!0)) QPF ?_ ?_
   .intro DjxysH'fTf5dAc9B an fJk1k2;let i':j<g.β:=by have:=(m9c9).1;rwa [o8]at this
    rw[xUi']at c9;cases c9;let Z:g.TC j 0<ws.β:=by rw[dN];show eW_^GOi'
    let s4:=s3.ξ B;show hI (dY,cW,dx,1,s4__dZ,gS.dM,mu!,0,q8 (s4__a3) (wRQJm^mOZ) (k1_H' an (mI.X6 BdA) ?_));rw[fJ,uW^show g[j]?<*g.TC j 0 by rw[pu,mOi'];rfl,pY];unfold oI;rw[pY];change _=_++[V.uM^lY^ws.TC (g.TC j 0) []];rw[pu (l:=ws),mOZ];rfl
   .intro DyscMdAB an fJ;let s4:=s3.ξ B;rw[fJ,o8,XF]at an;show(dY,t,bG,y,bT,p,iI,J,S,L,R,Bm,k,g,0,(dx,s4__dZ),s4__d7,eF.sameL s4,n,B__p3,dS,O.Ki B,hZ,B__ U,N,eW,λijabbPe1e2=>?_,λfSbWd8s5a4dWa5=>(m6^by change 3≤16777216;decide,λe he=>(e,D,fS,.vS,1,hJ,p5 (s5__ an) he,p5a4 he,λe7dll2k6 hd i8 le a2g7 bd qP=>(0,δd,hd,3))))
    .obtain ⟨a1,ζ⟩:=al iae1;let(b1,ζ):=al jbe2;rw[(LZ hm n a1).2,(LZ hm nb1).2];lia
    .let i9:mId8^z9e7e:=λboz=>by
      let n1:b≠e:=oZz he;rw[yNn1];show k6bon1^p5z he
     let as:∀a,a<9->∃v,(g.Tx λr=>ws.TC r []).TC a []=v/\QEz/\n6L R 0 v=g.TC a 0/\v.β≤2100:=λaeM=>by
      let i':a<g.β:=by rw[N];show eM
      let Z:g.TC a 0<ws.β:=by rw[dN];show eW_^GOi'
      show(2,3);let e1:(g.Tx λr=>ws.TC r []).TC a []=ws[g.TC a 0]:=by
       rw[pu,na,mOi'];change ws.TC g[a] []=_;rw[show g[a]=g.TC a 0 by rw[pu,mOi'];rfl,pu,mOZ];rfl
      rw[e1];show reach! __^mOZ
     show qEd_ ((s4.ξ s5).ξ i9) (l,l2,g.Tx λr=>ws.TC r [],bW,by rw[yNi8];show g7,by rw[yN le];show bd,by rw[yNa2];show qP,by rw[j',N],dW,λvdO=>?_,a5.Hu (λ__=>i9__) λa bu ab cYhOzy=>?_)
     .obtain ⟨i,g6⟩:=tl.mp dO;let h9:=(m9g6).1;rw[j',N]at h9;let(v',e1,e2,_,e3):=as i h9;rw[pu,g6]at e1;cases e1;show(e2,e3)
     .obtain ⟨v,e1,e2,e3,_⟩:=as a (zP ab cY);let(v',f1,f2,f3,_):=as b cY;rw[e1,f1]at y;let y:=(and_iff_right!^b_s.Ui (e2,hO)).UH.ξ^y.ξ^and_iff_right!^b_s.Ui (f2,hO);unfold AC at y;rw[OU,OU,e3,f3]at y;show z^b9.Mc.Ui y
def b_H!:n9 [j4,"second",o3,"others"] [j4,"second"]^hY CX!:=nU
def Tc!(F:nEK "need_same_letters" "need_same_letters" CX! fj)QAE:mTPwK mg υms 1 fj [j4,"second"] sp_needsame72!:=by
 show F.okA b_H! ?_;rintro _ _ _ _ _ _ _ _ _⟨m,m2,L,W,B,u,v,ζ,h,g,q⟩;show(_,(lW (m3 2 b_H.eR QBB)^lW (m3 3 b_H.eR QMg)^hF^mS (BNQAOQAb) QQ3^m8),3);let(k,mk,b,h1,h2,o,n,l):=id h;let(d,e,a,i,t,s,r,p):=id g;show(m7h1bO ?_);show(m7ibO ?_);show(0,3);show zEζq
def XX!:n9 [j4,u',"rounds"] [j4]^hY Ei!:=nU
def fw!(F:nEK "least" "least" Ei! f fd)QAE(s:Km! KcW)(al:n4PwK mg υ "walked_machine" 6 [j4] QPD)(eF:n4PwK mg υ "rounds_of" 2 [t4,uS,"most"] sp_roundsG!)(ab:n4PwK mg υ "folded" 3 [u',"lots"]^Wd! cW):mTPwK mg υms 7 f fd [j4] QKf:=by
 show F.okA XX! ?_;rintro _ _ _ _ _ _ _ _ S⟨m,L,W,B,ζ,Z,C,hT,q⟩;let Q:=S.Hu (j:=2) (!0);let O:=S.Hu (j:=3) (!0);show(_,(lW (m3 1 XX.eR^m5 al SQCu)^lW (m3 2 XX.eR^m5eFQ^v5QSu (vA (f:=uS) QAFζ)^AW T.eN QSu)^hF^k9^m5 ab O^m4QAFQQ0),3);show(m,L,W,B,0,Z.l,C,hT,λDtbGybTks an wsh R Bm H1s1XhWfPfJ ap Nbug7ghRdWJhG le=>?_);let d:=si! Cg7ghRdW le;let(dx,H):=hW.ex;show(D,cW,dx,1,H,s.dM,s.na4,0,D,cW,dx,1,H,s.dM,s.na5,0,D,cW,dx,1,H,s.dM,s.na4,0,y,2,.UR^pG.of N,3);show(y,bT,h,7,L,R,Bm,R.β,by rw[j',b.1];rfl,.UR ζ,N,.UR ζ,u,b.1,λire=>?_,d,λpnkbFs2b5vo IhZ=>?_)
 .let g6:i<R.β:=by rw[<-b.1];show(m9e).1
  show(R[i],mOg6,_,.UR ζ,b.2 ir_e^mOg6)
 let st:nYR Bm (k+1)=nYR Bm k:=by
  rcases I with z|⟨M,Z,z⟩
  .exact z
  .have:=NJd Z;lia
 obtain⟨E,A⟩:∃E,n[k]?<*E:=(n[k]'(by rw[v];show A6k),mO_);let x:=o k E A;let U:=KUv A;show(2,q8b5U ?_);show(D,t,bG,y,bT,E,h,L,R,Bm,k,0,(dx,s2__H),s2__ N,(b.1,λiara1a2=>s2__^b.2 iara1a2),s2__u,d,x,λNOfbJ hm s3 hf Y=>?_);show qf__bJ (J1s1^Dh!^s2.ξ s3) (GW (GWX s2) s3) Y (ks,ws,R,Bm,k,NO,g7,g,hR,dW,J,hG,le,d,st,hm,5)
def f_K!:n9 [j4,oM,"rows"] [j4,oM]^hY lj!:=nU
def Lf!(F:nEK "lots_after" "lots_after" lj! f fd)QAE:mTPwK mg υms 1 f fd [j4,oM] P8:=by
 show F.okA f_K! ?_;rintro _ _ _ _ _ _ _ _ _⟨m,v,o,L,W,B,k,ζ,hM,Q,dI,dO,E,Z,q⟩;show(_,(lW (m3 2 f_K.eR^x9 [j4,oM,"rows"] ζ (!0) (wVQAF)^λcl CbNs'H'=>(t7,mM (SFK) QPrQADQAQ))^hF^k9^wc! [j4,oM,"rows"] ζ (!0) (CNζ T.b_^nG^BI T.eN QBB)^λcl CbNs'H'=>(t7,x9 ["place",j4,oM,"rows"] ζ (show γ.qg (["row","place",j4,oM,"rows"]:γbE) by decide) (wVQAb)^λcl CbNs'H'=>(t7,mM (SFK) QADQAFQAQ))),3);let(fU,mk,ap,h1,h2,h3,h4,AF):=id hM;let hz:(lYL).β≤Φ:=m6 (by rw[nJ];show n5 Q.lt.g6 (!0));let al:(mJk).β≤Φ:=by rw[o8];show m6^n5E (!0)
 let J:∀QMw{x:V},(mJk)[j]?<*x->j<k.β/\x=.tV ((k.TC j 0:χ):ω)/\k.TC j 0<W.β:=λ{jx}e=>by
  let H:j<k.β:=by have:=(m9e).1;rwa [o8]at this
  rw[xUH]at e;cases e;show(H,0,Z_^GOH)
 dsimp only[rZ];dsimp only[u9,v8,aR,vY,pS,vF,rO];show DN (a:=v) QCAdIdO (λDjysH'=>∃S:γθ,vE (ys=S.Tx V.ο) (S.β=j) (∀QAuQCw,S[i]?<*a->H'a<*.iT^mJ^W.TC (k.TC i 0) [])) al (λD U=>([],5,λiae=>by simp at e)) ?_ ?_
 .intro DjxysH'fTf5Uc9bdb5k1k2;let(S,ζ,g,M):=b5;let(H,ζ,O):=Jc9;let(iP,s,X):=tF.row h4 (AF.Ki b) O;show hI^m7 (b__h1) fV^m7 (b__h2) (wR V.ο s)^k1_H'd (mI.X6 b U) (S++[iP],by rw[pY];rfl,by rw[o9,g];rfl,λiue=>?_);rcases EYe with z|⟨rfl,ζ⟩
  .exact E1 (Miuz) d (!5)
  .rw [g];show E1Xd (!5)
 intro Dw! ysbFfJl ab eF;let(S,ζ,g,M):=eF;rw[o8]at g;dsimp only[H3,rZ,u9,v8,aR,vY,pS,vF,rO];show ON (n:=L.β) (λRh=>(m7 (l__h1) bO (2,hz,by rw[nJ];show h))) (n5 Q.lt.g6 (!0)) (λDjysH'=>∃ls:γθ,vE (ys=ls.Tx V.ο) (ls.β=j) (∀(q:χ)QCw,ls[q]?<*a->a≠D/\H'a<*.P'^mJ^gAWkq)) (λD U=>([],5,λiae=>by simp at e)) ?_ ?_
 .intro Dq0ysH'fTf5Ue9bdb5k1k2;let(ls,ζ,A,N):=b5;let s2:=l.ξ b;show hI ?_;show DN (a:=Dw!) QCAQAv (b__ ab) (λrRj IcM=>I=(mJ^gAWkq0).Uj j) (by rw[j',g];show m6^n5E (!0)) (λrRr=>!1) ?_ ?_
  .intro rRjy IcM kL! af! rd7 hsm4 p tk3k4;rw[na]at d7;let(iP,s,ζ):=r7d7;let H:j<k.β:=by rw[<-g];show(m9s).1
   let O:=Z_^GO (ws:=k) H;let l1:=(zZQ O).1;show hI^m7 (hsm4 __^b__^MjiPs) (by rw[ω.WL];show zF^by rw[l1];show e9) (k3_cMp (mI.X6 hsm4 r) ?_);rw[t];show(uW ?_).UH;rw[xU (by rw[gA,j'];show H),gA,gh! H]
  .intro rRIcMr hsm4 p t;rw[j',g,vJ^by rw[o8,gA,j'];show nZ_]at t;subst t;let an:=hsm4 __d;show k1 (.ο rR) cM an (mI.X6 (b.ξ hsm4) U) (ls++[rR],by rw[pY];rfl,by rw[o9,A];rfl,λiue=>?_);rcases EYe with z|⟨rfl,ζ⟩
   .obtain ⟨z1,z2⟩:=Niuz;show(z1,by rw[a'z1];show hsm4 __z2)
   .let Y:u≠D:=λzz!=>by rw[zz!,d]at r;cases r
    show(Y,by rw[A,a'Y];show p)
 .intro DysH'Ubdb5;let(ls,ζ,A,N):=b5;show qDlsH' (l.ξ b) d A λqae=>(Nqae).2
def bg!:n9 [oM] [oM]^hY br!:=nU
def jk!(F:nEK "lot_of" "lot_of" br! f h)QAE:mTPwK mg υms 1 f h [oM] QT9:=by
 show F.okA bg! ?_;rintro _ _ _ _ _ _ _ _ _⟨p,ns,ζ,b5,b,q⟩;show(_,(hF^k9^D9GI (!4) T.Xp AU^nG^wW (qb! ζ) (!4) T.sorted WC.Rows.boot_sorted^nG^D9 (Cv! ζ) (!4) T.X6 WC.Rows.boot_set QCu),3);show(p,ns,0,b5,b,λag=>(a,A'ns,0,Y0b,hJ,λl e=>(l,2,.UR (pG.of hJ,λtd=>?_))));show qt_ ((mI.mE g).ξ^(mI.mE e).ξ QDM) hJ
def iq!:n9 [j4,oM] [j4,oM]^hY ub!:=nU
def Tt!(F:nEK "has_marked" "has_marked" ub! fH)QAE:mTPwK mg υms 1 fH [j4,oM] sp_hasm!:=by
 show F.okA iq! ?_;rintro _ _ _ _ _ _ _ _ _⟨m,v,o,L,W,B,k,ζ,A,s,z,y,e,l,q⟩;show(_,(hF^k9^wW (Bi! ζ) (!4) T.I9 boot_any!^nG^x9 [j4,oM] ζ (!0) (wVQAF)^λQC O s'H'=>(t7,mM (SFK) QPrQADQAQ)),3);let(J,mk,u,h1,h2,E,N,M):=id A;let n:(mJk).β≤Φ:=by rw[o8];show m6^n5e (!0)
 dsimp only[H3,u9,v8,aR,vY,pS,vF,rO];show DN (a:=v) QCAzy (λDjysH'=>ys=((k.Tx λr=>B.TC rν).Uj j).Tx V.dW) n (λDt=>rfl) ?_ ?_
 .intro DjxysH'Sf5tibdb5k1k2;let g:j<k.β:=by have:=(m9i).1;rwa [o8]at this
  rw[xUg]at i;cases i;let p:=l_^GO (ws:=k) g;show hI^m7 (b__h1) iO^m7 (b__ E) (OO^UJ s.dW p) (k1_H'd (mI.X6 bt) ?_);rw[b5,FW,na,mOg,pY,YPg];rfl
 .intro DysItbdb5;rw[o8,<-j' (f:=λr=>B.TC rν),XF]at b5;subst b5;show(D,2,d,3);have:=q Ib;rw[γ.any_map];show this
def io!:n9 [j4,"place",oM] [j4,"place",oM]^hY fl!:=nU
def Yu!(F:nEK "rooms_into" "rooms_into" fl! f O)QAE:mTPwK mg υms 1 f O [j4,"place",oM] Tu.sp_rinto:=by
 show F.okA io! ?_;rintro _ _ _ _ _ _ _ _ _⟨m,st,L,W,B,j,S,ζ,M,s,J,eZ,q⟩;show(_,(hF^k9^D9GI (!4) T.Xp AU^nG^K3 [j4,"place",oM] ζ (!0) (UZζ T.enumerate^nGQBB)^λcl C Z s'H'=>(XR^q7 (ph! K) (mM (SFK) QAFQAbQAQ) QBjQAN,cN 0)),3);let(H,mk,e,h1,h2,Y,A,N):=id M;let k:(e.Tx V.ο).β=W.β:=by rw[j',A]
 let o:=s.n60;dsimp only[H3,rO,pS];show Mn! (c:=H) (λRh=>(m7h1fVh)) QJLh2 (λDiysH'=>ys=mJ^(γ.b_ i).Wo λr=>S.Hr^pRWrj) (by rw[k];show m6^n5o (!0)) (λDv=>rfl) ?_ ?_
 .intro DixysH'EfTf5vydbb5ak1k2;rw[na]at y;let(I,n,ζ):=r7y;let X:i<W.β:=by rw[<-A];show(m9n).1
  let(ws,g,l):=Ni In;let Q:W.TC i []=ws:=by rw[pu,g];rfl
  let t:=d.ξ a;let u:=(s.row ws^v7g).1;show m7 (t__l) (zF^by rw[u];show J) (st,2,.P2^n'.of^t__eZ,0,ik! _,3);let U:ws.TC j 0=pRWij:=by unfold pR;rw[Q]
  rw[U];change if (A2 (.tV ((pRWij:χ):ω))^mJS)=π then _ else _
  rw[Yq!];cases z:S.Hr (pRWij)with
  |π=>
   show(k1_ E (a__b) (mI.X6 tv) ?_);rw[b5,yl,z];show(KY__).UH
  |ν=>
   show(k2Et (a__b) ?_);rw[b5,yl,z];simp
 .intro DysH'vdbb5;rw[k]at b5;subst b5;show(D,2,.UR (pG.of b,λpb5=>qp_ (d.ξ QBd) hJ))
def wx!:n9 [j4,uS] [j4]^hY jv!:=nU
def pq!(F:nEK "outside" "outside" jv! f fd)QAE QB8 QHF(fM:n4PwK mg υ "walked_machine" 6 [j4] QPD)(aM:rPPwK mg υ "told" 4 [u'] QSt):mTPwK mg υQBi 7 f fd [j4]^V1QAMtsC6:=by
 show F.okX wx! QAGQBL
 .obtain ⟨m,L,W,B,ζ,_⟩:=h;rfl
 .obtain ⟨m,L,W,B,ζ,hM,g,hW8,hA,qE,q⟩:=h;let hT:=hA_i0;let ap:=cT.Hu (j:=4) (!0);show(_,(lW (J5 [j4,uS] (j:=1) ζ wx.eR (!0) ζQBx (wVQBB)^λcl CbNs'H'=>(t7,RYQAD))^hF^k9^wUaM ap QAf^nG^m5fMcT^nG^p0^v5QBBQBBQAF),3);let(J,mk,M,h1,h2,h3,h4,AF):=id hM;let N:=g.n60;dsimp only[rZ,u9,v8,aR,vY,pS,vF,rO];show DN (a:=mk) QHtQJLh3 (λDjysH'=>ys=((B.Tx not).Uj j).Tx V.dW) (by rw[j',g.dW];show m6^n5N (!0)) QPF ?_ ?_
  .intro DjxysH'fTf5dAc9n Ib5k1k2;rw[na]at c9;let(b,cY,ζ):=r7c9;show hI (b,0,k1_H'I (mI.X6 ndA) ?_);rw[b5,FW,na,cY,pY];rfl
  .intro DysH1dAn Ib5;rw[j',<-j' (f:=not),XF]at b5;subst b5;let U:=n__h1;show(m7UbO^m7UfV (m6^by change 3≤16777216;decide,λtfP=>?_));let s2:=n.ξ^mI.mE (o:=.iT [.uM QBX,.ο J,.ο D]) fP;let S:_F.mE H1tQMot<*.iT [.uM QBX,.ο J,.ο D]:=hJ;let Y:=p5 (u:=.iT [.uM QBX,.ο J,.ο D]) IfP;generalize _F.mE H1 t QMo=bF at s2 S Y;let dS:oOL W^B.Tx not:={g with dW:=by rw[j'];show g.dW};let X:=GWhTs2;show(t,L,W,B.Tx not,0,(J,D,M,S,s2__h2,.P2 Y,h4,λiae=>by let(ws,e1,e2):=AFiae;show(ws,e1,s2__e2)),dS,X,λdYt'bGybTksaNwsr R Bm bJs3aAhWaTaS an d7 al fJg7l ZdWeFhG le=>?_);let M':KTtsHbJ:=(KT.of s2).ξ^KT.ofX eRi0s3XaA;let p:=J7 (Bm:=Bm) g.lt g7l ZdW^n5 le N;let O:pEL R Bm=C6LQOI:=oa! λuhO=>by
    unfold AC OC!;dsimp only;rw[J8g7l ZdWeFhO];rw[tp! 0 u.β uζ];let eI:=PJg (w:=u) g.n1 hO;change (B.Tx not).TC (n6L W 0 u) ν=π↔_;let eW:n6L W 0 u<B.β:=by rw[g.dW];show eI
    rw[pu,na,pu,mOeW];change (!B[n6L W 0 u])=π↔B[n6L W 0 u]=ν;rw[PA]
   show(dY,t',bG,y,bT,r,L,R,Bm,ws,0,hW,d7,al,fJ,an,by rw[Z];show g7.eN.UH,p,λivdO=>lm g7l ZpdO,λdH's'H6=>qEdH'QEI (O▸H6),λNOkdRcM hm ab as s4 hf dN=>?_);show qdR__cM (M'.ξ^KT.of s4) (dN,OT hm p,SO as)^(TV hm p ab).ξ O
def sD!:n9 [j4] [j4]^hY eX!:=nU
def td!(F:nEK "turned" "turned" eX! f fd)QAE QB8 QHF(Zj!:(vI,Tu.Au,)∈ts)(fJ:rPPwK mg υ "told" 4 [u'] QSt)(an:n4PwK mg υ "walked_turned" 6 [j4]^Tu.Bx cWvI Tu.Au)(ap:n4PwK mg υ "least" 7 [j4] QKf):mTPwK mg υQBi 8 f fd [j4] QQ4:=by
 show F.okX sD! QAG (λbYAb7sHvsQ EXh=>?_)
 .obtain ⟨m,L,W,B,ζ,_⟩:=h;rfl
 .obtain ⟨m,L,W,B,ζ,hM,n,hW8,hA,qE,q⟩:=h;let x:=hA_i0;let U:=X.Hu (j:=4) (!0);let S:=X.Hu (j:=6) (!0);show(_,(hF^k9^wUfJUQAf^nG^m5 an S^nG^m5 ap XQCu),3);show(m,L,W,B,0,hM,n,x,λf W1eYH1s1r al e=>?_);let kA:KTtsHH1:=KT.ofX eRi0s1xr;let l:=kA.dE hA_ Zj!;show(f,L,W1,eY,0,al,e.mach,n5 e.eN hW8,l,λdYtbGybTkswso R Bm bFs2 ab hWMd7J YDaCdWI le=>?_);let M':KTtsHbF:=kA.ξ^KT.ofX eR Zj! s2l ab;let b:=J7 (Bm:=Bm) n.lt DaCdW^n5 le (!0);let p:pEL R Bm=aOQOI:=hB! λu O=>by
   unfold AC wz!;dsimp only;let N:∀c∈u.UQ,c∈L:=λce8=>Oc^mem_reverse.mp e8;rw[J8DaCdWI O,oB! e.mach O,e.takes n N]
  show(dY,t,bG,y,bT,o,L,R,Bm,ws,0,hW,d7,J,Y,M,by rw[C];show D.eN.UH,b,λivdO=>lm DaCbdO,λdH's'H6=>qEdH'QEI (p▸H6),λNOkgbJ hm st Z s3gEeF=>?_);show qg__bJ (M'.ξ^KT.of s3) (eF,OT hm b,SOZ)^(TV hm b st).ξ p
def c_y!:n9 [o3,"with_empty","signs","begin","shut"] [o3,"with_empty","signs"]^hY Xr!:=nU
def Td!(F:nEK "short_machine" "short_machine" Xr! f fd)QAE QB8(O:(P0,hN,)∈ts)(Z:n4PwK mg υ "least" 7 [j4] QKf):mTPwK mg υms 8 f fd [o3,"with_empty","signs"]^iX! ts:=by
 show F.okA c_y! ?_;rintro _ _ _ _ H _ _ _ cT⟨L,S,iJ,ζ,J,hA,q⟩;show(_,(lW (m3 3 c_y.eR^D9GI (!4) T.Xp AU^nG^x9 [o3,"with_empty","signs","begin","shut"] ζ (!0) QUA^λcl CbNs'H'=>(t7,BH! (q7SIQADQAbQAN) mVmV))^lW (m3 4 c_y.eR^D9GI (!4) T.Xp AU^nG^x9 [o3,"with_empty","signs","begin","shut"] ζ (!0) QUA^λcl CbNs'H'=>(t7,mV))^hF^k9^m5ZcT^nG^p0^v5QAD (p0^v5QAbQBjQBj)^p0^v5QAFCRCR),3);let hz:(lYL).β≤Φ:=m6 (by rw[nJ];have:=J.g6;show S5 this);let gx:∀QEg{v:V},((lYL).Ym.Zh.Tx λc=>V.uM ⟨#[c]⟩)[i]?<*v->∃c,L[i]?=δc/\v=.uM QT2:=λ{iv}e=>by
  rw[na]at e;let(c,Y,ζ):=r7e;show(c,Y,0)
 dsimp only[rZ];dsimp only[u9,v8,aR,vY,pS,vF,rO];show jz! (j:=0) (x:=lYL) ζ (λDiysH'=>ys=(mJQBS).Uj i) hz (λDk=>!1) ?_ ?_
 .intro DixysH'fTf5kQh gdk1k2;let(c,X,ζ):=gx Q;let Y:=OWSc;show hI (4,3);let E:ys++[V.tV ((if S.Hr c then 1 else 2:χ):ω)]=(mJQBS).Uj (i+1):=by
   rw[d];show(uW ?_).UH;unfold mJ;rw[na,na,X];rfl
  change (if (!(Builtin.bE.ij (lYS) ⟨#[c]⟩ 0 (lYS).β 1).Yj)=π then fT (.tV 1) H' else fT (.tV 2) H');rw[Y];by_cases hs:S.Hr c=π
  .rw [mGhs]at E⊢;show k1_H'gQSvE
  .rw [mFhs]at E⊢;show k1_H'gQSvE
 intro DysH1k s1gd;rw[nJ,vJ^by rw[o8,j'];show nZ_]at d;subst d;show(D,2,.UR (pG.of g,λbcY=>?_));let s2:=s1.ξ^mI.mE (o:=.iT^mJQBS) cY;let s:_F.mE H1b (.iT^mJQBS) b=_:=hJ;generalize _F.mE H1 b (.iT^mJQBS)=bF at s2 s;dsimp only[rZ];dsimp only[u9,v8,aR,vY,pS,vF,rO];show jz! (j:=0) (x:=lYL) ζ (λDiysH'=>ys=(mJQPN).Uj i) hz (λDk=>!1) ?_ ?_
 .intro DixysH'fTf5kQh gdk1k2;let(c,X,ζ):=gx Q;show hI (k1_H'gQSv ?_);rw[d];show(uW ?_).UH;unfold mJ;rw[na,na,X];rfl
 intro rRysbJ ab s3td;rw[nJ,vJ^by rw[o8,j'];show nZ_]at d;subst d;show(rR,2,.UR (pG.of t,λy p=>?_));let N:3≤Φ:=m6 (by change 3≤16777216;decide);show(N,λro! R=>(N,λmk U=>(N,λm hm=>?_)));let s4:=mI.mE (o:=.iT^mJQPN) p;let M:=mI.mE (o:=.iT [.ο b,.ο y,.ο y]) R;let A:=mI.mE (o:=.iT [.dW iJ,.dW π,.dW ν]) U;let l:=mI.mE (o:=.iT [.uM QBX,.ο ro!,.ο mk]) hm;let yt!:=s2.ξ^s3.ξ^s4.ξ QMp;let kA:KTtsH_:=KT.of yt!;show(m,L,Sp! L S,[iJ,π,ν],0,(ro!,mk,[b,y,y],hJ,l__^A__hJ,l__hJ,0,λire=>?_),Tv! J,kA.dE hA_ O,λf WBH'l8dEhMI=>?_)
 .let h1:=(s4.ξ QMp) __^s3__ s;let h2:=QMp__^hJ (H:=bJ) (a:=y) (o:=.iT^mJQPN);match i with
  |0=>cases e;show(2,h1)
  |1=>cases e;show(2,h2)
  |2=>cases e;show(2,h2)
  |n+3=>simp at e
 .refine qf WBH' (kA.ξ^KT.ofX eROl8 (kA.dE hA_ O) dE) (hM,I.mach,n5 I.eN^by change 3≤8;decide) ?_;rw[<-Ck!];show pF λu=>(λz=>(z.1,(I.takes (Tv! J) z.1).UH.ξ z.2),λz=>(z.1,(I.takes (Tv! J) z.1).ξ z.2))
def e_b!:n9 [o3,"shape","kind"] [o3,"shape"]^hY FK!:=nU
def Te!(F:nEK "piece_machine" "piece_machine" FK! fm)QAE(a:n4PwK mg υ "short_machine" 8 [o3,"with_empty","signs"]^iX! ts):mTPwK mg υms 9 fm [o3,"shape"]^By! ts:=by
 show F.okA e_b! ?_;rintro _ _ _ _ H _ _ _ h⟨L,t,v,ζ,g,l,b,d,q⟩;show(_,(lW (m3 2 e_b.eR QMg)^lW (mSQSw (hF^k9^m5ah^v5QAD (CR) QMg)^m8)^hF^k9^m5ah^v5QAD (xPD8QAOj5QBZ)^BH! QSwQADj5),3);let i:bE.WK ""=lY []:=by decide +kernel
 rcases l with⟨k,ζ⟩|⟨c,ζ⟩
 .obtain ⟨p,ζ,b5⟩:=g;let e:n'KHp [.uM^WMk]:=n'.of b5;cases k with
  |X5=>
   show QD9;show(5,nI (!3) ?_);show(L,[],ν,by rw[i];rfl,b,d,q)
  |X7=>
   show QD9;show(5,nI (!3) ?_);show(L,[],π,by rw[i];rfl,b,d,q)
  |I9=>
   show QD9;show(5,rT (!3) ?_);show(L,L,ν,0,b,d,q)
 .obtain ⟨p,ζ,b5⟩:=g;show(m7b5bO (0,rT (!3) ?_));show m7b5fV (L,[c],ν,0,b,d,q)
def h_O!:n9 ["kind","machines","one","two"] ["kind","machines"]^hY fi!:=nU
def TX!(F:nEK "joined" "joined" fi! fD)QAE(y:rPPwK mg υ "outside" 7 [j4]^V1QAMtsC6)(t:rPPwK mg υ "turned" 8 [j4] QQ4)(x:rPPwK mg υ "again" 8 [j4] QSx)(C:rPPwK mg υ "either" 7 [j4,"second"]^C8QAMtsIA)(u:rPPwK mg υ "less" 7 [j4,"second"]^C8QAMtsN5)(r:rPPwK mg υ "both" 7 [j4,"second"]^C8QAMtsRO)(v:rPPwK mg υ "then" 8 [j4,"second"]^C8QAMtsaF):mTPwK mg υQBi 9 fD ["kind","machines"]^ja! QAMts:=by
 show F.okX h_O! QAG (λbYAb7sHvsQ Eoh=>?_)
 .obtain ⟨p,L,S,_,_,_,⟨k,m,W,B,ζ,_⟩|⟨k,m,m2,W,l,B,n,ζ,_⟩⟩:=h<;>rfl
 .obtain ⟨p,L,S,g,e,q,h⟩:=h;let d:=o.Hu (j:=7) (!0);show(_,(lW (m3 2 h_O.eR^qMQAFmV)^lW (mSQCV (hF^k9^wUydQAfQFG)^m8)^lW (mSQCV (hF^k9^wUtoQAfQFG)^m8)^lW (mSQCV (hF^k9^wUxoQAfQFG)^m8)^lW (m3 3 h_O.eR^qMQAFmV)^lW (mSQCV (hF^k9^wUCdQAfQDN)^m8)^lW (mSQCV (hF^k9^wUudQAfQDN)^m8)^lW (mSQCV (hF^k9^wUrdQAfQDN)^m8)^hF^k9^wUvoQAfQDN),3);rcases h with⟨k,m,W,B,ζ,b5,b,ζ⟩|⟨k,m,m2,W,l,B,n,ζ,b5,b,a,ζ⟩
  .let i:pGKHp [.ο m]:=pG.of b5;show QPs;cases k with
   |WA=>show QCp
   |T7=>show(0,nI (!3) QCp)
   |again=>show(0,nI (!3) (0,nI (!3) QCp))
  .let i:pGKHp [.ο m,.ο m2]:=pG.of b5;show QPs;cases k with
   |YH!=>show(0,nI (!3) (0,nI (!3) (0,nI (!3) (p,_,4,i,r8 (j:=1) ζ,QMq))))
   |less!=>show(0,nI (!3) (0,nI (!3) (0,nI (!3) (p,_,4,i,r8 (j:=1) ζ,(0,nI (!3) QMq)))))
   |both!=>show(0,nI (!3) (0,nI (!3) (0,nI (!3) (p,_,4,i,r8 (j:=1) ζ,(0,nI (!3) (0,nI (!3) QMq))))))
   |WG=>show(0,nI (!3) (0,nI (!3) (0,nI (!3) (p,_,4,i,r8 (j:=1) ζ,(0,nI (!3) (0,nI (!3) (0,nI (!3) QBC)))))))
def c_D!:n9 [o3,"shape","kind","machines","refusal"] [o3,"shape"]^hY M_!:=nU
def iw!(F:nEK "machine_of" "machine_of" M_! f fd)QAE(g:G6K mg QAMQEGB1 fdX)(a1:n4PwK mg υ "piece_machine" 9 [o3,"shape"]^By! ts)(a3:rPPwK mg υ "joined" 9 ["kind","machines"]^ja! QAMts)(J:mg "machine_of"<*.ο f)(aV:p6K fd [o3,"shape"] []):mTPwK mg υQBi 22 f fd [o3,"shape"]^T1QAMts 12:=by
 let eN:∀nvsHQ E,T1QAMtsnvsHQ E->vs.β=[o3,"shape"].β:=λnvsHQ Eh=>by
  let(L,t,v,ζ,_):=h;rfl
 let u7:∀n:χ,mTPwK mg υQBi (n+10) f fd [o3,"shape"]^T1QAMtsn:=by
  intro n;induction n with
  |qW=>show(eN 0,λ______vsQ E____h=>by let(L,t,v,_,_,hd,_):=h;have:=t.dep_pos;lia)
  |qV n gP=>
   let a2:rPPwK mg υ "machine_of" (n+10) [o3,"shape"]^T1QAMtsn:=(f,fd,J,F.C9,aV,gP);show F.okX c_D! (eN_) QBL;let(L,t,v,ζ,Z,hd,Gs,hA,qE,q):=h;let al:=cT.Hu (j:=9) (!6);show(_,(lW (m3 2 c_D.eR QMg)^lW (mS ((tGQSw^xO^uUQJnmV).pt) (hF^k9^m5a1 al QDK)^m8)^lW (mr! [o3,"shape","kind","machines","refusal"] (j:=3) Rw! ζ c_D.eR (!0) ζQBx (wV^yI hj! QAFQMrz8)^λcl CbNs'H'=>(t7,wUa2cT (Ft! ζ)^m4QAFQAD))^hF^AL! (E:=E) (i:=4) ζζζζ c_D.eR ζζQBxQBxζ g.M' (!0) g.own g.fn (pz! g T.oh) gv! cT (g.ini.binds (ps:=["self",j9,"tails","part"])^λ______useG=>by let(_,_,_,_,ζ):=Oh! eG;rfl) (λv=>v5 (EG (f:=j9) KQBj) (EG (f:="tails") KQBj) QAF)^Ru! a3 al QDN),3);let l3:3≤Φ:=m6 (by change 3≤16777216;decide);rcases tn! Z hd with⟨k,ζ⟩|⟨c,ζ⟩|⟨p,nm,us,eF,ζ,b5,hul!,h1,h2,dS,hpt,hZ⟩
   .obtain ⟨p,ζ,b5⟩:=id Z;show(m7b5bO (0,nI (by cases k<;>decide +kernel) ?_));show(p,2,.P2 QD2,0,rTζ ?_);show(L,1,Z,.UR (k,0),Gs,hA,λf WBH'k1me=>qf WBH'k1me λpb5=>by rw[o6b5];show(W,B,m.ma,m.le,e))
   .obtain ⟨p,ζ,b5⟩:=id Z;show(m7b5bO (0,rT (!3) (?_)));show(L,1,Z,.P2 (c,0),Gs,hA,λf WBH'k1me=>qf WBH'k1me λpb5=>by rw[o6b5];show(W,B,m.ma,m.le,e))
   let aN:¬ QHW:=λz=>by
    have:=V.tV.WZ z;rw[oY]at this;show Gw! this h1
   show(m7b5bO (0,nI (λz=>dS^V.uM.WZ z) ?_));show(p,2,.P2 QD2,0,nIaN ?_);dsimp only[rZ];dsimp only[u9,v8,aR];let hG:∀QAu(U:cF),eF[i]?<*U->∀p∈U.I1,p∈t.I1:=λi Uepe9=>by
    rcases hZ with⟨k,x,ζ,ζ,ζ⟩|⟨k,x,y,ζ,ζ,ζ⟩
    .rw [o6^v7e]at e9;show qO_e9
    .refine qO_ (lp.Ui ?_);rcases u3.mp (v7e)with ζ|z
     .exact .UR e9
     .rw [o6z]at e9;show .P2 e9
   let fJ:yA (V.uM nm::us) (δ 1) ε=us:=(cL! (xs:=V.uM nm::us) (t:=1)^by rw[oY];show FJ).ξ ζ;show uB! (xs:=us) (P1:=λa Y=>KTtsH Y) (λRh=>(2,p,2,n'.of b5,3,λaeM=>?_)) (λYDiysH'=>vE (KTtsYH') (H'D<*.P' ys) (∃X:γ (θ×n0×γb9),vE (ys=X.Tx^λx=>V.ο x.1) (X.β=i) (∀QIL(x:θ×n0×γb9),X[j]?<*x->∃u,eF[j]?=δu/\xZH' x.1 L x.2.1 x.2.2/\pEL x.2.1 x.2.2=ac Lu/\DYLu))) (m6^n5h2 (!0)) ?_ ?_ ?_ ?_
   .rintro⟨z,_⟩;unfold ZC.uA at z;simp at z
   .rw [fJ];show ha_ (KT.of^mI.mE eM) hJ
   .rintro Y a D i ys H' a0⟨O,dA,X,ζ,J,_⟩;show(O.jN.iT __a0,dA,by rw[j',J])
   .exact λYDdA=>(KT.of^mI.mE dA,hJ,[],5,λjxe=>by simp at e)
   .rintro a Y D i x ys H' fT k1 dA c9⟨O,M,X,ζ,J,hms⟩go;let(U,S,eW,aT):=hpt ixc9;show(L,U,x,0,(eW.kt k1).kt O,aT,Gs,(k1.ξ O).dE hA,λdpcNbFk2b5=>qEdpcNbF ((k1.ξ O).ξ k2)^hGi U Spb5,λf WBbFk2hMeGaA=>?_);let N:=k2.jN.P' M;show go QArbFN ((O.ξ k2).X6 dAN,hJ,X++[(f,W,B,)],by rw[pY];rfl,by rw[o9,J];rfl,λjye=>?_);rcases EYe with z|⟨rfl,ζ⟩
    .obtain ⟨u,I,e2,e3⟩:=hms jyz;show(u,I,(e2.kt k2).X6 N,e3)
    .exact (U,by rw[J];show S,hM.X6 N,eG,aA)
   .rintro a Y D ys bF k1 dA⟨O,M,X,ζ,J,hms⟩;let k2:=k1.ξ O;let ab:∀dH',KTtsbFH'->P9H'd .vS LQCI->STKQAM 4 (SsQAM) (pS (sYK (aG 4) j9)^pS (sYK (aG 4) "tails")^pS (aG 1) tNil) E [δQAc,δQAl,δ^.uM nm,δQA0,ε] QFZQF8H':=by
     rintro d H' k3⟨l,l2,as,bW,ap,dN,an,r1,r2,RE,hk!⟩;show(g.exm,d,0,λe he=>?_);let sE:=mI.mE (o:=ANeQFZQF8) he;show(e,QAM,(d,π,),1,hJ,sE__ ap,g.lG,g.xc,g.na1,0,e,QAM,(d,π,),1,hJ,sE__ ap,g.lG,g.xc,g.na2,0,l3,λIr=>?_);let s1:=mI.mE (o:=rMIQAMε) r;let ne:I≠e:=λz=>by rw[z,hJ]at r;cases r
     show(I,l,l2,8,hJ,s1__^sE__dN,s1__^sE__ an,λe7d6 Xc! te! k6aSi8 le eIaUaMfM=>(0,δd6,ne,aS,3,3))
     .exact k6e_ (Ne.UH ne) (by rw[a'^Ne.UH ne,hJ])
     .let i9:mIH'^z9e7I:=λboz=>by
       let z1:=sE__z;let n1:b≠I:=oZz1r;rw[yNn1];show k6bon1^p5z1r
      let k6:=k2.ξ^k3.ξ^KT.of i9;show qEd6t__k6 t.self (Z.kt k6) (Xc!,te!,as,bW,by rw[yNi8];show aU,by rw[yN le];show aM,by rw[yNeI];show fM,r1,r2,RE,hk.Hu (λ__=>i9__) λ______z=>z)
    rcases hZ with⟨k,x,ζ,ζ,ζ⟩|⟨k,x,y,ζ,ζ,ζ⟩
    .obtain ⟨m,ζ⟩:=Md!^J.ξ hul!;let(u,I,e2,e3,e4):=hms 0 mζ;cases I;show(D,L,_,k2.dE hA,ab,λf WBH'k3ac=>qf WBH' (k2.ξ k3) a c^e4.uR a.ma a.le c,.UR (k,m.1,m.2.1,m.2.2,0,M,e2,by rw[e3];rfl))
    .obtain ⟨m,m2,ζ⟩:=Ie!^J.ξ hul!;let(u,I,e2,e3,e4):=hms 0 mζ;let(u2,f1,f2,f3,f4):=hms 1 m2ζ;cases I;cases f1;show(D,L,_,k2.dE hA,ab,λf WBH'k3ac=>qf WBH' (k2.ξ k3) a c^e4.rE f4 a.ma a.le c,.P2 (k,m.1,m2.1,m.2.1,m2.2.1,m.2.2,m2.2.2,0,M,e2,f2,by rw[e3,f3];rfl))
 show u7 12
def f_L!:n9 ["text","sign"] ["text"]^hY wh!:=nU
def iy!(F:nEK "is_letters" "is_letters" wh! fq)QAE:mTPwK mg υms 1 fq ["text"] sp_isletters2!:=by
 show F.okA f_L! ?_;rintro _ _ _ _ H _ _ _ _⟨L,ζ,p,q1,q2⟩;show(_,(lW (mS (tY^mo! sOsOmVQG8mV) QAd^m8)^lW (t6 U_.X5 ζQUA (z0 1 f_L.eR)^hF^mS ((tG (tY^mo! jj! jj! j5QAFj5)^xO^q7 Ev (LU plainAttrs_str! Δ.F.slot_str_count Δ.F.type_str_count ZK! QADQEe) mVQBZ).pt) QAd^m8) QAd),3);let hz:(lYL).β≤Φ:=p.Zm;show(2,hz,4,2,p9QKg^λh1=>C3^q2 λg=>h1^by rw[nJ];have:=g.lo;lia);show(4,3);by_cases k:((lYL).β:ω)≤3
 .refine zEk ?_;rw[nJ]at h1 k;show(2,rc! (x:=lYL) (λimH'=>∃n,vE (m=[δQAc,n]) (H'=H) (∀c∈L.Uj i,QKM/\L.count c≤1)) (ε,5,λcb=>by simp at b) ?_ ?_)
  .rintro i c m s b⟨n,ζ,ζ,a⟩;rw[Z3]at b;let j:c∈L:=v7b;show(4,2,3);rw[Bb!,xi!];show p9 (λo=>?_) (λo=>C3^C3^q2 λg=>o (g.eW cj).1);show(4,3);rw[Bl!,xi!];by_cases l:c≤122
   .refine zEl (0,4,4,3);rw[DC!];show p9 (λr=>q2 λg=>?_) (λr=>?_)
    .have:=γ.nodup_iff_count.mp g.eR c;lia
    .refine (2,0,λdh=>?_);rw[FW,b]at h;rcases lp.mp h with h|h
     .exact a dh
     .let e:d=c:=by simpa using h
      subst e;show((o,l),9)
   .rw [pIl];show(C3^q2 λg=>l (g.eW cj).2)
  .rintro m s⟨n,ζ,ζ,a⟩;rw[nJ,XF]at a;show q1 (9,9,γ.nodup_iff_count.Ui λc=>?_,λcb=>(a cb).1);by_cases b:c∈L
   .exact (a cb).2
   .rw [γ.count_eq_zero_of_not_mem b];lia
 .rw [pIk];show(q2 λg=>k^by rw[nJ];have:=g.g6;lia)
def Tf!:n9 [o3] [o3]^hY Na!:=nU
def dD!(F:nEK "need_letters" "need_letters" Na! fg)QAE(d:n4PwK mg υ "is_letters" 1 ["text"] sp_isletters2!):mTPwK mg υQBi 2 fg [o3]^XC! QCH:=by
 show F.okX Tf! QAG (λbYAb7sHvsQ Eeh=>?_)
 .obtain ⟨L,ζ,_⟩:=h;rfl
 .obtain ⟨L,ζ,b,q1,q2⟩:=h;show(_,(hF^mS (tY^qY^m5deQCu) (hF^Hx! ζ Wk! T.oB_ QVx^nG^Pz! (c:=dk! 0) (IB!,Py! 0 QADQU2,trivial))^m8),3);by_cases a:ww L
  .exact (L,0,b,λ_=>CO^q1a,λn=>(n a).Q5)
  .exact (L,0,b,λy=>(ay).Q5,λ_=>(b.txt ζ,λx=>(m6^by change 1≤16777216;decide,q2a)))
def ip!:n9 ["sign"] ["sign"]^hY Nb!:=nU
def ix!(F:nEK "is_wanting" "is_wanting" Nb! fa)QAE:mTPwK mg υms 1 fa ["sign"] sp_iswanting!:=by
 show F.okA ip! ?_;rintro _ _ _ _ H _ Q _ _⟨ch,ζ,q⟩;show(_,(hF^k9^xPSIQADj5QAN),3);show(_,lY [33,60,40,38,124,45],0,oR V.uM (!3),3);change Q (.dW (!(Builtin.bE.ij (lY [33,60,40,38,124,45]) ⟨#[ch]⟩ 0 (lY [33,60,40,38,124,45]).β 1).Yj)) H;rw[OW];show q
def ft!:n9 [o3,"sign","wanting","depth"] [o3,"sign","wanting","depth"]^hY Nc!:=nU
def kl!(F:nEK "can_stand" "can_stand" Nc! fk)QAE:mTPwK mg υms 1 fk [o3,"sign","wanting","depth"] sp_canstand!:=by
 show F.okA ft! ?_;rintro _ _ _ _ _ _ _ _ _⟨L,ch,w,dd,ζ,q⟩;show(_,(lW (mS ((tG (q7SIQAFQADQAN)^xO^q7SIQAFj5QAN).pt) QAd^m8)^lW (mSQIu (hF^k9^D2 (xP Ev QAbmVQBZ)^HT^RYQAO)^m8)^hF^k9^D2 (xPSIQAFj5QAN)^HT^RYQAO),3);unfold u0 at q;show(4,3);let j:=OWL ch;let i:=OW [48,49,46,33,60,40] ch;let h:=OW [42,38,124,45] ch;show M0QKgQKg
 .rw [mG^by rw[<-j];rw[show(!(Builtin.bE.ij QBX ⟨#[ch]⟩ 0 (lYL).β 1).Yj)=π from h1];rfl]at q;show q
 let g:L.Hr ch=ν:=j.UH.ξ h1;show(_,lY [48,49,46,33,60,40],0,oR V.uM (!3),M0QOOQOO)
 .rw [mG^by rw[show[48,49,46,33,60,40].Hr ch=π from i.UH.ξ h2,b9.or_true]]at q;show q
 let d:[48,49,46,33,60,40].Hr ch=ν:=i.UH.ξ h2;rw[mF^by rw[g,d];decide]at q;show(0,p9QMNQMN)
 .rw [mG^(S8 (!3)).mp b]at q;show(4,2,3);show p9 (λa=>(2,3)) (λa=>?_)
  .rw [uO^show 0<dd by lia,b9.true_and]at q;show q
  .rw [pI^show ¬ 0<dd by lia,b9.false_and]at q;show q
 .rw [mF^λe=>b^(S8 (!3)).Ui e]at q;show(_,lY [42,38,124,45],0,oR V.uM (!3),2,M0 (λa=>(2,3))^λa=>?_)
  .rw [show[42,38,124,45].Hr ch=π from h.UH.ξ a,b9.true_and]at q;show q
  .rw [show[42,38,124,45].Hr ch=ν from h.UH.ξ a,b9.false_and]at q;show a▸q
def a_M!:n9 [o3,"text","depth","wanting","at","sign"] [o3,"text"]^hY Nd!:=nU
def dC!(F:nEK "need_pattern" "need_pattern" Nd! f J)QAE(A:n4PwK mg υ "can_stand" 1 [o3,"sign","wanting","depth"] sp_canstand!)(B:n4PwK mg υ "is_wanting" 1 ["sign"] sp_iswanting!):mTPwK mg υms 2 f J [o3,"text"] sp_needpattern!:=by
 show F.okA a_M! ?_;rintro _ _ _ _ H _ _ _ C⟨L,w,ζ,y,t,q⟩;show(_,(lW (m3 2 a_M.eR^mV)^lW (m3 3 a_M.eR^CR)^lW (t6 U_.X5 ζ (UZζ T.enum QEe) (FMζ^wM (z0 4 a_M.eR)^wM (z0 5 a_M.eR) HV)^lW (mS (tY^qY^m5AC^rNQAD^v5QBtQAbQAO) QQ3^m8)^lW (mS (uUQBtj5) (hF^m3 2 a_M.eR QIZ)^m8)^lW (mS (uUQBtj5) (hF^m3 2 a_M.eR^mZNTQAOmV)^m8)^hF^m3 3 a_M.eR^m5BC^nGQBt)^hF^mS ((tG (qYQAb)^xO^q7 Ev QAOmVQBZ).pt) QQ3^m8),3);show(.lY QMR 0,2,0,λ_=>QD! (x:=lYw) (λimH'=>E4 λ(dd:χ)(b:b9)(s:ψ V)(r:ψ V)=>vE (m=[δQAc,δQBT,δ^.tV (dd:ω),δQGI,s,r]) QHu (scan L dd b^w.Gd i<*QSl)) ((0),π,ε,ε,0,mI.Kx H,t) ?_ ?_)
 .rintro i ch p m D v b5⟨dd,b,s,r,ζ,n,e⟩;rw[Z3]at v;let E:i<w.β:=(m9v).1;let u:w[i]=ch:=(m9v).2;rw[γ.fx E,u]at e;let a:u0L ch b dd=π:=by
   replace e:(if u0L ch b dd=π then _ else ε)<*QSl:=e;by_cases h:u0L ch b dd=π
   .exact h
   .rw [mFh]at e;cases e
  let g:scan L (F7 ch dd) (zW ch) QRm<*QSl:=by
   replace e:(if u0L ch b dd=π then _ else ε)<*QSl:=e;rw[mGa]at e;show e
  let j:=n.ξ^mI.mE (o:=.iT [.tV (i:ω),.uM ⟨#[ch]⟩]) b5;show(p,2,n'.of hJ,0,1,4,3);show(L,ch,b,dd,0,3);rw[a];by_cases l:ch=40
  .subst l;show(0,rTQVB (4,3));show(0,nI (λh=>mW ((S8 (x:=41) (!3)).mp h) (!0)) ((40),0,3));show(dd+1,8,j,g)
  show(0,nI (λh=>lQVy) ?_);by_cases k:ch=41
  .subst k;let I:0<dd:=by
    unfold u0 at a;by_cases d:(L.Hr 41||[48,49,46,33,60,40].Hr 41)=π
    .exfalso;rw[IP]at d;rcases d with z|z
     .have:=y 41 QTv;lia
     .revert z;decide
    .rw [mFd,mGζ]at a;have:=(xI__).mp a;show VG this.1
   obtain⟨d',ζ⟩:∃d',dd=d'+1:=(dd-1,9);show(0,rTQVB (4,((41),0,3)));show(d',_,δQEo,δ^.uM ⟨#[41]⟩,3,j,g);change _=[δ^V.uM QBX,δ^V.uM QMR,δ^V.tV ((d':χ):ω),δ^V.dW^zW 41,δ^V.tV (i:ω),δ^V.uM ⟨#[41]⟩];rw[show((d':χ):ω)=((d'+1:χ):ω)-1 by lia];rfl
  show(0,nI (λh=>kQVy) (ch,0,3));rw[Dc! l k]at g;show(dd,8,j,g)
 .rintro m D⟨dd,b,s,r,ζ,n,e⟩;rw[nJ,γ.drop_length]at e;cases e;show(4,nI (!0) ?_);show qDn
def mf!:n9 ["token"] ["token"]^hY Nf!:=nU
def Kj!(F:nEK "piece_of" "piece_of" Nf! f r)QAE(g:I'PwK mg υccP):mTPwK mg υms 3 f r ["token"]^vb! c:=by
 show F.okA mf! ?_;rintro _ _ _ _ H _ Q _ m⟨t,ζ,i,q⟩;let(z,p,u,y,s):=g.aD;show(_,(lW (mSQCV (hF^k9^Im! (g.mk0 .X5) ζ^g.kc QBQ)^m8)^lW (mSQCV (hF^k9^Im! (g.mk0 .X7) ζ^g.kc QGl)^m8)^lW (mSQCV (hF^k9^Im! (g.mk0 .I9) ζ^g.kc QM')^m8)^hF^k9^FOuymζ (g.kc .yV) s .nS iFQCu),3);let mk:∀(k:jG)(x dx:θ),Hx=ε->H dx=ε->dx≠x->(∀vH',mIHH'->uVcH'QKXv->Qv H')->Q QCd^mEQFtx^.TM (cQKX) dx []:=λkx dx hadq=>
  q _ _ (B5 (o0:=.own x) ha λboen=>by rw[a'n]at e⊢;show e) (x,dx,0,hJ)
 cases t with
 |yT k=>
  cases k with
  |X5=>show(0,rT (!3)^λx dx had=>mk .X5 x dx hadq)
  |X7=>show(0,nI (!3) (0,rT (!3)^λx dx had=>mk .X7 x dx hadq))
  |I9=>show(0,nI (!3) (0,nI (!3) (0,rT (!3)^λx dx had=>mk .I9 x dx hadq)))
 |yV ch=>
  show(0,nI (λe=>B8 (l:=[110,101,118,101,114]) (!3) (by intro e;simp at e) QIq) (0,nI (λe=>B8 (l:=[101,109,112,116,121]) (!3) (by intro e;simp at e) QIq) (0,nI (λe=>B8 (l:=[97,110,121]) (!3) (by intro e;simp at e) QIq) ?_)));show λx dx had=>(x,7,dx,0,hJ,(g.pc _).cl,(g.pc _).cg,λAk1j=>(0,q__ (B5hak1) (x,dx,0,j)))
 |uR _ _=>show(show oA from i).Q5
 |rE _ _ _=>show(show oA from i).Q5
def Co!:n9 ["kind","left","right"] ["kind","left","right"]^hY Ng!:=nU
def pk!(F:nEK "pair_of" "pair_of" Ng! fp)QAE(b:I'PwK mg υccP):mTPwK mg υms 3 fp ["kind","left","right"]^Le! c:=by
 show F.okA Co! ?_;rintro _ _ _ _ _ _ _ _ j⟨k,u,g,x,y,ζ,i,h,q⟩;let(r,o,l,m,bP):=b.Et;show(_,(lW (mSQCV (hF^k9^FO (l .YH) mjζ (b.kc^.rE .YH) bP .nS iFQGA)^m8)^lW (mSQCV (hF^k9^FO (l .less) mjζ (b.kc^.rE .less) bP .nS iFQGA)^m8)^lW (mSQCV (hF^k9^FO (l .both) mjζ (b.kc^.rE .both) bP .nS iFQGA)^m8)^hF^k9^FO (l .WG) mjζ (b.kc^.rE .WG) bP .nS iFQGA),3);cases k with
 |YH!=>show QNB
 |less!=>show(0,nI (!3) QNB)
 |both!=>show(0,nI (!3) (0,nI (!3) QNB))
 |WG=>show(0,nI (!3) (0,nI (!3) (0,nI (!3) QAI)))
def h_L!:n9 ["desk","strength","kind","last"] ["desk","strength"]^hY iL!:=nU
def tq!(F:nEK "settle" "settle" iL! f fd)QAE(O:I'PwK mg υccP)(g:R5PwK mg υcbRd1d2d3)(fM:n4PwK mg υ "pair_of" 3 ["kind","left","right"]^Le! c):mTPwK mg υms 4 f fd ["desk","strength"]^fo! cbR:=by
 show F.okA h_L! ?_;rintro _ _ _ _ H _ _ _ cT⟨d,dx,pa,wa,us,ps,ws,n,ps',ws',ζ,D,g9,U,aS,q⟩;let(ck!,aU,MU,GU,bU):=O.d_;let W:=cT.Hu (j:=2) (!0);show(_,(hF^W8 U_.X5 (q7LE (Di! g.dT (GF (v:=.ο d3) (!4) g.M' ζ)^m4 (qM (vA (cN 0) ζ)^vh! Hv! mV) mV) (cN 1)^ym! _)
  (lW (m3 2 h_L.eR^O9I4 slot_list_pop! type_list_pop! YT^vA (cN 0) ζ)^lW (m3 3 h_L.eR^O9I4 slot_list_pop! type_list_pop! YT^vA (cN 0) ζ)^hF^mS (uU (cN 2) j5) (hF^rW^xN (vA (cN 0) ζ)^FO (MU .WA) GUWζ (O.kc^.uR .WA) bU .nS iF^nG^cN 3)^hF^mS (uU (cN 2) j5) (hF^rW^xN (vA (cN 0) ζ)^FO (MU .T7) GUWζ (O.kc^.uR .T7) bU .nS iF^nG^cN 3)^hF^rW^xN (vA (cN 0) ζ)^m5fMcT^v5 (cN 2) (O9I4 slot_list_pop! type_list_pop! YT^vA (cN 0) ζ)^cN 3)),3)
 show lr! (λYH'=>E5 λEea s2s3=>A5 (Y=[δQDC,δ^.tV (n:ω),s2,s3]) (E7 pa wa HH') (ATcbRH'd dx pa wa Eea) (yOnea<*QGe) (e.β≤ps.β))
  (λYH'=>match H' wa with|δ (.P' l)=>l.β|_=>0) (us,ps,ws,ε,ε,0,E7.Kx ___,D,U,nZ_) ?_ ?_
 .rintro Y S⟨E,e,a,s2,s3,ζ,off,A,hs1,I⟩;cases a with
  |nS=>cases hs1
  |nF Z a=>
  show(0,d,_,dx,1,A.eA,g.cl,g.nW,TP__,2,q8 A.wtop (tw! __) (Sum.P2^sWZ,2,3));rw[ke!];show(4,p9 (λfJ=>?_)^λfJ=>?_)
  .let hge'!:n≤Z.uM:=by lia
   let rU:∀{bF:m1}{l:γ V},bF wa<*.P' l->l.β=a.β->(match bF wa with|δ (.P' l)=>l.β|_=>0)<(match S wa with|δ (.P' l)=>l.β|_=>0):=λh1h2=>by
    rw[h1,A.wtop];change γ.β _<γ.β (_++_);rw[γ.length_append,γ.length_map,γ.w6,h2];show χ.A6 _
   show(d,_,dx,1,A.eA,g.cl,g.nW,TP__,.UR (0,_,pG.of A.wtop),wa,4,A.wtop,SG,3);rw[ZI];let m:=A.popW;let L:=off.ξ^E7.w (pa:=pa) (wa:=wa) (H:=S) (o:=.P'^a.UQ.Tx wv);replace hs1:(if n≤Z.uM then _ else δ (e,Z::a,))<*QGe:=hs1;rw[mG hge'!]at hs1;match Z,e,A,m,hs1 with
   |.un k,x::qs,A,m,hs1=>
    let(u,C,ζ):=m.uR ζ;let(i,hO):=m.popP;show QDh;rw[ZI];let s:=L.ξ^E7.p (pa:=pa) (wa:=wa) (o:=.P' C.UQ);let ap:=i.pt.eN;let mk:∀(z J:θ)(B:m1),QGSz=ε->mIQGSB->Bz<*.TM (c^.uR k.k1) J^am "inner" u []->
      rAppend! (.ο pa) [.ο z] B (λ_d8=>(E5 λEer s2s3=>A5 (([δ^.ο d,δ^.tV (n:ω),δ^wv^.un k,δu]:St)=[δ^.ο d,δ^.tV (n:ω),s2,s3]) (E7 pa wa Hd8) (ATcbRd8d dx pa wa Eer) (yOner<*(ps',ws',)) (e.β≤ps.β))/\
       (match d8 wa with|δ (.P' l)=>l.β|_=>0)<(match S wa with|δ (.P' l)=>l.β|_=>0)):=by
     intro z JB hz Rt;let Q:=i.Ki R;let X:uVcB (.uR k.k1 x) QGN:=(z,J,u,0,t,hO.C9^mI.C9 R);show(pa,4,Q.pl,HY^by rw[w6];simp at I;lia,(7,8,s.ξ QRn,Q.pushP X,hs1,by simp at I⊢;omega),rU (l:=a.UQ.Tx wv) (by rw[a'^Ne.UH Q.ne];show Q.wl) (!1))
    cases k with
    |WA=>
     show QA'
    |T7=>
     show(0,nI (!3) QA')
   |.bin k,y::x::qs,A,m,hs1=>
    let(u,C,ζ):=m.uR ζ;let(i,hO):=m.popP;let(u2,M,ζ):=i.uR ζ;show QDh;rw[ZI];let(Q,eF):=i.popP;let s:=L.ξ^(E7.p (pa:=pa) (wa:=wa) (o:=.P' (u2::M).UQ)).ξ^E7.p (pa:=pa) (wa:=wa) (o:=.P' M.UQ);let ap:=Q.pt.eN;let al:=hO.C9^F3.P' (o:=.P' M.UQ) i.pl;let aT:∃b,V.dW ν=V.dW b/\vN:=(2,trivial);let n1:¬ (wv QO0=V.uM^bE.WK "outside"):=by cases k<;>decide +kernel
    let n2:¬ (wv QO0=V.uM^bE.WK "turned"):=by cases k<;>decide +kernel
    show(0,nIn1 (0,nIn2 ?_));show(d,_,dx,1,i.eA,g.cl,g.nP,L7__,.UR (0,_,pG.of i.pl),d,_,dx,1,i.eA,g.cl,g.nP,L7__,.UR (0,_,pG.of i.ptop),pa,4,i.ptop,SG,3);rw[ZI];show(k,u2,u,x,y,0,eF,al,λv4B R ab=>?_);let Wa!:=Q.Ki R;show(pa,4,Wa.pl,HY^by rw[w6];simp at I;lia,(7,8,s.ξ QRn,Wa.pushP ab,hs1,by simp at I⊢;lia),rU (l:=a.UQ.Tx wv) (by rw[a'^Ne.UH Wa.ne];show Wa.wl) (!1))
  .let hge'!:Z.uM<n:=by lia
   rw[SU hge'!]at hs1;cases hs1;show q__ off A
 .rintro Y S Q1 Q2 NG⟨e0,h⟩;let(v1,e1,p1,aN,aM,f1,w1,e2,e3,e4,e5,AA,v2,B0,p2,x2,i2,z2,GN,GS,dN,dS,k2,z3,aA,h):=aG.gT h;let(v3,eW,UI,Uw!,eI,as,q1):=aG.gT h;show(e0,.of e1 (p1,aN,aM,f1,w1,e2,e3,e4,e5,AA,v2,B0,p2,x2,i2,z2,GN,GS,dN,dS,k2,z3,aA,.of eW (UI,Uw!,eI,as,NG__q1)))
def Tg!:n9 ["desk","token"] ["desk","token"]^hY vQ!:=nU
def Th!(F:nEK "put" "put" vQ! f fd)QAE(J:I'PwK mg υccP)(h:R5PwK mg υcbRd1d2d3)(H:n4PwK mg υ "settle" 4 ["desk","strength"]^fo! cbR)(eF:n4PwK mg υ "piece_of" 3 ["token"]^vb! c):mTPwK mg υms 5 f fd ["desk","token"]^vy! cbR:=by
 show F.okA Tg! ?_;rintro _ _ _ _ _ vs _ _ I⟨d,dx,pa,wa,us,ps,ws,b,ps',ws',ζ,D,n,a,Z,ap,q⟩;let(ck!,fJ,MU,GU,bU):=J.d_;let U:=I.Hu (j:=2) (!0);let S:=I.Hu (j:=3) (!0);show(_,(hF^mS (q7SJQAF (p0^v5j5j5j5) QAN) QPt^hF^mS (q7SJQAF (p0^rNj5^v5j5j5j5) QAN) (lW (rW^m5H I^m4QAD^mM (Aw! h.dT) (GF (v:=.ο d3) (!4) h.M' ζ) QAFQAQ) QPt)^hF^mSQIu (lW (rW^m5H I^m4QAD^mV)^hF^rWQHG)^hF^mSQIu (hF^rW^xNQFa^FO (MU .again) GUUζ (J.kc^.uR .again) bU .nS iF^nGQHG)^hF^rW^xNQFa^m5eFSQEe),3);let l3:3≤Φ:=m6 (by change 3≤16777216;decide);let C_!:4≤Φ:=m6 (by change 4≤16777216;decide);let Y:=D.pt.eN;show(l3,λp1X=>(p1,2,.P2 QVC,5,3));let t1:=HL! n;let O:=mI.mE (o:=.iT [.uM^bE.WK "(",.uM^bE.WK "outside",.uM^bE.WK "turned"]) X;let L:=D.Ki O;show M0QKgQKg
 .
  let s:xy! b=π:=t1.UH.ξ h1;let hw:∃E,wv E=gGb/\ps'=ps/\ws'=E::ws:=by
   cases b with
   |jM=>cases a;show(.jM,5,0)
   |un k=>cases a;show(.un k,5,0)
   |_=>cases s
  let(E,dZ,ζ,ζ):=hw;show(d,_,dx,1,L.eA,h.cl,h.nW,TP__,.UR (0,_,pG.of L.wl),wa,4,L.wl,HY^by rw[j',w6];lia,3);rw[<-dZ];show q__ ((mI.off O).ξ E7.w)^L.pushW E
 let s:xy! b=ν:=t1.UH.ξ h1;show(C_!,λp2W=>(p2,2,.P2 QVC,5,3));let t2:=Vc! n;let s2:=O.ξ^mI.mE (o:=.iT [.uM^bE.WK "either",.uM^bE.WK "less",.uM^bE.WK "both",.uM^bE.WK "then"]) W;let l:=D.Ki s2;show M0QOOQOO
 .let C:Fe! b=π:=t2.UH.ξ h2;cases b with
  |bin k=>
   let(r,g,e):=r7a;let(KS,y):=r;cases e;show(Sum.P2 QOF,2,0,zc! k,3);show(d,dx,pa,wa,us,ps,ws,lvl k+1,1,l,WJQDx,g,!2,λMbJmi=>?_);let an:=HIg;show(d,_,dx,1,i.eA,h.cl,h.nW,TP__,.UR (0,_,pG.of i.wl),wa,4,i.wl,HY^by rw[j',w6];lia,q__QLo^i.pushW QO0)
  |_=>cases C
 let C:Fe! b=ν:=t2.UH.ξ h2;let t3:=RL! n;let aj!:=Mz! n;show(0,M0 (λh3=>?_)^λh3=>?_)
 .let B:Ik! b=π:=t3.UH.ξ h3;cases b with
  |KS=>
   let(r,g,e):=ψ.bind_eq_some_iff.mp a;let(KS,y):=r;cases y with
   |nS=>cases e
   |nF E y=>
    cases e;show(d,dx,pa,wa,us,ps,ws,(1),1,l,nZ_,g,!2,λMbJmi=>?_);show(d,_,dx,1,i.eA,h.cl,h.nW,TP__,.UR (0,_,pG.of i.wtop),wa,4,i.wtop,SG,3);rw[ZI];show q__QLo i.popW
  |_=>cases B
 let B:Ik! b=ν:=t3.UH.ξ h3;show(0,M0QVDQVD)
 .let A:lz! b=π:=aj.UH.ξ h4;cases b with
  |star=>
   cases ps with
   |nS=>cases a
   |nF x qs=>
    cases a;let(u,vs,ζ):=l.uR ζ;let(i,hO):=l.popP;show(d,_,dx,1,l.eA,h.cl,h.nP,L7__,.UR QVz,d,_,dx,1,l.eA,h.cl,h.nP,L7__,.UR (0,_,pG.of l.ptop),pa,4,l.ptop,SG,3);rw[ZI];show λzkG hz ab al=>(z,7,kG,0,hJ,(J.pc _).cl,(J.pc _).Uf,λcMk4Q=>(0,3));let N:=B5 hz ab k4;let JQ!:=i.Ki N;show(pa,4,JQ.pl,HY^by rw[w6];simp at Y Z;lia,q__ ((mI.off s2).ξ^E7.p.ξ^(mI.off N).ξ E7.p)^JQ.pushP (z,kG,u,0,Q,hO.C9^mI.C9 N))
  |_=>cases A
 let A:lz! b=ν:=aj.UH.ξ h4;cases b with
 |ZS t=>
  cases a;show(d,_,dx,1,l.eA,h.cl,h.nP,L7__,.UR QVz,t,0,n,λv3bJs3R=>?_);let i:=l.Ki s3;show(pa,4,i.pl,HY^by rw[w6];lia,q__ ((mI.off s2).ξ^(mI.off s3).ξ E7.p)^i.pushP R)
 |jM=>cases s
 |un k=>cases s
 |bin k=>cases C
 |KS=>cases B
 |star=>show mWA (!0)
def c_t!:n9 ["text","tokens","wanting","sign"] ["text"]^hY Nh!:=nU
def kg!(F:nEK "tokens_of" "tokens_of" Nh! fD)QAE(u:R5PwK mg υcbRd1d2d3)(s:n4PwK mg υ "is_wanting" 1 ["sign"] sp_iswanting!):mTPwK mg υms 2 fD ["text"] sp_tokens!:=by
 show F.okA c_t! ?_;rintro _ _ _ _ H _ _ _ z⟨w,ζ,n,t,q⟩;show(_,(lW (m3 1 c_t.eR QGR)^lW (m3 2 c_t.eR^CR)^lW (t6 U_.X5 ζQUA (z0 3 c_t.eR)^EU (mS ((U6 (tY^qYQAO)^XP^q7 Fl! QAbj5QAN).pt) QAg^m8)^lW (rW^xNQAF^Di! u.r6 (GF (v:=.ο d2) (!4) u.kK ζ)^m4QAbQAb)^hF^m3 2 c_t.eR^m5szQT') QG9),3);show(pT_,λpb5=>?_);show(2,rc! (x:=lYw) (λijH'=>E3 λ(ts:γ Tk)(b:b9)(k:ψ V)=>hC! (j=[δQBT,δQAl,δQGI,k]) (H'=mEHp^.P'^ts.Tx gG) (mUπw=ts++mUb^w.Gd i) (ts.β≤2*i)) ([],π,ε,5,0,nZ_) ?_ ?_)
 .rintro i ch j E e⟨ts,b,k,ζ,ζ,d,B⟩;rw[Z3]at e;let C:i<w.β:=(m9e).1;let o:w[i]=ch:=(m9e).2;let m:=n ch^v7e;rw[γ.fx C,o]at d;rw[show mUb (ch::w.Gd (i+1))=(if (!b&&!isB ch)=π then[Tk.bin .WG]else[])++y4 ch::mU (zW ch) QRm from ζ]at d;show⟨λgH'=>∃a:γ Tk,g=[δQBT,δQAl,δQGI,δ^.uM QMa]/\H'=mEHp^.P'^a.Tx gG/\mUπw=a++y4 ch::mU (zW ch) QRm/\a.β≤2*i+1,?_,?_⟩
  .let Y9:=OW [42,38,124,45,41] ch;cases b with
   |π=>show(ts,5,by rw[d];rfl,Jq! B)
   |ν=>
    show(_,lY [42,38,124,45,41],0,oR V.uM (!3),3);show M0QCyQCy
    .let r:isB ch=ν:=by
      have:QCa=π:=h;rw[Y9]at this;show(PA_).mp this
     show(.UR (0,_,pG.of hJ),p,4,hJ,HY^by rw[j'];lia,3);show(ts++[.bin .WG],0,by rw[MW,pY];rfl,3,by rw[o9];simp;omega);rw[d,r];simp
    .let r:isB ch=π:=by
      have:QCa=ν:=h;rw[Y9]at this;show(b9.not_eq_false' _).mp this
     show(ts,5,3,Jq! B);rw[d,r];rfl
  rintro y I⟨a,ζ,ζ,l,A⟩;show(.UR (0,_,pG.of hJ),0,Sum.P2 QMa,2,p,4,hJ,HY^by rw[j'];lia,3);show(ch,0,a++[y4 ch],zW ch,2,3,by rw[l];simp,by rw[o9];simp;lia);rw[MW,pY,uc! m];rfl
 .rintro j E⟨ts,b,k,ζ,ζ,d,B⟩;rw[nJ,γ.drop_length]at d;show qp_b5QBd ?_;rw[hJ,d];change _<*j7.P'^γ.Tx _ (_++[]);rw[vP]
def d_I!:n9 ["text","desk","token"] ["text"]^hY Ni!:=nU
def iu!(F:nEK "pattern_of" "pattern_of" Ni! f fd)QAE(fE:I'PwK mg υccP)(z:R5PwK mg υcbRd1d2d3)(ab:n4PwK mg υ "tokens_of" 2 ["text"] sp_tokens!)(eF:n4PwK mg υ "put" 5 ["desk","token"]^vy! cbR):mTPwK mg υms 6 f fd ["text"]^tb! c:=by
 show F.okA d_I! ?_;rintro _ _ _ _ H vs _ _ cT⟨k,t,ζ,X,an,n,q⟩;let(fD!,as,MD!,GD!,i5):=z.ini;let J:=cT.Hu (j:=2) (!0);show(_,(lW (m3 1 d_I.eR^wb! MD! GD! Jζ z.kD i5 .nS iF)^lW (t6 U_.X5 ζ (qz!^m5 ab J^nG^mZuI (mZuIj5QAD) j5) (z0 2 d_I.eR)^hF^rW^m5eFcTQGA)^hF^k9^qM (vAQAFζ) mV),3);intro d dx hd L ap;show(d,dx,2,hJ,z.cl,z.nP,z.nW,λpa wa H1k1D1Z S=>(0,3));let s1:mIHH1:=B5 hd Lk1;let s0:mIH^mE (mEH dx^.own d) d^.TM bR dx []:=B5 (o0:=.TM bR dx []) hd L λboe_=>e;let eI:∀x:bE,x=lY [40]->x++lYk=lY (40::k):=λx e=>by rw[e,yE];rfl
 let y:bE.WK "("=lY [40]:=by decide +kernel
 let M:bE.WK ")"=lY [41]:=by decide +kernel
 show(4,3,4,3,3)
 .rw [y,nJ,nJ];show m6 (by simp;lia)
 .rw [y,M,yE,nJ,nJ];show m6 (by simp;lia)
 rw[y,M,yE,yE];let m:∀ch∈40::QMs,JF ch:=λch v=>by
  rcases u3.mp v with ζ|v
  .exact .P2 (!1)
  .rcases lp.mp v with v|v
   .exact X ch v
   .obtain ζ:ch=41:=by simpa using v
    show .P2 (!1)
 show(40::QMs,0,m,by simp;lia,λObFl s2I=>?_);let W:=Do! πm;let al:=Af! (40::QMs) π;let fJ:(40::QMs).β=k.β+2:=by simp
 generalize mU π (40::QMs)=ts at *;let rR:=D1.Ki s2;let p:O≠pa/\O≠wa:=(Ne.UH^oZ D1.pl l,Ne.UH^oZ D1.wl l);show(O,0,(_,pG.of I),Fn! (K:=K) (a:=O) (xs:=ts.Tx gG) (λi NH'=>E4 λuspswss2=>eu! (N=[δ^.uM^lYk,δQDC,s2]) (∀bo,bFb<*o->b≠pa->b≠wa->H'b<*o) (ATcbRH'd dx pa wa uspsws) (n7 (ts.Uj i) QTo<*QLj) (ps.β≤i) (ws.β≤i)) ([],[],[],ε,0,λ__e__=>e,rR,0,nZ_,nZ_) ?_ ?_ ?_)
 .rintro i N H' g6⟨us,ps,ws,s2'!,ζ,off,_⟩;show pG.of^off __ I p.1 p.2
 .rintro i x N H' c9⟨us,ps,ws,s2'!,ζ,off,A,hpt,l1,l2⟩;rw[na]at c9;let(C,g,ζ):=r7c9;let g6:i<ts.β:=(m9g).1;let(R,s,Y):=rp! n (i+1);let h:C5pswsC<*R:=by
   rw[FW,g,GY,hpt]at s;have:(C5pswsC).bind^n7 []<*R:=s;cases b5:C5pswsC with
   |ε=>rw[b5]at this;cases this
   |δ r=>rw[b5]at this;cases this;rfl
  let(D,B):=R;let eG:=az! h;show(d,dx,pa,wa,us,ps,ws,C,D,B,0,A,WC^v7g,h,Jt! g6fJ al an l1,Jt! g6fJ al an l2,λQ bJE Bd!=>?_);show(Q,D,B,2,λboen1n2=>Ebo (off boen1n2) n1n2,Bd!,s,9,9)
 .rintro N H'⟨us,ps,ws,s2'!,ζ,off,A,hpt,l1,l2⟩;rw[j',XF,n]at hpt;cases hpt;let(u,vs,ζ):=A.uR ζ;let U:vs=[]:=by
   have:=A.pt.eN;simp at this;show this
  subst U;show(d,_,dx,1,A.eA,z.cl,z.nP,L7__,pa,_,4,pG.of A.pl,r8 (j:=0) ζ,3);show quH' (λboe=>off bo (s2bo^s1boe) ?_ ?_) A.pt.1
  .exact oZe^s0.VC Z
  .exact oZe^s0.VC S
def zq!:n9 [o3,"text"] [o3,"text"]^hY Bf!:=nU
def Wu!(F:nEK "read" "read" Bf! f s)QAE QQx(x:R5PwK mg υcbRd1d2d3)(i:rPPwK mg υ "need_letters" 2 [o3]^XC! QCH)(h:n4PwK mg υ "need_pattern" 2 [o3,"text"] sp_needpattern!)(g:n4PwK mg υ "pattern_of" 6 ["text"]^tb! c):mTPwK mg υms 7 f s [o3,"text"]^qu! c:=by
 show F.okA zq! ?_;rintro _ _ _ _ _ _ _ _ m⟨L,k,t,l,ζ,o,a,e,d,q⟩;let b:=m.Hu (j:=2) (!0);show(_,(lW (rW^wUib GK! QCu)^lW (rW^m5hbQDK)^hF^k9^m5gmQEe),3);show(L,0,o.jN,λ_=>?_,λn=>(no).Q5);show(L,k,0,a,e.scan a 0 π,λzp=>?_);show(k,t,0,e.sgs a,d,e.read a,λvu s2r=>qvu (p.ξ s2) r)
def Ti!:n9 ["_law_script","_law_k"] ["_law_script","_law_k"]^hY Nj!:=nU
def Xo!(F:nEK "_law_cell_at" "_law_cell_at" Nj! f d)QAE:mTPwK mg υms 1 f d ["_law_script","_law_k"]^hc! K:=by
 show F.okA Ti! ?_;rintro _ _ _ _ _ _ _ _ _⟨a,ns,k,ζ,b,q⟩;show(_,(lW (mS (q7MEQAFQBbQBZ) (hF^k9^qMQADQAF)^m8)^hF^k9mV),3);show(a,2,.UR b,4,p9QCyQCy)
 .let h:k<ns.β:=by rw[j']at h;show Hd! h
  rw[q6,pu,mOh]at q;show(a,_,4,b,wR V.tV^mOh,q)
 .rw [q6,pu,I6^by rw[j']at h;lia]at q;show q
def a_x!:n9 ["_law_cell","_law_left","_law_number","_law_many","_law_found","_law_k","_law_at"] ["_law_cell"]^hY Nk!:=nU
def Id!(F:nEK "_law_letters" "_law_letters" Nk! f I)QAE:mTPwK mg υms 1 f I ["_law_cell"] sp_letters!:=by
 show F.okA a_x! ?_;rintro _ _ _ _ H _ _ _ _⟨c,ζ,q⟩;show(_,(lW (m3 1 a_x.eR^j5)^lW (m3 2 a_x.eR^mZL8QADmV)^lW (m3 3 a_x.eR^mZ pi! mV^mZL8QAOmV)^lW (m3 2 a_x.eR^mZ kf! QAOmV)^lW (m3 4 a_x.eR^j5)^lW (t6 U_.X5 ζ (CNζ T.b_ QT') (z0 5 a_x.eR)^lW (m3 6 a_x.eR^mZL8QAOQB6)^lW (m3 2 a_x.eR^mZ kf! QAOQB6)^lW (m3 4 a_x.eR^mZuIQBj^mMEPQAFQCoQAQ)^hF^m3 1 a_x.eR^mZuI (yIL2QAFz8^CSQCo)^yIL2QAF (CS^mZ pi! QComV) z8)^hF^k9QBj),3);let(N,k,n1,s):=Qj! (c%46800) 1 3 (!0);let k:(N:ω)=1+c%46800%3:=k;let z:N≤3:=IJs;show(4,(by change (0:ω)<46800;decide),4,(by change (0:ω)<3;decide),4,4,QKh,2,by rw[<-k];show(yz! QV0).1,by rw[<-k];show(yz! QV0).2,3);generalize O:(1:ω)+c%46800%3=M at k⊢;let j:M.UD=N:=by rw[<-k];rfl
 show zY (n:=M.UD) (λipH'=>E5 λflnk0a0=>cj! (p=[δ^.tV c,δ^.uM QEj,δ^.tV n,δ^.tV M,δ^.uM^lYf,k0,a0]) (H'=H) (0≤n) (f.β=i) (l.β+i=26) ((f++l).qg) (∀c∈f++l,97≤c/\c≤122)) ?_ ?_ ?_
 .refine ([],range'! 97 26,c%46800/3,ε,ε,3,0,ω.ediv_nonneg (N1_ (!0)) (!0),5,!0,!0);show[δ^V.tV c,δ^V.uM _,δ^V.tV _,δ^V.tV _,δ^V.uM _,ε,ε]=_;rw[Ag!,KE]
 .rintro i p L E⟨f,l,n,k0,a0,ζ,ζ,A,o,t,r,eW⟩;let m:i<3:=pP (j▸E) z;let(C,d):=Qk! t^Xsm;let hz:(lYl).β≤Φ:=m6 (by rw[nJ];show n5d (!0));let b:(0:ω)<((lYl).β:ω):=by rw[nJ];show Qe! C
  let a:=N1n^ω.IT b;let g:=ω.Zu n b;let u:0≤n/((lYl).β:ω):=ω.ediv_nonneg A^ω.Xs b;let h:(n%((lYl).β:ω)).UD<l.β:=χ.lt_of_lt_of_eq (yy! ag)^nJl;let(v,D,e):=ZU (xs:=(lYl).Ym.Zh) a (by rw[tI];show ω.pP gQMt);rw[tI]at e;let J:v=l[(n%((lYl).β:ω)).UD]:=by
   rw[mOh]at e;show(ψ.δ.WZ e).UH
  subst J;show(2,hz,4,b,2,hz,4,(b,by rw[nJ];show Ql! d),_,4,hz,D,4,3,2,2,hz,4,2,2,hz,4,3,3)
  .refine m6 ?_;rw[nJ];change f.β+1≤_;rw[o];show n5m (!0)
  .refine m6 ?_;let h1:=jL.slice_le QEjε^δQC7;let h2:=jL.slice_le QEj (δ (QC7+1)) ε;show Qm! h1h2 (by rw[nJ];show d)
  .obtain ⟨d1,d2⟩:=yb! hr;show(f++[l[(n%((lYl).β:ω)).UD]],l.Uj (n%((lYl).β:ω)).UD++l.Gd ((n%((lYl).β:ω)).UD+1),n/((lYl).β:ω),δQQ5,δ^.tV QC7,3,0,u,by rw[o9,o];rfl,3,d1,λcx=>eWc^d2cx)
   .let B:=VsQEja;let y:=Df! QEj (i:=QC7+1) (ω.n5 a^ω.Xs^ω.lt_succ _) (by rw[tI];show ω.pP gQMt);rw[tI]at B y;rw[Qn! a]at y;show[δ^V.tV c,δ^V.uM (jL.Zf QEjε^δQC7++jL.Zf QEj (δ (QC7+1)) ε),δ^V.tV _,δ^V.tV M,δ^V.uM (lYf++⟨#[l[(n%((lYl).β:ω)).UD]]⟩),δ_,δ_]=_;rw[B,y,yE,show(⟨#[l[(n%((lYl).β:ω)).UD]]⟩:bE)=lY [l[(n%((lYl).β:ω)).UD]]from ζ,yE]
   .rw [o9,rS,zM];show Qo! ht
 .rintro p L⟨f,l,n,k0,a0,ζ,ζ,A,o,t,r,eW⟩;show qf (by rw[o,j];show n1,by rw[o,j];show z,(γ.nodup_append.mp r).1,λcx=>eWc^XS_x)
def jX!:n9 ["_law_letters_here","_law_cells"] ["_law_letters_here","_law_cells"]^hY Nl!:=nU
def km!(F:nEK "_law_word" "_law_word" Nl! f s)QAE:mTPwK mg υms 1 f s ["_law_letters_here","_law_cells"]^qq! K:=by
 show F.okA jX! ?_;rintro _ _ _ _ _ _ _ _ _⟨L,a,ns,ζ,l,o,t,q⟩;show(_,(hF^k9^LU plainAttrs_str! Δ.F.slot_str_join Δ.F.type_str_join qK! (j5)^nG^x9 ["_law_letters_here","_law_cells"] ζ (!0) (qz! QAF)^λyCu s'H'=>(t7,mMEPQAF (mZL8QADQB6) QAQ)),3);let hz:(lYL).β≤Φ:=m6 (by rw[nJ];have:=l.g6;show S5 this);let g:(0:ω)<((lYL).β:ω):=by rw[nJ];have:=l.lo;show O5 this
 show(0,qa! (vB! L) ζo (by rw[j'];show m6^Hq! t) (λixH'Rbhp=>?_)^λDr=>?_)
 .obtain ⟨z,ζ⟩:∃z,x=V.tV z:=by
   rw[na]at b;cases e:ns[i]? with
   |ε=>rw[e]at b;cases b
   |δ z=>rw[e]at b;show(z,(ψ.δ.WZ b).UH)
  let k:=N1z (show((lYL).β:ω)≠0 from Gn! g);let j:=ω.Zu zg;let(v,m,d):=ZU (xs:=(lYL).Ym.Zh) k (by rw[tI,<-nJ];show j);rw[tI]at d;show(2,hz,4,g,_,4,hz,m,3);let e:vB! L^V.tV z=.uM ⟨#[v]⟩:=by
   change V.uM ⟨#[PTLz]⟩=_;rw[jd! Lz,<-nJ,d];rfl
  rw[<-e];show p
 .refine (_,D,(ns.Tx^PTL).Tx λc=>(⟨#[c]⟩:bE),5,pG.of ?_,3,3)
  .rw [hJ];rw[map_map!,map_map!,map_map!];rfl
  .exact cu! _ (by rw[j'];show Hq! t)
  .rw [aX!,LX!];show q__ (!1) (λcn=>Dy! ln)^mI.mE r
def d_K!:n9 ["_law_shape","_law_name","_law_between"] ["_law_shape"]^hY Nm!:=nU
def iB!(F:nEK "_law_piece" "_law_piece" Nm! fX)QAE(hm:mg "_law_piece"<*.ο f)(Z:p6KX ["_law_shape"] []):mTPwK mg υms 12 fX ["_law_shape"]^T2 12:=by
 let eN:∀nvsHQ E,T2nvsHQ E->vs.β=["_law_shape"].β:=λnvsHQ Eh=>by
  let(L,t,v,ζ,_):=h;rfl
 let u7:∀n:χ,mTPwK mg υmsnfX ["_law_shape"]^T2n:=by
  intro n;induction n with
  |qW=>show(eN 0,λ______vsQ E____h=>by let(L,t,v,_,_,J,_):=h;have:=t.dep_pos;lia)
  |qV n gP=>
   let r:n4PwK mg υ "_law_piece" n ["_law_shape"]^T2n:=(f,X,hm,F.C9,Z,gP);show F.ok d_K! (eN_) (λbYAb7sHvsQ E Wh=>?_);let(L,t,v,ζ,U,J,g,hsz,q):=h;show(_,(lW (m3 1 d_K.eR QBB)^lW (mSQIu (hF^k9QBB)^m8)^lW (mS (uUQBbmV) (hF^k9^mM gy! (CC! QVE (!3) (!0) (!0)) QAFQAQ)^m8)^lW (mSQIu (hF^k9^mZuIQGhj5)^m8)^lW (mS (uUQBbmV) (hF^k9^mZuI (mZuI (mZuIj5^mM gy! (CC! QEJ (!3) (!0) (!0)) QAFQAQ) QGh) j5)^m8)^lW (m3 2 d_K.eR^mM gy! (CC! (RZ.nF j5j5QVE) (!3) (!0) (!0)) QAFQAQ)^hF^k9^mZuI (mZuI (mZuI (mZuIj5QGh) QAO) QGh) j5),3);let z:∀a b:lU,a.β≤600->b.β≤600->(lYa).β+(lYb).β≤Φ:=λa beMcY=>by rw[nJ,nJ];show m6 (!6)
   let N:bE.WK "("=lY [40]:=by decide +kernel
   let M:bE.WK ")"=lY [41]:=by decide +kernel
   cases t with
   |yV c=>
    let(p,ζ,b5):=U;show(m7b5bO (0,rT (!3)^m7b5fV^q [c] HQGf (G.yV g)^by change 1≤4*1;decide))
   |yT k=>
    let(p,ζ,b5):=U;let l:n'KHp [.uM^WMk]:=n'.of b5;show(p,_,4,l,r8 (j:=0) ζ,0,nI (by cases k<;>decide +kernel) ?_);show QJA;show(C,_,4,i,(by cases k<;>decide +kernel:_<*V.uM^lY [c0k]),q [c0k] Oe (G.yT k)^by change 1≤4*1;decide)
   |uR k x=>
    let(p,u,ζ,b5,R):=U;let l:n'KHp [.uM^Ix k,u]:=n'.of b5;let J:x.Kd+1≤n+1:=J;let hz:x.sz+1≤60:=hsz;show(p,_,4,l,r8 (j:=0) ζ,0,nI (by cases k<;>decide +kernel) ?_);show(p,2,.P2 l,0,nI (by change ¬ V.tV 2=V.tV 1;decide) ?_);rcases(show k=.again\/∃m:U2,k=m.k1 by
     cases k with
     |again=>show .UR ζ
     |WA=>show .P2 (.WA,0)
     | T7=>show .P2 (.T7,0))with ζ|⟨m,ζ⟩
    .refine (0,rT (!3) (p,_,4,l,r8 (j:=1) ζ,L,x,u,0,R,9,g,Gf! hz,λd Oe IeG=>?_));show(lYd,lY [42],0,oR V.uM (!3),z__ (Gb! hz eG)^by change 1≤600;decide,3);rw[yE];show q_ Oe (G.again I) (by rw[o9];change _+1≤4*(x.sz+1);lia)
    .refine (0,nI (by cases m<;>decide +kernel) QJA);show(C,_,4,i,(by cases m<;>decide +kernel:_<*V.uM^lY [c1m]),lY [40],lY [c1m],oR V.uM N,0,z__ (by change 1≤600;decide)^by change 1≤600;decide,3);show(m7QOLfV (L,x,u,0,R.C9^mI.C9 e,9,g,Gf! hz,λdbFs2IeG=>?_));show(lY ([40]++[c1m]),lYd,oR V.uM QPO,0,z__ (by change 2≤600;decide)^Gb! hz eG,lY ([40]++[c1m]++d),lY [41],oR V.uM QPO,oR V.uM M,z__ (by change d.β+1+1≤600;lia)^by change 1≤600;decide,3);rw[yE];show q (40::((c1m::d)++[41])) bF (e.ξ s2) (G.pre m I) (by change ((c1m::d)++[41]).β+1≤4*(x.sz+1);rw[o9];change d.β+1+1+1≤_;lia)
   |rE k x y=>
    let(p,u,w',ζ,b5,R,d7):=U;let l:n'KHp [.uM QOF,u,w']:=n'.of b5;let J:max x.Kd y.Kd+1≤n+1:=J;let hz:x.sz+y.sz+1≤60:=hsz;show(p,_,4,l,r8 (j:=0) ζ,0,nI (by cases k<;>decide +kernel) ?_);show(p,2,.P2 l,0,nI (by change ¬ V.tV 3=V.tV 1;decide) ?_);show(0,nI (by cases k<;>decide +kernel) (p,2,.P2 l,0,nI (by change ¬ V.tV 3=V.tV 2;decide) λC ODei=>?_));obtain⟨S,hS,YE,UN⟩:∃S,tW [(bE.WK "either",V.uM "|",),("less",.uM "-",),("both",.uM "&",),("then",.uM "",)] QOF=δ^.uM S/\S=lY^m2k/\(m2k).β≤1:=by
     cases k
     .exact ("|",!3,!3,!0)
     .exact ("-",!3,!3,!0)
     .exact ("&",!3,!3,!0)
     .exact ("",!3,!3,!0)
    subst YE;show(C,_,4,i,hS,3);show(m7QOLfV (L,x,u,0,R.C9^mI.C9 e,aK! J,g.1,9,λdbFs2IeG=>?_));show(lY [40],lYd,oR V.uM N,0,z__ (by change 1≤600;decide) (!6),lY ([40]++d),lY^m2k,oR V.uM QPO,0,z__ (by change d.β+1≤600;lia) (!6),3);let B:=e.ξ s2;show(m7 (B__b5) iO (L,y,w',0,d7.C9^mI.C9 B,W5J,g.2,9,λobJs3Y ab=>?_));let gV:([40]++d++m2k).β≤d.β+2:=by rw[o9];change d.β+1+_≤_;lia
    show(lY ([40]++d++m2k),lYo,oR V.uM QPO,0,z__ (!6) (!6),lY ([40]++d++m2k++o),lY [41],oR V.uM QPO,oR V.uM M,z__ (by rw[o9];lia)^by change 1≤600;decide,3);rw[yE];let g3:=G.bin k I Y;show q (40::((d++m2k++o)++[41])) bJ (B.ξ s3) g3 ?_;change ((d++m2k++o)++[41]).β+1≤4*(x.sz+y.sz+1);rw[o9,o9,o9];change d.β+_+_+1+1≤_;lia
 show u7 12
def b_R!:n9 ["_law_shape","_law_word_here","_law_found","_law_i","_law_bits"] ["_law_shape","_law_word_here"]^hY Nn!:=nU
def ko!(F:nEK "_law_leaf" "_law_leaf" Nn! f fd)QAE:mTPwK mg υms 1 f fd ["_law_shape","_law_word_here"] sp_leaf72!:=by
 show F.okA b_R! ?_;rintro _ _ _ _ H _ _ _ _⟨L,w,t,v,ζ,u,U,hw,eG,q⟩;show(_,(lW (m3 2 b_R.eR QGR)^lW (t6 U_.X5 ζ (CNζ T.b_^nG^mZaZQB6mV) (z0 3 b_R.eR)^lW (m3 4 b_R.eR^mV)^EU (mSQDO (hF^m3 4 b_R.eR^mZPZmVQAb)^hF^mS ((U6 (q7MEQAbQB6QBZ)^U6 (BNQBBj5)^XP^(tGQDO^xO^uU (mMEPQAFQAbQAQ) QBB).pt).pt) (hF^m3 4 b_R.eR^mZPZmVQNm)^m8) QPu)^hF^k9QAO),3);let hz:(lYw).β≤Φ:=m6 (by rw[nJ];show FIeG);obtain⟨p,nm,R,ζ,b5⟩:∃p nm R,v=.ο p/\Hp<*.iT (.uM nm::R):=by
  rcases U with⟨k,ζ⟩|⟨c,ζ⟩
  .obtain ⟨p,ζ,b5⟩:=u;show(p,1,b5)
  .obtain ⟨p,ζ,b5⟩:=u;show(p,1,b5)
 show(pT_,λDX=>(2,hz,4,2,O4,by rw[nJ];lia,3));show zY (n:=((((lYw).β:χ):ω)+1).UD) (λiBH'=>E2 λEC=>vE (B=[δQAl,δQBT,δQA0,E,C]) QHu (H'D<*.P'^mJ^(xMQCIw).Uj i)) (ε,ε,0,mI.mE X,hJ) ?_ ?_
 .rintro i B O y⟨E,C,ζ,l,j⟩;let y:i≤w.β:=by rw[nJ]at y;show Jf! y
  let ab:=l__b5;let lJ:(0:ω)+(i:ω)=i:=ω.WL _;let I:∀k:χ,(1:ω)*2^(k:ω).UD=((2^k:χ):ω):=λk=>by rw[ω.one_mul,DM,ω.natCast_pow];rfl
  show⟨λAH'=>∃b:χ,A=[δQAl,δQBT,δQA0,δQEo,δ^.tV (b:ω)]/\H'=O/\b=spn QCIwi,?_,?_⟩
  .rw [lJ];let uR:∀(S:lU)QFf,ac Lt=AMLν S->w[i]?<*c->spn QCIwi=if c∈S then 2^(i+1)else 0:=λSceh=>by rw[e];show ze! hw h
   let o:∀S:lU,ac Lt=AMLν S->i=w.β->spn QCIwi=0:=λSeh=>by rw[e,h];show zh!
   let r:(i:ω)<(((lYw).β:χ):ω)->∃c,w[i]?<*c:=λh=>(_,mO^by rw[nJ]at h;show Hd! h);let s:¬ (i:ω)<(((lYw).β:χ):ω)->i=w.β:=λh=>by rw[nJ]at h;lia
   rcases U with⟨k,ζ⟩|⟨c,ζ⟩
   .obtain ⟨Z,e,N⟩:=u;cases e;let d:=l__ N;cases k with
    |X7=>show(m7dbO (0,rT (!3) (4,(h6,9,!0),_,oR (λz:ω=>[δ^V.ο p,δQBT,δQA0,δQEo,δQHv])^Ii,0,ssy)))
    |X5=>
     let Q:0=spn QOJwi:=sr.UH;show(m7dbO (0,nI (!3) (2,hz,4,p9 (λ_=>(m7dbO (0,zEζ ((0),5,Q))))^λ_=>((0),5,Q))))
    |I9=>
     show(m7dbO (0,nI (!3) (2,hz,4,p9 (λg=>(m7dbO (0,S' (!3)^m7dbO (0,rTζ (4,4,(Go!,Gj! eGy,!0),2^(i+1),oR (λz:ω=>[δ^V.ο p,δQBT,δQA0,δQEo,δQHv])^I (i+1),0,3)))))^λg=>((0),5,3))))
     .obtain ⟨c,W⟩:=r g;show(mG^hw c^v7W).UH.ξ (uRLcζ W).UH
     .exact (oLζ^sg).UH
   .obtain ⟨Z,e,N⟩:=u;cases e;let d:=l__ N;show(m7dbO (0,nI (!3) (2,hz,4,p9 (λg=>?_)^λg=>((0),5,(o [c] ζ^sg).UH))));let(x,M):=r g;let J:qZ (lYw).Ym.Zh (i:ω)<*x:=by rw[tI];show r8M
    show(m7dbO (0,S' (!3)^m7dbO (0,nI (!3) (_,4,hz,J,m7dfV (0,p9 (λm=>(4,4,(Go!,Gj! eGy,!0),2^(i+1),oR (λz:ω=>[δ^V.ο p,δQBT,δQA0,δQEo,δQHv])^I (i+1),0,3))^λm=>((0),5,3))))))
    .let m:x=c:=by have:=Z2 (a:=[x]) (b:=[c])^V.uM.WZ m;cases this;rfl
     show(mG (m▸aL.Ui ζ)).UH.ξ (uR [c] xζ M).UH
    .exact ((uR [c] xζ M).ξ^mF λz=>m^by rw[o6z];rfl).UH
  .rintro Y bF⟨b,ζ,ζ,cY⟩;show(.UR (0,_,pG.of j),D,4,j,EW (by rw[o8,rS];show G_! eGy),1,mI.X6 lX,3);rw[hJ,uW^MTy,cY];unfold mJ;rw[pY];rfl
 .rintro B O⟨E,C,ζ,l,j⟩;rw[vJ^by rw[A0,nJ];lia]at j;show qD Olj
def b_v!:n9 ["_law_ones","_law_twos","_law_found","_law_i","_law_bits","_law_j"] ["_law_ones","_law_twos"]^hY No!:=nU
def cw!(F:nEK "_law_behind" "_law_behind" No! f M)QAE:mTPwK mg υms 1 f M ["_law_ones","_law_twos"] sp_behind72!:=by
 show F.okA b_v! ?_;rintro _ A _ _ H _ _ _ _⟨A,C,w,a,b,ζ,J,L,R,q⟩;show(_,(lW (m3 2 b_v.eR QGR)^lW (t6 U_.X5 ζQQ6 (z0 3 b_v.eR)^lW (m3 4 b_v.eR^mV)^lW (t6 U_.X5 ζ (JGζ T.b_^m4QAbQBb) (z0 5 b_v.eR)^hF^mS (uU (mZMY (mZU' (qMQADQAb) QBt) mV) mV) (hF^m3 4 b_v.eR^mZsNQBj^qMQAFQBt)^m8) QPu)^hF^k9QAO),3);let Q:(mJQDp).β=w.β+1:=by rw[o8,A0]
 show(pT_,λDy=>?_);let x:=mI.mE (o:=.P' []) y__ J;show(a,2,.UR^pG.of x,2,kP,et! Q R,3);show zY (n:=(((mJQDp).β:χ):ω).UD) (λi sH'=>E3 λvum=>vE (s=[δQAe,δQEC,δQA0,v,u,m]) QHu (H'D<*.P'^mJ^(xMQO8w).Uj i)) (ε,ε,ε,0,mI.mE y,hJ) ?_ ?_
 .rintro i s E r⟨v,u,m,ζ,g,d⟩;let r:i≤w.β:=by lia
  let N:(0:ω)+(i:ω)=i:=ω.WL _;let l:=pG.of (K:=K)^g__ J;show(a,2,.UR l,1,(Gh!,Ju! Rr,kP,et! Q R),3);show zY (n:=((((mJQDp).β:χ):ω)-QC3).UD) (λkeH'=>∃t,e=[δQAe,δQEC,δQA0,δQQ5,δ^.tV (RJACwi (i+k):χ),t]/\H'=E) (m,by rw[χ.add_zero,Si!];rfl,0) ?_ ?_
  .rintro k e O S⟨t,ζ,ζ⟩;let I:i+k≤w.β:=by lia
   let B:(0:ω)+(i:ω)+(k:ω)=((i+k:χ):ω):=by lia
   let p:=vj! (A:=A) (C:=C) (w:=w) (i:=i) (j:=i+k) O6I;show(a,_,4,l,HRNr,4,Jj!,4,0,p9QCyQCy)
   .rw [mG^(GZB).mp h]at p;show q8 (g__L) (HRB I) (4,_,by rw[pQ!,<-p];rfl,0)
   .rw [mF^λz=>h^(GZB).Ui z]at p;show(_,by rw[<-p];rfl,0)
  .rintro e O⟨t,ζ,ζ⟩;show(.UR (0,_,pG.of d),D,4,d,EW (by rw[o8,rS];show G_! Rr),8,mI.X6 gy,3);rw[hJ,uW^MTr,show i+((((mJQDp).β:χ):ω)-QC3).UD=w.β+1 by lia,ff! r];unfold mJ;rw[pY];rfl
 .rintro s E⟨v,u,m,ζ,g,d⟩;rw[vJ^by rw[A0];lia]at d;show qD Egd
def c_n!:n9 ["_law_ones","_law_found","_law_i","_law_j"] ["_law_ones"]^hY Np!:=nU
def Lh!(F:nEK "_law_pieces" "_law_pieces" Np! f O)QAE:mTPwK mg υms 1 f O ["_law_ones"] sp_pieces72!:=by
 show F.okA c_n! ?_;rintro _ A _ _ H _ _ _ _⟨A,w,a,ζ,u,W,q⟩;show(_,(lW (J5 ["_law_ones","_law_found","?","_law_j"] (j:=1) ζ c_n.eR (!0) ζQBxQQ6^λcl C Y s'H'=>(t7,mZPZmVQAD))^lW (t6 U_.X5 ζ (KQ! ζ T.reversed ζ T.b_^nGQBb) (z0 2 c_n.eR)^hF^t6 U_.X5 ζ (JGζ T.b_^m4QIZQBb) (z0 3 c_n.eR)^hF^mS (uU (mZMY (mZU' (qMQADQAO) QAb) mV) mV) (hF^GG (mZsN (qMQAFQAO)^qMQAFQAb)^XB! QAFQAO vH!)^m8) QG9),3);let M:(mJQDp).β=w.β+1:=by rw[o8,A0]
 dsimp only[rZ];dsimp only[u9,v8,aR,vY,pS,vF,rO];show ON (n:=w.β+1) (λRh=>(a,2,.UR^pG.of u,by rw[M];show h)) (Gc! W) (λDjysH'=>ys=(mJ^HSAwQB5).Uj j) (λDv=>!1) ?_ ?_
 .rintro D j ys H' fT f5 v r E d ζ k1 k2;show hI (4,(Ho!,9,!0),k1_H'd (mI.X6 E v) ?_);show(uW ?_).UH;rw[Bh!,show(0:ω)+(j:ω)=j from ω.WL _,ω.one_mul,DM];unfold mJ;rw[na,na,yUr];change δ^V.tV ((2^j:χ):ω)=_;rw[ω.natCast_pow];rfl
 rintro D ys H1 v g d ζ;rw[vJ^by rw[o8];unfold HS;rw[j',rA];show nZ_]at d;show(a,2,.UR^pG.of^g__u,w.β+1,by rw[M],9,3);show Uc! (n:=w.β+1) (λtxH'=>E2 λB m=>vE (x=[δQAe,δQA0,B,m]) QHu (H'D<*.P'^mJ^HSAw (w.β+1-t))) (1,g,d) ?_ ?_
 .rintro t x N U⟨B,m,ζ,o,hDl2!⟩;obtain⟨i,Z⟩:∃i,w.β=t+i:=(w.β-t,9);let s:i≤w.β:=by lia
  let Q:((w.β+1:χ):ω)-1-(t:ω)=(i:ω):=by lia
  rw[show w.β+1-t=i+1 by lia,Sn! s]at hDl2!;let J:=pG.of (K:=K)^o__u;rw[Q];show(4,a,2,.UR J,1,(O4,9,kP,et! M W),3);show zY (n:=((((mJQDp).β:χ):ω)-QON).UD) (λkeH'=>∃y,vE (e=[δQAe,δQA0,δQEo,y]) QHu (H'D<*.P'^mJ^E8Awi (i+1+k))) (m,0,o,hDl2!) ?_ ?_
  .rintro k e S X⟨y,ζ,b,hDl3!⟩;let r:i+1+k≤w.β:=by lia
   let L:(i:ω)+1+(k:ω)=((i+1+k:χ):ω):=Hm!
   let p:=yB! (A:=A) (w:=w) (i:=i) (j:=i+1+k) lOr;let I:=pG.of (K:=K)^b__u;let l:=pG.of (K:=K) hDl3!;show(a,_,4,I,HRζ s,4,Ir!,4,0,p9QCyQCy)
   .rw [mG^(GZL).mp h]at p;show(D,_,4,l,KL! ζ s,D,_,4,l,KL! Lr,4,D,7,i,5,hDl3!,3,2,mI.X6 b v,3)
    .rw [o8,Sq!];show fQ! h6 (!6)
    .rw [hJ,Sr!,rm! lO,pQ!,Su! p];rfl
   .rw [mF^λz=>h^(GZL).Ui z]at p;show(2,b,by rw[hDl3!,yD! p];rfl)
  .rintro e S⟨y,ζ,b,hDl3!⟩;show(1,b,3);rw[hDl3!,show i+1+((((mJQDp).β:χ):ω)-QON).UD=w.β+1 by lia,So! s,show w.β+1-(t+1)=i by lia]
 .rintro x N⟨B,m,ζ,o,hDl2!⟩;rw[sub_self!,Sl!]at hDl2!;show qD No hDl2!
def a_y!:n9 ["_law_shape","_law_word_here","_law_size","_law_ones","_law_found","_law_i","_law_bits","_law_j"] ["_law_shape","_law_word_here"]^hYWR:=nU
def Tj!(F:nEK "_law_from_behind" "_law_from_behind" WRf R)QAE QCv(x:n4PwK mg υ "_law_spans" (2*n) ["_law_shape","_law_word_here"]^OFn):mTPwK mg υms (2*n+1) f R ["_law_shape","_law_word_here"]^Fy! n:=by
 show F.okA a_y! ?_;rintro _ A _ _ _ _ _ _ J⟨L,w,t,v,ζ,I,O,hw,M,q⟩;let s:=J.Hu (j:=2*n) (!6);show(_,(lW (m3 2 a_y.eR QB6)^lW (m3 3 a_y.eR^m5x s^m4QAD^mD! ζj5QEe (!4) T.reversed)^lW (m3 4 a_y.eR QGR)^lW (t6 U_.X5 ζ (CNζ T.b_^nGQIZ) (z0 5 a_y.eR)^lW (m3 6 a_y.eR^mV)^lW (t6 U_.X5 ζ (JGζ T.b_^m4QBtQIZ) (z0 7 a_y.eR)^hF^mS (uU (mZMY (mZU' (qMQAb^mZNTQAOQF9)^mZNTQAOQBt) mV) mV) (hF^m3 6 a_y.eR^mZsNQCo^mZPZmVQF9)^m8)^hF^rW^xNQBjQCo)^hF^k9QBj),3);let hz:(lYw).β≤Φ:=m6 (by rw[nJ];show FIM);let Y:(((lYw).β:χ):ω)=(w.β:ω):=by rw[nJ]
 show(2,hz,0,w,0,FIM,L,w.UQ,t,v,0,I,O,h_B.Ui hw,by rw[w6];show M,λaXHQ=>?_);show(pT_,λDC=>(4,2,O4,Jw! Y M,3));show zY (n:=((((lYw).β:χ):ω)+1).UD) (λimH'=>E3 λrpe=>vE (m=[δv,δQBT,δQOD,δQAe,δQA0,r,p,e]) (mIXH') (H'D<*.P'^mJ^(xMQT7w).Uj i)) (ε,ε,ε,0,mI.mE C,hJ) ?_ ?_
 .rintro i m y B⟨r,p,e,ζ,g,b⟩;let B:i≤w.β:=by lia
  let u:=pG.of (K:=K)^g__Q;show(4,1,(Gh!,Ju! MB,O4,Jw! Y M),3);show zY (n:=((((lYw).β:χ):ω)+1-QC3).UD) (λkdH'=>∃o,d=[δv,δQBT,δQOD,δQAe,δQA0,δQQ5,δ^.tV (RIQCIwi (i+k):χ),o]/\H'=y) (e,by rw[χ.add_zero,Sv!];rfl,0) ?_ ?_
  .rintro k d W Z⟨o,ζ,ζ⟩;let N:i+k≤w.β:=by lia
   let l:=vi! (A:=ac Lt) (w:=w) (i:=i) (j:=i+k) O6N;let U:(((lYw).β:χ):ω)-QVF=((w.β-(i+k):χ):ω):=by lia
   let E:(((lYw).β:χ):ω)-QC3=((w.β-i:χ):ω):=by lia
   show(4,a,_,4,u,HRU^by rw[w6];lia,4,4,9,4,0,p9QCyQCy)
   .rw [mG^(GZE).mp h]at l;show(4,(Jj!,9,!0),4,δ^.tV QVF,3,0);let S:(1:ω)*2^(0+(i:ω)+(k:ω)).UD=((2^(i+k):χ):ω):=by
     rw[show(0+(i:ω)+(k:ω)).UD=i+k by lia,ω.one_mul,ω.natCast_pow];rfl
    rw[S,pQ!,<-l];rfl
   .rw [mF^λz=>h^(GZE).Ui z]at l;show(_,by rw[<-l];rfl,0)
  .rintro d W⟨o,ζ,ζ⟩;show(.UR (0,_,pG.of b),D,4,b,EW (by rw[o8,rS];show G_! MB),8,mI.X6 gC,3);rw[hJ,uW^MTB,show i+((((lYw).β:χ):ω)+1-QC3).UD=w.β+1 by lia,ea!];unfold mJ;rw[pY];rfl
 .rintro m y⟨r,p,e,ζ,g,b⟩;rw[vJ^by rw[A0];lia]at b;show qDy (H.ξ g) b
def d_J!:n9 ["_law_shape","_law_word_here","_law_ones","_law_twos"] ["_law_shape","_law_word_here"]^hY Nq!:=nU
def iz!(F:nEK "_law_spans" "_law_spans" Nq! f fd)QAE(Vk!:nEK "_law_from_behind" "_law_from_behind" WRf2 fd2!)(m2:mg "_law_from_behind"<*.ο f2)(b2:p6K fd2! ["_law_shape","_law_word_here"] [])(ap:n4PwK mg υ "_law_leaf" 1 ["_law_shape","_law_word_here"] sp_leaf72!)(al:n4PwK mg υ "_law_behind" 1 ["_law_ones","_law_twos"] sp_behind72!)(eF:n4PwK mg υ "_law_pieces" 1 ["_law_ones"] sp_pieces72!)(hm:mg "_law_spans"<*.ο f)(ab:p6K fd ["_law_shape","_law_word_here"] []):∀n,mTPwK mg υms (2*n) f fd ["_law_shape","_law_word_here"]^OFn:=by
 let eN:∀nvsHQ E,OFnvsHQ E->vs.β=["_law_shape","_law_word_here"].β:=λnvsHQ Eh=>by
  let(L,w,t,v,ζ,_):=h;rfl
 intro n;induction n with
 |qW=>show(eN 0,λ______vsQ E____h=>by let(L,w,t,v,_,_,W,_):=h;have:=t.dep_pos;lia)
 |qV n gP=>
  let M:n4PwK mg υ "_law_spans" (2*n) ["_law_shape","_law_word_here"]^OFn:=(f,fd,hm,F.C9,ab,gP);let an:n4PwK mg υ "_law_from_behind" (2*n+1) ["_law_shape","_law_word_here"]^Fy! n:=(f2,fd2!,m2,Vk.C9,b2,Tj! Vk! Tn M);show F.ok d_J! (eN_) QBL;let(L,w,t,v,ζ,N,W,hw,o,q):=h;let B:q4 (2*n+1) _:=cT;let I:=B.Hu (j:=1) (!6);let U:=B.Hu (j:=2*n) (!6);show(_,(lW (mSQK' (hF^k9^m5 ap IQDK)^m8)^lW (mSQDO (hF^k9^m5 an BQQ7)^m8)^lW (m3 2 d_J.eR^m5M UQQ7)^lW (mSQDO (hF^k9^m5eFIQFG)^m8)^lW (mSQDO (hF^k9^x9 ["_law_shape","_law_word_here","_law_ones","_law_twos"] ζ (!0) (CNζ T.b_^nGQPL)^λcl CbNs'H'=>(t7,mZNT (mZNT (mZPZmV^wW (ID! K) (!4) T.eN boot_len! QT')^mZPZmVQAD)^mMQJlQAbQADQAQ))^m8)^lW (m3 3 d_J.eR^m5M UQQ7)^lW (mSQDO (hF^k9^m5 al IQDN)^m8)^lW (mSQDO (hF^k9^J6 ["_law_shape","_law_word_here","_law_ones","_law_twos"] ζ (!0) QKi^λcl CbNs'H'=>mZsNQADQAF)^m8)^lW (mSQDO (hF^k9^J6 ["_law_shape","_law_word_here","_law_ones","_law_twos"] ζ (!0) QKi^λcl CbNs'H'=>mZMYQADQAF)^m8)^hF^k9^J6 ["_law_shape","_law_word_here","_law_ones","_law_twos"] ζ (!0) QKi^λcl CbNs'H'=>mZNTQAD^mZMYQADQAF),3);let done:∀{t':cF}QJB{X:m1},Xa<*.P'^mJQLR->pGKXa^mJQLR/\(mJQLR).β=w.β+1:=λh=>(pG.of h,by rw[o8,A0]);cases t with
  |yT k=>
   let(p,ζ,b5):=id N;show(p,2,.P2 QD2,0,rTζ (L,w,1,N,.UR (k,0),hw,!2,q))
  |yV c=>
   let(p,ζ,b5):=id N;show(p,2,.P2 QD2,0,nI (by change ¬ V.tV 2=V.tV 1;decide)^m7b5bO (0,rTζ (L,w,1,N,.P2 (c,0),hw,!2,q)))
  |uR k x=>
   let(p,u,ζ,b5,S):=N;let W:x.Kd+1≤n+1:=W;show(p,2,.P2 QD2,0,nI (by change ¬ V.tV 2=V.tV 1;decide)^m7b5bO (0,nI (by cases k<;>decide +kernel) ?_));cases k with
   |T7=>show(m7b5bO (0,rT (!3)^m7b5fV (L,w,x,u,0,S,9,hw,o,q)))
   |again=>
    show QD3;let e:=m__b5;show(m7ebO (0,rT (!3) (ac Lx,w,a,0,J,o,λbbFs2O=>qbbF (m.ξ s2) O)))
   |WA=>
    show QD3;let e:=m__b5;show(m7ebO (0,nI (!3)^m7ebO (0,rT (!3) ?_)));let ln!:(mJ^xMQH6w).β=w.β+1:=by rw[o8,A0]
    show ON (n:=w.β+1) (λRh=>(a,2,.UR^pG.of J,by rw[ln!];show h)) (Gc! o) (λDjysH'=>ys=(mJ^xM (ac L^.uR .WA x) w).Uj j) QK_ ?_ ?_
    .rintro D j ys H' fT f5 dA Y g z ζ k1 k2;let Y:j≤w.β:=L0Y
     let l4:(0:ω)+(j:ω)=j:=ω.WL _;show hI (a,2,.UR^pG.of^g__ J,4,(h6,9,!0),4,(Ho!,9,!0),4,q8 (g__ J) (HRl4Y) (4,k1_H'z (mI.X6 gdA) (uW ?_).UH));unfold mJ;rw[na,MTY];change δ^V.tV (spn (C6LQH6) wj:χ)=_;rw[<-zd! hw Y];unfold mJ at ln!;rw[ln!,l4,DM,DM,ω.one_mul,ω.one_mul]
    .rintro D ys H' dA g z ζ;rw[vJ^by rw[o8,A0];show nZ_]at z;show qDH' (m.ξ g) z
  |rE k x y=>
   let(p,u,u2,ζ,b5,S,d7):=N;let W:max x.Kd y.Kd+1≤n+1:=W;show(p,2,.P2 QD2,0,nI (by change ¬ V.tV 3=V.tV 1;decide)^m7b5bO (0,nI (by cases k<;>decide +kernel) ?_));show(m7b5bO (0,nI (by cases k<;>decide +kernel)^m7b5fV (L,w,x,u,0,S,aK! W,hw,o,λaXm J=>?_)));let e:=m__b5;show(m7ebO (0,nI (by cases k<;>decide +kernel)^m7ebO (0,nI (by cases k<;>decide +kernel)^m7eiO (L,w,y,u2,0,d7.C9^mI.C9 m,W5W,hw,o,λbbFs2O=>?_))));let d:=s2__e;let r:=s2__ J;let l:=m.ξ s2;cases k with
   |WG=>show(m7dbO (0,rT (!3) (ac Lx,ac Ly,w,a,b,0,r,O,!2,λb Z s3h3=>qb Z (l.ξ s3) h3)))
   |YH!=>show(m7dbO (0,nI (!3)^m7dbO (0,rT (!3)^ak! QCAr Oo (λi ZfTg6h=>(4,by rw[yq!,Sg!];show h)) lq)))
   |both!=>show(m7dbO (0,nI (!3)^m7dbO (0,nI (!3)^m7dbO (0,rT (!3)^ak! QCAr Oo (λi ZfTg6h=>(4,by rw[KX!,zi!];show h)) lq))))
   |less!=>
    show(m7dbO (0,nI (!3)^m7dbO (0,nI (!3)^m7dbO (0,nI (!3) ?_))));dsimp only[u9,H3];show ak! QCAr Oo (λi ZfTg6h=>(4,4,by rw[KX!,vw!];show h)) lq
def mh!:n9 ["_law_shape","_law_word_here"] ["_law_shape","_law_word_here"]^hY Nr!:=nU
def NK!(F:nEK "_law_has" "_law_has" Nr! fl)QAE(b:n4PwK mg υ "_law_spans" 24 ["_law_shape","_law_word_here"]^OF 12):mTPwK mg υms 25 fl ["_law_shape","_law_word_here"]^lQ! 12:=by
 show F.okA mh! ?_;rintro _ _ _ _ _ _ _ _ g⟨L,w,t,v,ζ,e,j,hw,h,q⟩;show(_,(hF^k9^xPD8 (mZMY (mZU' (qM (m5bgQDK) mV) QB6) mV) mVQBZ),3);let hz:(lYw).β≤Φ:=m6 (by rw[nJ];show FIh);show(L,w,t,v,0,e,j,hw,h,λa mdk=>?_);show(q8kQUB (2,hz,4,h6,4,0,q_ md^by rw[A4];show(GZ^by rw[nJ]).ξ zf!))
def g_R!:n9 ["_law_found","_law_due","_law_k"] ["_law_found","_law_due"]^hY Nt!:=nU
def kn!(F:nEK "_law_same" "_law_same" Nt! fk)QAE(S:mg "_law_same"<*.ο f)(t:p6Kk ["_law_found","_law_due"] []):mTPwK mg υms 13 fk ["_law_found","_law_due"]^OG 13:=by
 let eN:∀nvsHQ E,OGnvsHQ E->vs.β=["_law_found","_law_due"].β:=λnvsHQ Eh=>by
  let(x,y,ζ,_):=h;rfl
 let u7:∀n:χ,mTPwK mg υmsnfk ["_law_found","_law_due"]^OGn:=by
  intro n;induction n with
  |qW=>show(eN 0,λ______vsQ E____h=>by let(x,y,_,h,_):=h;show h.Q5)
  |qV n N=>
   let D:n4PwK mg υ "_law_same" n ["_law_found","_law_due"]^OGn:=(f,k,S,F.C9,t,N);show F.ok g_R! (eN_) (λbYAb7sHvsQ E Rh=>?_);let(x,y,ζ,r,O,q):=h;show(_,(lW (mS ((tG (qYQQ8)^xO^qYQFI).pt) (lW (mS ((tG (BNQQ9QQ8)^xO^BNQLpQFI).pt) QAd^m8)^lW (mS (BNQBbQJn) QAd^m8)^lW (t6 U_.X5 ζ (CNζ T.b_^nGQJn) (z0 2 g_R.eR)^hF^mS (tY^qY^m5D R^m4 (mM xr! QADQAOQAQ)^mM xr! QAFQAOQAQ) QAd^m8) QAd)^m8)^lW (mS (qY^yG T.sx T.bC boot_bool! QAF) (hF^k9^D2QLqQGi)^m8)^lW (mS (qY^yG T.sx T.tV boot_int! QAF) (hF^k9^D2 (yG T.sx T.tV boot_int! QAD)^D2 (RYQLq) QGi)^m8)^lW (mS (qY^yG T.sx T.uM boot_str! QAF) (hF^k9^D2 (yG T.sx T.uM boot_str! QAD) QGi)^m8) QQ3),3);let j:∀uv:V,(z4H (n+1) uv->u=v)->(z4H (n+1) uv->decide (u=v)=π):=λuvhl=>uO^hl;rcases O with⟨b,ζ⟩|⟨b,ζ⟩|⟨g,ys,ζ,e,X,h2⟩
   .let lN:∀{u:V},z4H (n+1) u^.uM b->u=.uM b:=λl=>VH! lQPv;show(8,yZ.uM _,xm! K,(8,yZ.uM _,HH! K,(8,yZ.uM _,PL! K,(8,yZ.uM _,xn! K,QUC))));rcases r with⟨a,ζ⟩|⟨a,ζ⟩|⟨p,xs,ζ,b5,L,h1⟩
    .exact (8,yZ.uM _,mq! K,2,QUD)
    .exact (8,yZ.tV _,Sz! K,2,QEK)
    .exact (8,yZ.iT b5,Sx! K,2,QEK)
   .let lN:∀{u:V},z4H (n+1) u^.tV b->u=.tV b:=λl=>VH! lQPv;show(8,yZ.tV _,xp! K,(8,yZ.tV _,PH! K,(8,yZ.tV _,pK! K,(8,yZ.tV _,Iu! K,3))));rcases r with⟨a,ζ⟩|⟨a,ζ⟩|⟨p,xs,ζ,b5,L,h1⟩
    .exact (8,yZ.uM _,xn! K,2,QEK)
    .exact (8,yZ.tV _,Iu! K,2,(8,yZ.tV _,pK! K,2,2,QUD))
    .exact (8,yZ.iT b5,Sy! K,2,QEK)
   .let s2:pGKHgys\/n'KHgys:=.P2^n'.of e;show(8,yZ.iT e,(BFK).1,(?_));rcases r with⟨a,ζ⟩|⟨a,ζ⟩|⟨p,xs,ζ,b5,L,h1⟩
    .exact (8,yZ.uM _,xm! K,8,yZ.iT e,(BFK).1,0,S' (!0) QFd)
    .exact (8,yZ.tV _,xp! K,8,yZ.iT e,(BFK).1,0,S' (!0) QFd)
    let M:pGKHpxs\/n'KHpxs:=.P2 QD2;show(8,yZ.iT b5,(BFK).1,8,yZ.iT e,(BFK).1,0,zEζ (8,yZ.iT b5,xl! K,8,yZ.iT e,xl! K,0,zEζ ?_));let lk:=λl=>Sw! (n:=n) b5el;show(p,xs,0,M,g,ys,0,s2,0,3);rcases Classical.em (xs.β=ys.β)with d|d
    rotate_left
    .exact S' (λz=>d^ω.ofNat.WZ^V.tV.WZ z) (q_ λl=>mW (lk l).1 d)
    show zE (by rw[d]) (g,ys,0,s2,2,kP,9,3);show zY (n:=ys.β) (λimH'=>∃o,m=[δQAl,δ^.ο g,o]/\H'=H) (ε,5) ?_ ?_
    .rintro i m W Y⟨o,ζ,ζ⟩;let C:=mO (l:=xs) (i:=i)^EAYd;let B:=mO (l:=ys) (i:=i) (!2);let J:qZxsQC3<*xs[i]:=by rw[ω.WL];show r8C
     let I:qZysQC3<*ys[i]:=by rw[ω.WL];show r8B
     show .P2^.UR (p,xs,4,n'.of b5,J,.P2^.UR (g,ys,4,n'.of e,I,1,h1_^v7C,h2_^v7B,λb U=>?_));cases b with
     |π=>show(2,0)
     |ν=>show(q_ λl=>nomatch U^(lk l).2 i__CB)
    .rintro m W⟨o,ζ,ζ⟩;show q_ λ_=>rfl
 show u7 13
def Tl!:n9 ["_law_found","_law_letters_here"] ["_law_found","_law_letters_here"]^hY Nu!:=nU
def Vf!(F:nEK "_law_is_word" "_law_is_word" Nu! fj)QAE:mTPwK mg υms 1 fj ["_law_found","_law_letters_here"] sp_isword!:=by
 show F.okA Tl! ?_;rintro _ _ _ _ _ _ _ _ _⟨L,w,ζ,hw,k,q⟩;show(_,(hF^k9^D2 (wW (dw! (T:="str") (b:=π)) (!4) T.sx iZ^m4 (cN 0)^XU (v:=.ty "str") (!4) T.uM boot_str! ζ)
  (HT^xPD8 (AW T.eN^x9 ["_law_found","_law_letters_here"] ζ (!0) (cb!^cN 0)^λmCl s'H'=>(XR^q7 Fl! (cN 0) (cN 2)^by with_unfolding_all rfl,cN 0)) mV^ym! _)),3)
 show(1,yZ.uM _,by with_unfolding_all rfl,2,C3 ?_);dsimp only[MP,rO,pS];show bf! (x:=lYw) QUE (!4) (m6^by rw[nJ];lia) (λicH'Rag=>?_) (λDh=>?_)
 .refine (4,3);let e:=oo! Lc;unfold jL.Hr at e;rw[e];show g
 .refine (D,2,.UR^pG.of hJ,0,3);let e:((lYw).Ym.Zh.Wo λc=>!decide QIl)=[]:=by
   rw[tI,γ.filter_eq_nil_iff];intro c a;simp[hw c a]
  let d:decide (V.tV (((((lYw).Ym.Zh.Wo λc=>!decide QIl).Tx λc=>V.uM ⟨#[c]⟩).β:χ):ω)=V.tV 0)=π:=by
   rw[e];rfl
  rw[d];show q_^mI.mE h
def b_X!:n9 ["_law_found","_law_letters_here","_law_row","_law_goal"] ["_law_found","_law_letters_here"]^hY Nv!:=nU
def Tn!(F:nEK "_law_is_machine" "_law_is_machine" Nv! f Z)QAE:mTPwK mg υms 1 f Z ["_law_found","_law_letters_here"] sp_ismach!:=by
 show F.okA b_X! ?_;rintro _ _ _ s H _ _ _ _⟨m,L,W,B,ζ,U,g,q⟩;show(_,(lW (mS ((tG (tY^qYQQ9)^tG (BNQBbmV)^tG (tY^qY^yG T.sx T.uM boot_str! QBB)^xO^BNQBBQAF).pt) QAd^m8)^lW (mS ((tGQKj^tGQKj^xO^uUQJomV).pt) QAd^m8)^lW (t6 U_.X5 ζ (DL! QBB) (z0 2 b_X.eR)^lW (mS ((tG (tY^qY^yG T.sx T.Xp AUQAO)^xO^BNQPLQB6).pt) QAd^m8)^hF^t6 U_.X5 ζ (DL! QAO) (z0 3 b_X.eR)^hF^mS ((tG (tY^qY^yG T.sx T.tV boot_int! QAb)^tG (qY^yG T.sx T.bC boot_bool! QAb)^tG (q7MEQAbmVQBZ)^xO^q7LEQAbQJoQBZ).pt) QAd^m8)^hF^k9^D2 (xPD8QJoQJoQBZ)^HT^wW (jB! ζ) (!4) T.u7 boot_all!^nG^x9 ["_law_found","_law_letters_here","_law_row","_law_goal"] ζ (!0) (wVQBB)^λcl CbNs'H'=>(t7,(wW (yj! (T:="bool") K) (!4) T.sx iZ^m4QAD^XU (v:=.ty "bool") (!4) T.bC boot_bool! ζ))),3);let(t,mk,l,h1,h2,M,Y,X):=U;let hz:(lYL).β≤Φ:=m6 (by rw[nJ];show n5 g.lt.g6 (!0));let p:(l.Tx V.ο).β=W.β:=by rw[j',Y]
 let Q:=g.n1;let a0:∀QFs,mIHH'->n'KH'm [.uM QBX,.ο t,.ο mk]:=λs=>n'.of^s__h1;let rf!:=mI.Kx H;show(8,yZ.iT h1,(BFK).1,(m,2,.P2^n'.of h1,0,zEζ ?_));show(m7h1bOQUC);show(m7h1bO (0,zEζ ?_));show(m7h1fV (8,yZ.iT h2,(BFK).1,3));show(m7h1iO (8,yZ.iT M,(BFK).1,3));show(m7h1fV (t,2,.P2 QVG,0,3));rw[p,yd! (!6)];show(m7h1fV (t,0,(_,n'.of h2),3));show HK! (K:=K) (a:=t) (xs:=l.Tx V.ο) (λi dH'=>E2 λs2k=>d=[δQMV,δQAc,s2,k]/\H'=H) (ε,ε,5) ?_ ?_ ?_
 .rintro i d H' g6⟨s2,k,ζ,ζ⟩;show n'.of h2
 .rintro i x d H' N⟨s2,k,ζ,ζ⟩;rw[na]at N;let(u,E,ζ):=r7N;let(ws,y,e):=Xiu E;let(z,A):=g.row ws^v7y;show(8,yZ.iT e,(BFK).1,(u,2,.P2^n'.of e,2,hz,0,3));rw[o8,z,nJ];show zEζ ?_;show(u,0,(_,n'.of e),3);show HK! (K:=K) (a:=u) (xs:=mJws) (λi dn=>∃k,d=[δQMV,δQAc,δ^.ο u,k]/\n=H') (2,0) ?_ ?_ ?_
  .rintro j d n I⟨k,ζ,ζ⟩;show n'.of e
  .rintro j x d n hxj⟨k,ζ,ζ⟩;let I:j<ws.β:=by have:=(m9 hxj).1;rwa [o8]at this
   rw[xUI]at hxj;cases hxj;let S:=A_^GOI;show(8,yZ.tV _,Iu! K,(8,yZ.tV _,pK! K,(4,3)));rw[pI^ω.not_lt.Ui^ω.natCast_nonneg _];show(m7h1fV (t,2,.P2 QVG,4,3));rw[p,pI^ω.not_le.Ui^ofNat_lt.Ui S];show(2,0)
  .rintro d n⟨k,ζ,ζ⟩;show(1,0)
 .rintro d H'⟨s2,k,ζ,ζ⟩;show(m7h1iO (mk,2,.P2^n'.of M,m7h1fV (t,2,.P2 QVG,0,2,3)));rw[p,j',g.dW,YA,uOζ];show C3 ?_;dsimp only[rO,pS];show DN (a:=mk) QHtQJLM (λDjysn=>ys=(nMjπ).Tx V.dW) (by rw[j',g.dW];show m6^n5 g.n60 (!0)) (λD J=>rfl) ?_ ?_
  .intro DjxysnfTf5J hxj o rb5k1k2;rw[na]at hxj;let(b,O,ζ):=r7 hxj;show hI (8,yZ.dW _,Hy! K,k1_nr (mI.X6 o J) ?_);rw[b5,γ.replicate_succ',pY];rfl
  .intro Dysn Jorb5;subst b5;show(D,2,r,λb O=>(γ.mem_replicate.mp O).2,q_o)
def e_h!:n9 ["_law_cell","_law_some"] ["_law_cell"]^hY Nw!:=nU
def dH!(F:nEK "_law_foreign" "_law_foreign" Nw! fi)QAE:mTPwK mg υms 1 fi ["_law_cell"] sp_foreign!:=by
 show F.okA e_h! ?_;rintro _ _ _ _ _ _ _ _ _⟨z,ζ,q⟩;show(_,(lW (m3 1 e_h.eR^j5)^hF^k9^mMEPQAF (mZJMQADQB6) QAQ),3);let e:(lY forL!).β=68:=by rw[nJ,re!]
 let hz:(lY forL!).β≤Φ:=m6 (!6);rw[<-xQ!]at hz e;show(2,hz,4,by rw[e];decide,λrda=>?_);rw[e]at a;let(v,h,b):=ZU (xs:=forL!) d (by rw[re!];show a);let g:=PD! v^v7b;show(_,4,hz,by rw[xQ!,tI];show h,qv g.1 g.2)
def Aj!:n9 ["_law_letters_here"] ["_law_letters_here"]^hY Nx!:=nU
def f8(F:nEK "_law_others" "_law_others" Nx! fg)QAE:mTPwK mg υms 1 fg ["_law_letters_here"] sp_others!:=by
 show F.okA Aj! ?_;rintro _ _ _ _ _ _ _ _ _⟨L,ζ,q⟩;show(_,(hF^k9^LU plainAttrs_str! Δ.F.slot_str_join Δ.F.type_str_join qK! (j5)^nG^x9 ["_law_letters_here"] ζ (!0) (cb! j5)^λkCj s'H'=>(XR^q7 Fl! QADQAFQAN,cN 0)),3);let hz:(lY abcL!).β≤Φ:=m6 (by rw[nJ];decide);let a:(bE.WK "abcdefghijklmnopqrstuvwxyz")=lY abcL!:=Ag!;rw[<-a]at hz;show(0,nK! QUE hz ?_ ?_)
 .intro icH'Rhb;show(4,3);let e:=oo! Lc;unfold jL.Hr at e;rw[e];show b
 .intro Dd;show(_,D,(H4L).Tx λc=>(⟨#[c]⟩:bE),5,pG.of ?_,3,3)
  .rw [hJ,a,tI,map_map!];rfl
  .exact cu! _^n5 (γ.length_filter_le _ abcL!) (!0)
  .rw [aX!,LX!];show q_QDM
def b_z!:n9 ["_law_letters_here","_law_cell","_law_place","_law_at","_law_more"] ["_law_letters_here","_law_cell","_law_place"]^hY Ny!:=nU
def To!(F:nEK "_law_no_letters" "_law_no_letters" Ny! f fd)QAE(D:n4PwK mg υ "_law_others" 1 ["_law_letters_here"] sp_others!)(o:n4PwK mg υ "_law_foreign" 1 ["_law_cell"] sp_foreign!):mTPwK mg υms 2 f fd ["_law_letters_here","_law_cell","_law_place"] sp_noletters!:=by
 show F.okA b_z! ?_;rintro _ _ _ s H _ Q _ Z⟨L,z,p,ζ,C,q⟩;let e:=Z.Hu (j:=1) (!0);show(_,(lW (m3 3 b_z.eR^mZJMQAO^mZaZQG8mV)^lW (mSQEW (hF^k9j5)^m8)^lW (mSQEW (lW (m3 4 b_z.eR^mMEPQAD (mZJM (mZO1QAFmV) QG8) QAQ)^hF^k9^mZuI (mZuIQELQBj) QG_)^m8)^lW (mSQEW (lW (m3 4 b_z.eR^yIL2 (m5DeQCu) (CS^mZJM (mZO1QAFmV) mV) z8)^hF^k9^mZuI (mZuIQEL^yIL2QBjz8^CS^mZNTmVQG8) QG_)^m8)^EU (mS ((U6QEW^XP^q7MEQAbQG8QBZ).pt) (hF^k9^mZuIQHX^yIL2QAD (CSQNm) z8)^m8)^hF^k9^mZuIQHXQG_),3);let eF:=C.lo;let y:=C.g6;let k:=C.jN;let hz:(lYL).β≤Φ:=m6 (by rw[nJ];show S5y);let x:(0:ω)<((lYL).β:ω):=by rw[nJ];show O5eF
 show(2,hz,4,4,9,λagB=>?_);rw[nJ]at B;let h:∀{m:lU}{lo:ω}QFs,0≤lo->lo≤L.β->m.β≤26->uYm->¬ ww (L.Uj a.UD++m++L.Gd lo.UD)->mIHH'->(jL.Zf QBXε^δa).β+(lYm).β≤Φ/\(jL.Zf QBXε^δa++lYm).β+(jL.Zf QBX (δ lo) ε).β≤Φ/\Q (.uM (jL.Zf QBXε^δa++lYm++jL.Zf QBX (δ lo) ε)) H':=λ{m lo H'}nh1 hm Y W s=>by
  let M:=VsQBXg;let O:=Df! QBXn (by rw[tI];omega);rw[tI]at M O;let l1:(L.Uj a.UD).β≤3:=by rw[rS];show JB! y
  let l2:(L.Gd lo.UD).β≤3:=by rw[zM];lia
  rw[M,O,yE,yE,nJ,nJ,nJ,nJ,o9];show(m6 (!6),m6 (!6),q_H'W (k.mid Y (!6)) s)
 let E:a≤L.β:=by lia
 show QJ_
 .let R:=q [] H tK! (!1,λc A=>by simp at A) QHs;rw[<-KE]at R;show R
 show QJ_
 .refine (4,QKh,2,hz,4,x,λrue=>?_);let(v,X,b):=ZU (xs:=(lYL).Ym.Zh) u (by rw[tI,<-nJ];show e);rw[tI]at b;let i:v∈L:=v7b;let f:=h (m:=[v]) g E (by change 1≤26;decide) (k.uR i) (Bk! i) QHs;show(_,4,hz,X,2,2,hz,4,f.1,2,2,hz,4,f.2.1,f.2.2)
 show QJ_
 .let ab:=Wq! L;let I:(H4L).β≤26:=γ.length_filter_le _ abcL!;show(L,0,λH1U=>(4,QKh,4,!0,λrnh1=>?_));let N:=Df! (lY^H4L) n (by rw[tI];lia);rw[tI]at N;show(2,2,m6^by rw[nJ];lia,3);rw[N];show(2,2,hz,2,hz,4,2,2,m6^by rw[nJ,zM];lia,3);let em!:=Vs (lY^(H4L).Gd r.UD) (j:=4-(L.β:ω)) (!6);rw[tI]at em!;rw[nJL,em!];let al:(((H4L).Gd r.UD).Uj (4-(L.β:ω)).UD).β=4-L.β:=by
   rw[rS,zM];lia
  let f:=h (m:=((H4L).Gd r.UD).Uj (4-(L.β:ω)).UD) g E (Xa! al) (Lu! al,λc A=>by
   have:=(Wi!^P7^WYA).1;lia) (Lb! y (!6)) U
  show QNC
 let J:∀{v:χ}{lo:ω},0≤lo->lo≤L.β->(v<97\/122<v)->v<127->_:=λ{v lo}nh1db=>h (m:=[v]) nh1 (by change 1≤26;decide) (We! (!6)) (Ey! (c:=v) (!1) d) QHs;show(λtH'=>t=[δQAc,δQHv,δ^.tV p,δ^.tV a,ε]/\H'=H,3,3)
 .refine (4,!0,0,p9QDiQQs);show(2,hz,4,p9 (λl=>?_) QQs);rw[nJ]at l;show QND;let f:=J (v:=v) (lo:=a+1) (!6) (!6) db;show(4,f.1,4,2,2,hz,4,f.2.1,f.2.2)
 rintro S H1⟨rfl,ζ⟩;show QND;let f:=J (v:=v) g Edb;show QNC
def c_E!:n9 ["_law_shape","_law_found","_law_part"] ["_law_shape"]^hY Nz!:=nU
def iC!(F:nEK "_law_parts" "_law_parts" Nz! f S)QAE(hm:mg "_law_parts"<*.ο f)(as:p6K S ["_law_shape"] []):mTPwK mg υms 12 f S ["_law_shape"]^T3 12:=by
 let eN:∀nvsHQ E,T3nvsHQ E->vs.β=["_law_shape"].β:=λnvsHQ Eh=>by
  let(t,v,ζ,_):=h;rfl
 let u7:∀n:χ,mTPwK mg υmsnf S ["_law_shape"]^T3n:=by
  intro n;induction n with
  |qW=>show(eN 0,λ______vsQ E____h=>by let(t,v,_,_,hd,_):=h;have:=t.dep_pos;lia)
  |qV n gP=>
   let aA:n4PwK mg υ "_law_parts" n ["_law_shape"]^T3n:=(f,S,hm,F.C9,as,gP);show F.ok c_E! (eN_) QBL;let(t,v,ζ,u,hd,hz,q):=h;show(_,(lW (mSQK' (hF^k9^AVQCu)^m8)^lW (m3 1 c_E.eR^AVQCu)^lW (t6 U_.X5 ζ (wV^yI hj! QADQMrz8) (z0 2 c_E.eR)^hF^m3 1 c_E.eR^mZU1QAF^m5aAcTQFG) QG9),3);let l1:1≤Φ:=m6 (by change 1≤16777216;decide);rcases tn! u hd with⟨k,ζ⟩|⟨c,ζ⟩|⟨p,nm,us,b,ζ,b5,hul!,h1,h2,al,hpt,hZ⟩
   .obtain ⟨p,ζ,b5⟩:=id u;show(p,2,.P2 QD2,0,rTζQD6)
   .obtain ⟨p,ζ,b5⟩:=id u;show(p,2,.P2 QD2,0,nI (by change ¬ V.tV 2=V.tV 1;decide)^m7b5bO (0,rTζQD6))
   let ap:¬ QHW:=λz=>by
    have:=V.tV.WZ z;rw[oY]at this;show Gw! this h1
   show(p,2,.P2 QD2,0,nI ap^m7b5bO (0,nI (λz=>al^V.uM.WZ z) ?_));show(l1,λDr=>?_);let X:=mI.mE (o:=.P' [V.ο p]) r;let M:_F.mE HD (.P' [V.ο p]) D<*.P' [V.ο p]:=hJ;generalize _F.mE H D (.P' [V.ο p])=H0 at X M;let N:yA (V.uM nm::us) (δ 1) ε=us:=(cL! (xs:=V.uM nm::us) (t:=1)^by rw[oY];show FJ).ξ ζ;show(2,p,2,n'.of^X__b5,3,λaeM=>?_)
   .rintro⟨z,_⟩;unfold ZC.uA at z;simp at z
   rw[N];let R:=X.ξ^mI.mE (o:=.iT us) eM;let l:_F.mE H0a (.iT us) a<*.iT us:=hJ;let L:=mI.mE (o:=.iT us) eM__ M;generalize _F.mE H0 a (.iT us)=H1 at R l L;let dS:=t.Yd;let d:b.β=us.β/\t.I1=t::(b.Tx cF.I1).XQ:=by
    rcases hZ with⟨k,x,ζ,ζ,ζ⟩|⟨k,x,y,ζ,ζ,ζ⟩
    .exact (hul.UH,oR_ (vP_).UH)
    .exact (hul.UH,oR_^oR_ (vP_).UH)
   show(a,_,us,0,.P2 ζ,l,λJkY=>KPkY (λijH'=>E3 λ(B:θ)(xs:γ V)(s2:ψ V)=>hC! (j=[δQAl,δ^.ο B,s2]) (mIH1H') (H'B<*.P' xs)^z7 (oUH') xs (t::((b.Uj i).Tx cF.I1).XQ)) (D,_,ε,0,mI.Kx _,L,u.C9^mI.C9 R,trivial) (λijH'eI=>by let(_,_,_,_,s,_,_):=eI;show s__l) ?_ ?_)
   .rintro i x j bF c9⟨B,xs,s2,ζ,O,m,I⟩;let(Z,g,ab,fJ):=hpt ixc9;let g6:i<b.β:=(m9g).1;let e:((b.Uj (i+1)).Tx cF.I1).XQ=((b.Uj i).Tx cF.I1).XQ++Z.I1:=by rw[uWg];simp
    let Y:Z.I1.β≤t.I1.β:=by
     rw[d.2];show W9^γ.Sublist.length_le^γ.sublist_flatten_of_mem^γ.mem_map_of_mem^v7g
    rw[cF.Yd]at Y;show(Z,x,0,(ab.C9^mI.C9 R).C9^mI.C9 O,fJ,9,λq1ysbJWeFC=>?_);let eG:=I.eN;let an:=C.eN;let bd:(t::((b.Uj i).Tx cF.I1).XQ).β≤t.I1.β:=by
     let e3:(b.Tx cF.I1).XQ=((b.Uj i).Tx cF.I1).XQ++((b.Gd i).Tx cF.I1).XQ:=by rw[<-γ.flatten_append,<-pY,DJ]
     rw[d.2,oY,oY,e3,o9];lia
    show(B,q1,4,W__m,eF,m6^by rw[cF.Yd]at bd an;lia,λrReW=>?_);let U:=mI.mE (o:=.P' (xs++ys)) eW;show(rR,1,(O.ξ W).ξ U,hJ,by rw[e];show z7.app (C.C9^mI.C9 U)^I.C9^mI.C9^W.ξ U)
   .rintro j bF⟨B,xs,s2,ζ,O,m,I⟩;rw[vJ^Hh! hul!,<-d.2]at I;show qBxsbF (R.ξ O) m I
 show u7 12
def a_N!:n9 ["_law_machine","_law_shape","_law_word_here","_law_bits","_law_room","_law_size"] ["_law_machine","_law_shape","_law_word_here"]^hY bt!:=nU
def Tp!(F:nEK "_law_takes_as_told" "_law_takes_as_told" bt! f fd)QAE(I:n4PwK mg υ "_law_spans" 24 ["_law_shape","_law_word_here"]^OF 12):mTPwK mg υms 25 f fd ["_law_machine","_law_shape","_law_word_here"] sp_told36!:=by
 show F.okA a_N! ?_;rintro _ _ _ _ _ _ _ _ R⟨m,L,w,W,B,t,v,ζ,U,e,x,Q,A,hw,eG,q⟩;show(_,(lW (m3 3 a_N.eR^qM (m5I RQGA) mV)^lW (m3 4 a_N.eR^mV)^lW (t6 U_.X5 ζ (CNζ T.b_^nG^mZaZQPPmV) (z0 5 a_N.eR)^lW (mS (BN (L6QBBQBj)^xPD8 (mZMY (mZU'QAbQBt) mV) mVQBZ) QAd^m8)^hF^mS (q7MEQBtQPPQBZ) (hF^m3 4 a_N.eR^L6 (L6QBBQBj)^LU plainAttrs_str! Δ.F.slot_str_find Δ.F.type_str_find Pr! QBB^nG^mMEPQAOQBtQAQ)^m8) QAd),3);let hz:(lYw).β≤Φ:=m6 (by rw[nJ];lia);show(L,w,t,v,0,Q,A,hw,9,λaH1J S=>?_);let(fU,mk,M,h1,h2,Z,Y,X):=id^U.Ki J;show(q8SQUB ?_);show(2,hz,4,2,O4,by rw[nJ];lia,3);show zY (n:=((((lYw).β:χ):ω)+1).UD) (λipH'=>E2 λ(r:χ)(s:ψ V)=>vE (p=[δQMV,δv,δQBT,δ^.tV (spn QCIw 0:χ),δQQ1,s]) (H'=H1) (i≤w.β->r=n6L W 0 QPQ)) ((0),ε,5,λ_=>rfl) ?_ ?_
 .rintro i p O o⟨r,s,ζ,ζ,H⟩;let o:i≤w.β:=by rw[nJ]at o;show Jf! o
  let H:=Ho;subst H;let N:(0:ω)+(i:ω)=i:=ω.WL _;let j:nOLQPQ:=λd A=>hw d^WYA;let g:=PJe (w:=w.Uj i) e.n1 j;let i4:(spn QCIw 0).Vy i=π↔B.TC (n6L W 0 QPQ) ν=π:=by
   rw[NW,Sh!,<-x];show(λh=>h.2.2.2,λh=>(o,pT_,j,h))
  let bd:decide (V.tV^Builtin.bitAnd (((spn QCIw 0:χ):ω)/2^((0:ω)+(i:ω)).UD) 1=V.tV 1)=B.TC (n6L W 0 QPQ) ν:=by
   rw[b9.Mc,A4];show(GZN).ξ i4
  show(m7h1iO^m7Z (OO^UJ e.dW g) (4,Ho!,4,5,zE (by rw[bd]) ?_));show(2,hz,4,p9QMN^λy=>(4,λz=>mW (show(0:ω)+(i:ω)<(((lYw).β:χ):ω) by rw[nJ];lia) y));let b:(0:ω)+(i:ω)<(((lYw).β:χ):ω):=b;rw[nJ]at b;obtain⟨c,D⟩:∃c,w[i]?<*c:=(_,mO (!6));let l:c∈L:=hw c^v7D;let C:L.UL c<L.β:=wZl;let(iP,u,k):=tF.row YXg;let E:qZ (lYw).Ym.Zh QC3<*c:=by rw[tI,N];show r8D
  show(m7h1fV^m7h2 (wR V.ο u)^m7h1bO (0,_,4,hz,E,4,3));rw[Fz! l];show(m7k (zF^by rw[(zZeg).1];show C) (4,λ_=>?_));rw[FW,D];show(EVL W 0 QPQc).UH
 .rintro p O⟨r,s,ζ,ζ,_⟩;show q O J
def b_j!:n9 ["_law_words","_law_tails","_law_letters_here","_law_k","_law_i","_law_j","_law_row"] ["_law_words","_law_tails","_law_letters_here"]^hY NB!:=nU
def Vr!(F:nEK "_law_witness" "_law_witness" NB! f fd)QAE(ap:n4PwK mg υ "_law_same" 13 ["_law_found","_law_due"]^OG 13)(I:n4PwK mg υ "_law_is_word" 1 ["_law_found","_law_letters_here"] sp_isword!):mTPwK mg υms 14 f fd ["_law_words","_law_tails","_law_letters_here"] sp_wit36!:=by
 show F.okA b_j! ?_;rintro _ _ _ _ H _ _ _ cT⟨D,Q,L,us,bW,S,ζ,dA,l,h9,an,Y,Z,q⟩;let A:=cT.Hu (j:=1) (!0);show(_,(lW (mS ((tG (tY^qYQLp)^tG (BNQBbmV)^tG (tY^qYQFI)^xO^BNQJnmV).pt) QAd^m8)^lW (m3 3 b_j.eR^mV)^lW (t6 U_.X5 ζQIK (z0 4 b_j.eR)^hF^t6 U_.X5 ζ (JGζ T.b_^m4 (mZaZQBjmV) mV) (z0 5 b_j.eR)^lW (m3 6 b_j.eR^qMQAFQAb)^lW (mS ((tG (tY^qY^yG T.sx T.Xp AUQCo)^tG (BN (AW T.eN QCo) mV)^xO^tY^qY^m5 ap cT^m4 (yI hj! QCoz8QMr)^p0^m4QBjQBt).pt) QAd^m8)^lW (mS (tY^qY^m5I A^m4 (K8 6) QAO) QAd^m8)^hF^m3 3 b_j.eR QNm)^hF^k9^wW (jB! ζ) (!4) T.u7 boot_all!^nG^x9 ["_law_words","_law_tails","_law_letters_here","_law_k","_law_i","_law_j","_law_row"] ζ (!0) (wVQAD)^λcl CbNs'H'=>(t7,(m5I A^m4QADQAb))),3);let wl:(oIus).β=9:=by rw[oI,j'];show h9
 let s:(bW.Tx V.ο).β=36:=by rw[j'];show an
 let l2:2≤Φ:=m6 (by change 2≤16777216;decide);show(8,yZ.P' dA,(BFK).2.1,(D,2,.UR^pG.of dA,0,zE (by rw[wl];rfl) (8,yZ.P' l,(BFK).2.1,(Q,2,.UR^pG.of l,0,zE (by rw[s];rfl) ?_))));show(2,!0,!0,3);show zY (n:=(9:ω).UD) (λi dH'=>E3 λ(k:ψ V)(e:ψ V)(g:ψ V)=>d=[δQA0,δ^.ο Q,δQAc,δ^.tV ((off i:χ):ω),k,e,g]/\mIHH') (8,mI.Kx _) ?_ ?_
 .rintro i d bJ g6⟨k,e,g,ζ,M⟩;let g6:i<9:=g6;show(4,1,(9,9,!0,!0),3);show zY (n:=((9:ω)-(0+(i:ω)+1)).UD) (λjdH'=>E2 λ(e:ψ V)(g:ψ V)=>d=[δQA0,δ^.ο Q,δQAc,δ^.tV ((off i+j:χ):ω),δQQ5,e,g]/\mIHH') (1,M) ?_ ?_
  .rintro j d J i'⟨Dv!,ni!,ζ,k⟩;let i':i+1+j<9:=by lia
   let(t,u,e1,e2,e3,e4,e5):=ZiQO9lOi'^.UR g6;rw[show i+1+j-i-1=j by lia]at e1;let W:(i:ω)+1+(j:ω)=((i+1+j:χ):ω):=Hm!
   let X:(0:ω)+(i:ω)=((i:χ):ω):=by lia
   let N:Jt<*.iT [.tV (i:ω),.tV ((i+1+j:χ):ω),.uM^lYu]:=k__e2;show q8 (k__l) (wR V.ο e1) ?_;show(8,yZ.iT N,(BFK).1,(t,2,.P2^n'.of N,0,zEζ (2,t,2,n'.of N,3,λaeM=>?_)))
   .rintro⟨_,z⟩;show mWz (show ¬ ZC.uA 3 3^δ 2=3 by decide)
   let E:yA [V.tV (i:ω),.tV ((i+1+j:χ):ω),.uM^lYu] ε^δ 2=[V.tV (i:ω),.tV ((i+1+j:χ):ω)]:=(KR (t:=2) (xs:=[V.tV (i:ω),.tV ((i+1+j:χ):ω),.uM^lYu])^by change 2≤3;decide).ξ ζ;rw[E,X,W];show(l2,λb O=>?_);let e:=mI.mE (o:=.iT [V.tV (i:ω),.tV ((i+1+j:χ):ω)]) eM;let g:=mI.mE (o:=.iT [V.tV (i:ω),.tV ((i+1+j:χ):ω)]) O;let a6:=p5 (hJ (H:=J) (a:=a) (o:=.iT [V.tV (i:ω),.tV ((i+1+j:χ):ω)])) O (u:=.iT [V.tV (i:ω),.tV ((i+1+j:χ):ω)]);let b6:_F.mE (_F.mE Ja^.iT [V.tV (i:ω),.tV ((i+1+j:χ):ω)]) b (.iT [V.tV (i:ω),.tV ((i+1+j:χ):ω)]) b=_:=hJ;generalize _F.mE (_F.mE Ja^.iT [V.tV (i:ω),.tV ((i+1+j:χ):ω)]) b (.iT [V.tV (i:ω),.tV ((i+1+j:χ):ω)])=e7 at g a6 b6;let y:∀{p:θ},e7p<*.iT [V.tV (i:ω),.tV ((i+1+j:χ):ω)]->OEe7 13^.ο p:=λh=>.P2^.P2 (1,h,by change 2≤3;decide,λxr=>by
    rcases u3.mp r with ζ|r
    .exact .P2^.UR (_,0)
    .rw [o6r];show .P2^.UR (_,0))
   show(1,ya6,yb6,λqPm=>?_);let m:=m^SSa6b6ζ (by change 2≤2100;decide)^Sm! ζ;subst m;let U:=(k.ξ e).ξ g;let ab:=(e.ξ g) __ N;show(m7 ab iO (L,u,0,e3,aw! e4,λH7gM=>(4,1,U.ξ gM)))
  .rintro d J⟨Dv!,ni!,ζ,k⟩;rw[show off i+((9:ω)-(0+(i:ω)+1)).UD=off (i+1) by change _=off i+(8-i);lia];show(8,k)
 .rintro d bJ⟨k,e,g,ζ,M⟩;dsimp only[u9,v8,H3,pS,rO];show DN (a:=D) QCAQAv (M__dA) (λiSjysH'=>ys=(nMjπ).Tx V.dW) (by rw[wl];show m6 (!0)) (λiSB=>rfl) ?_ ?_
  .intro iSjxysH'fTf5BreF al b5k1k2;rw[oI,na]at r;let(v,dO,ζ):=r7r;let(v1,v2):=Yv^v7dO;show hI (L,v,0,v1,aw! v2,λd8e=>k1_d8 (e__ al) (mI.X6 (eF.ξ e) B) ?_);rw[b5,γ.replicate_succ',pY];rfl
  .intro ld! ysbFfJs2g2b5;subst b5;show(ld!,2,g2,λb O=>(γ.mem_replicate.mp O).2,qbF^M.ξ s2)
def a_R!:n9 ["_law_caught","_law_shape","_law_letters_here","_law_cell","_law_i","_law_j","_law_tail","_law_one"] ["_law_caught","_law_shape","_law_letters_here","_law_cell"]^hY NC!:=nU
def Tq!(F:nEK "_law_refused_well" "_law_refused_well" NC! f fd)QAE(E:G6K mg QAMQEGB1 fdX)(eI:n4PwK mg υ "_law_parts" 12 ["_law_shape"]^T3 12)(eW:n4PwK mg υ "_law_same" 13 ["_law_found","_law_due"]^OG 13)(as:n4PwK mg υ "_law_witness" 14 ["_law_words","_law_tails","_law_letters_here"] sp_wit36!)(ab:n4PwK mg υ "_law_has" 25 ["_law_shape","_law_word_here"]^lQ! 12):mTPwK mg υms 26 f fd ["_law_caught","_law_shape","_law_letters_here","_law_cell"]^Zr! QAM:=by
 show F.okA a_R! ?_;rintro _ _ _ s H _ Q _ W⟨e,d,L,t,p,v,w',z,ζ,he,h9,b5,hm,hs,hd,hz,q⟩;let U:=W.Hu (j:=12) (!0);let S:=W.Hu (j:=13) (!0);let O:=W.Hu (j:=14) (!0);show(_,(lW (mS (tY^qY^wW (Bi! ζ) (!4) T.I9 boot_any!^nG^x9 ["_law_caught","_law_shape","_law_letters_here","_law_cell","_law_i","_law_j","_law_tail","_law_one"] ζ (!0) (wV^m5eIUQEe)^λcl CbNs'H'=>(t7,(m5eWS^m4 (EG (f:="part") KQAF) QAD))) QAd^m8)^lW (mS (tY^qY^m5 as O (v5QJp (EG (f:="tails") KQAD) QAO)) QAd^m8)^lW (GG (qM (EG (f:="tails") KQAD)^mZJMQAbmV)^FMζ^wM (z0 4 a_R.eR)^wM (z0 5 a_R.eR)^wM (z0 6 a_R.eR) HV)^lW (m3 7 a_R.eR^m5 ab W^m4 (EG (f:="part") KQAD)^mZuI (qMQJpQBj) QCo)^hF^k9^xP wk! QF9 (m5 ab W^m4 (EG (f:="part") KQAD)^mZuI (qMQJpQBt) QCo) QBZ),3);let o:=n5 (cF.parts_dep hm) hd;let(D,fS,us,bW,x1,x2,x3,NY,V9,bp!,yp):=h9;let uT:∀QFs{R:oE},mIHH'->RQA0H'->Z5Kj9RQAmH':=λsr=>(e,_,QGX,1,s__ he,s__x1,E.lG,E.xc,E.na1,0,r);let R3:∀QFs{R:oE},mIHH'->R (.ο fS) H'->Z5K "tails" RQAmH':=λsr=>(e,_,QGX,1,s__ he,s__x1,E.lG,E.xc,E.na2,0,r);let bN:∀QFs{R:oE},mIHH'->Rw'H'->Z5K "part" RQAmH':=λsr=>(e,_,QGX,1,s__ he,s__x1,E.lG,E.xc,E.na3,0,r);dsimp only[u9,v8,LB!,Em!,tB,UM,pS,rO];show vt! (t,v,0,hs,hd,hz,λD1xsH1s1fJhP=>?_);let X:=hP.eN;rw[cF.Yd]at X;let I:∀QFs{t':cF}{x:V},t'.Kd≤12->oUH't'x->OEH' 13 x:=λh N=>(VP (VSN)^WJh).jN;show DN (a:=D1) QCAQAvfJ (λiSjysH'=>∃bs:γb9,vE (ys=bs.Tx V.dW) (bs.β=j) (∀i,i<j->t.I1[i]?<*p->bs[i]?<*π)) (m6 (!6)) (λiSZ=>([],5,λi A=>mWA^χ.not_lt_zero i)) ?_ ?_
 .rintro iS j x ys H' fT f5 Z N M ap⟨bs,ζ,cY,n⟩k1 k2;let(fu!,t',NZ,y2,O'):=cf! hP (m9N).1;rw[N]at NZ;cases NZ;let J:=s1.ξ M;let O':=O'.C9^mI.C9 M;show hI^bNJ (1,IoQVH,I (n5 (cF.parts_dep^v7y2) hd) O',λb an=>k1_H' ap (mI.X6 M Z) (bs++[b],by rw[pY];rfl,by rw[o9,cY];rfl,λi Ae=>?_));rcases χ.lt_succ_iff_lt_or_eq.mp A with A|rfl
  .rw [u1^by rw[cY];show A];show ni Ae
  .rw [y2]at e;cases e;rw[<-cY,Yz!,an^WN (Y3QVHO')^W9o]
 rintro ld! ys bF aA s2 g2⟨bs,ζ,cY,n⟩;let(i,A):=tl.mp hm;let Y:bs.I9 id=π:=XI.Ui (π,v7^ni (by rw[hP.eN];show(m9A).1) A,0);let k:=s1.ξ s2;show(ld!,bs,0,g2,3);rw[Y];show uTk^R3k (D,fS,L,us,bW,2,k__x2,k__x3,NY,V9,bp!,yp.Hu (λ__=>k__) λ______z=>z,λbJs3=>?_);let g:=k.ξ s3;show R3g (4,!0,λr Eo! r1=>?_);let(r,ζ):=ω.eq_ofNat_of_zero_le Eo!;let(a,b,B,l,ζ):=Zw! (r:=r) (!6);let(xJ,u,e1,e2,e3,e4,e5):=yp a bBl^.UR^zPBl;let al:=g__e2;show(q8 (g__x3) (wR V.ο e1) (xJ,2,n'.of al,0,1,1,4,3));let ug!:∀a,a<9->us[a]?<*us.TC a []:=λaeM=>by rw[pu,mO (!6)];rfl
 let eF:∀a,a<9->(lY^us.TC a []++lYu)=lY (us.TC a []++u)/\nOL (us.TC a []++u)/\(us.TC a []++u).β≤5000/\(lY^us.TC a []).β+(lYu).β≤Φ:=λaeM=>by
  let(w1,w2):=bp! _^v7^ug! aeM;show(yE__,b_s.Ui (w1,e3),by rw[o9];lia,by rw[nJ,nJ];show m6 (!6))
 let(a1,a2,a3,a4):=eFa^zPBl;let(b1,b2,b3,b4):=eFbl;show bNg^uTg^q8 (g__x2) (wRQJm^ug! a^zPBl) (4,a4,3);rw[a1];show(L,us.TC a []++u,p,w',0,b5.C9^mI.C9 g,o,a2,a3,λxcMs4N=>?_);let m:=g.ξ s4;show bNm^uTm^q8 (m__x2) (wRQJm^ug! bl) (4,b4,3);rw[b1];show(L,us.TC b []++u,p,w',0,b5.C9^mI.C9 m,o,b2,b3,λyd8s5d7=>(0,3));let ne:x≠y:=λz=>e5 (by rw[<-N,<-d7,z]);let lM:QNn=π:=by rw[pI^λz=>ne^V.dW.WZ z];rfl
 change Q (.dW QNn) d8;rw[lM];show qd8^m.ξ s5
def f_O!:n9 ["_law_e","_law_found"] ["_law_e"]^hY ND!:=nU
def iD!(F:nEK "_law_kinds" "_law_kinds" ND! f n)QAE:mTPwK mg υms 1 f n ["_law_e"]^NQ! cs:=by
 show F.okA f_O! ?_;rintro _ _ _ s _ _ _ _ _⟨e,dd,C,ζ,a,j,q⟩;show(_,(lW (m3 1 f_O.eR QGR)^lW (mS (EZ 0 QVx T.sx) QAg^m8)^lW (mS (EZ 0 (T.ks (i:=2) ζ) T.sx) QAg^m8)^lW (mS (EZ 0 (T.ks (i:=3) ζ) T.sx) QAg^m8)^lW (mS (EZ 0 (T.ks (i:=4) ζ) T.sx) QAg^m8)^lW (mS (EZ 0 (T.ks (i:=5) ζ) T.sx) QAg^m8)^lW (mS (EZ 0 (T.ks (i:=6) ζ) T.sx) QAg^m8)^lW (mS (EZ 0 (T.ks (i:=7) ζ) T.sx) QAg^m8)^lW (mS (EZ 0 (T.ks (i:=8) ζ) T.sx) QAg^m8)^lW (mS (EZ 0 (T.ks (i:=9) ζ) T.sx) QAg^m8)^lW (mS (EZ 0 (T.ks (i:=10) ζ) T.sx) QAg^m8)^lW (mS (tY^qY^wW (ib! (D:=.TB "ValueError") (d:=.ty "ValueError") ζQVA) (!4) T.sx iZ^m4QAD^XU (v:=.ty "ValueError") (!4) T.verr CD! ζ) QAg^m8) QG9),3);show(pT_,λpb5=>?_);let b:DEK^ca csC:=by rcases j with ζ|rfl;show T.eB_;show T.eH_
 let k:Δ.W.Kq K (.ο^ca csC)^.TB "ValueError"<*π:=by rcases j with ζ|rfl;show T.vB_;show T.vH_
 let g:=λiml=>T.ki (i:=i) jml;show F' (i:=1) b5aQBd (by rw[mF^show ¬ C<1 by lia];show hJ) b (g 1 (!0) (!0)) λ_ sh=>?_;show F' (i:=2) b5a shb (g 2 (!0) (!0)) λ_ sh=>?_;show F' (i:=3) b5a shb (g 3 (!0) (!0)) λ_ sh=>?_;show F' (i:=4) b5a shb (g 4 (!0) (!0)) λ_ sh=>?_;show F' (i:=5) b5a shb (g 5 (!0) (!0)) λ_ sh=>?_;show F' (i:=6) b5a shb (g 6 (!0) (!0)) λ_ sh=>?_;show F' (i:=7) b5a shb (g 7 (!0) (!0)) λ_ sh=>?_;show F' (i:=8) b5a shb (g 8 (!0) (!0)) λ_ sh=>?_;show F' (i:=9) b5a shb (g 9 (!0) (!0)) λ_ sh=>?_;show F' (i:=10) b5a shb (g 10 (!0) (!0)) λ_ sh=>?_;show(e,8,s__a,b,k,(qp_ s^by rw[mG^show C<10+1 by omega]at h;show h))
def c_F!:n9 ["_law_parts_here","_law_found","_law_part"] ["_law_parts_here"]^hYNE:=nU
def g_!(F:nEK "_law_chain" "_law_chain" NEf I)QAE:mTPwK mg υms 1 f I ["_law_parts_here"] sp_chain37!:=by
 show F.okA c_F! ?_;rintro _ _ _ s H _ _ _ _⟨p,v,xs,x,m,ζ,b5,D,z,q⟩;show(_,(lW (m3 1 c_F.eR^qMQADmV)^lW (t6 U_.X5 ζ (wV^yISAQADQMrz8) (z0 2 c_F.eR)^hF^m3 1 c_F.eR^p0^v5j5QAFQAO) QG9),3);show(p,_,4,pG.of b5,r8 (j:=0) ζ,3);show(2,p,2,pG.of b5,λa E=>?_);rw[show yA (v::xs) (δ 1) ε=xs from(cL! (xs:=v::xs) (t:=1)^by rw[oY];show FJ).ξ ζ];let l:=mI.mE (o:=.P' xs) E;let g:_F.mE HaQEha<*.P' xs:=hJ;generalize _F.mE H a QEh=N at l g;show(a,_,xs,0,.UR ζ,g,λJC=>KPC (λi dH'=>E2 λ(h:V)(s2:ψ V)=>vE (d=[δQAl,δh,s2]) (mINH')^oUH' (IGx^m.Uj i) h) (v,ε,0,mI.Kx _,D.C9^mI.C9 l) (λi dH'r=>by let(_,_,_,s,_):=r;show s__g) ?_ ?_)
 .rintro i y d B u⟨h,s2,ζ,k,e⟩;let(O,Q,A,M,L):=cf! z (m9u).1;rw[u]at A;cases A;show(m6^by change 3≤16777216;decide,λb n=>(.ο b,2,k.ξ^mI.mE n,3));rw[uWM,DH!];show(b,h,y,0,hJ,e.C9^mI.C9^mI.mE n,L.C9^mI.C9^(l.ξ k).ξ^mI.mE n)
 .rintro d B⟨h,s2,ζ,k,e⟩;rw[vJ^by rw[z.eN];show nZ_]at e;show qhB (l.ξ k) e
def f_N!:n9 ["_law_kind","_law_shape","_law_never"] ["_law_kind","_law_shape"]^hY Ai!:=nU
def Iw!(F:nEK "_law_round" "_law_round" Ai! f U)QAE:mTPwK mg υms 1 f U ["_law_kind","_law_shape"] sp_round37!:=by
 show F.okA f_N! ?_;rintro _ _ _ _ H _ Q _ _⟨k,t,v,ζ,g,W,q⟩;show(_,(lW (m3 2 f_N.eR QCP)^lW (mSQEdQNE^m8)^lWQGm^lWQCB^lW (mSQEd (hF^k9^p0^v5j5QAFQCP)^m8)^lW (mSQEd (hF^k9^p0^v5j5QCPQAF)^m8)^lWQCB^lW (mSQEd (hF^k9^p0^v5j5QAF^p0^m4j5QAO)^m8)^lWQCB^lWQGm^lW (mSQEd (hF^k9^p0^v5j5QLSQAF)^m8)^lW (mSQEd (hF^k9^p0^v5j5QAFQLS)^m8) QNE),3);let p:1≤Φ:=m6 (by change 1≤16777216;decide);let n:2≤Φ:=m6 (by change 2≤16777216;decide);let h:3≤Φ:=m6 (by change 3≤16777216;decide);show(p,λAB=>?_);let l:=mI.mE (o:=.iT [V.uM "never"]) B;let i:oU (_F.mE H A^.iT [V.uM "never"]) QBQ^.ο A:=(A,0,hJ);let g:=g.C9^mI.C9 l;generalize _F.mE H A (.iT [V.uM "never"])=H0 at l i g;let uR:∀(y:K1)QV1,H0b=ε->oU (_F.mE H0b^.iT [.uM^Ix y,v]) (.uR yt) QEC:=λyba=>(b,v,0,hJ,g.C9 QSy);let rE:∀(y:K2){j:m1}{t1t2:cF}{u s:V}QV1,mIH0j->oUjt1u->oUjt2s->jb=ε->(∀CH',mIHH'->oUH' (.rE yt1t2) C->QC H')->Q QEC^_F.mE jb^.iT [.uM^DVy,u,s]:=λyjt1t2u sb Sh1h2aq=>q__ (l.ξ^S.ξ QJq) (b,u,s,0,hJ,h1.C9 QSy,h2.C9 QSy);show(0,p9QCG^λR=>?_)
 .obtain ζ:k=0:=by have:=V.tV.WZ e;show Jo! this
  show(n,λba=>q__ (l.ξ QJq)^uR .WA ba)
 let R:k≠0:=λz=>R (by rw[z];rfl);show(0,p9QCG^λO=>?_)
 .obtain ζ:k=1:=by have:=V.tV.WZ e;lia
  show(h,λba=>rE .YH (t1:=t) (t2:=.yT .X5) bQGfgiaq)
 let O:k≠1:=λz=>O (by rw[z];rfl);show(0,p9QCG^λm2=>?_)
 .obtain ζ:k=2:=by have:=V.tV.WZ e;lia
  show(h,λba=>rE .less (t1:=.yT .X5) (t2:=t) bQGfigaq)
 let m2:k≠2:=λz=>m2 (by rw[z];rfl);show(0,p9QCG^λN=>?_)
 .obtain ζ:k=3:=by have:=V.tV.WZ e;show JK! this
  show(p,λxd=>(h,λba=>rE .WG (t1:=t) (t2:=.yT .X7) bQDMQJr (x,0,hJ) aq))
 let N:k≠3:=λz=>N (by rw[z];rfl);show(0,p9QCG^λM=>?_)
 .obtain ζ:k=4:=by have:=V.tV.WZ e;lia
  show(p,λxd=>(h,λba=>rE .WG (t1:=.yT .X7) (t2:=t) bQDM (x,0,hJ) QJraq))
 let M:k≠4:=λz=>M (by rw[z];rfl);show(0,p9QCG^λL=>?_)
 .obtain ζ:k=5:=by have:=V.tV.WZ e;lia
  show(h,λba=>rE .WG (t1:=.yT .X5) (t2:=t) bQGfigaq)
 let L:k≠5:=λz=>L (by rw[z];rfl);show(0,p9QCG^λJ=>?_)
 .obtain ζ:k=6:=by have:=V.tV.WZ e;lia
  show(n,λxd=>(h,λba=>rE .both (t1:=t) (t2:=.uR .WA QBQ) bQDMQJr (x,2,hJ,i.C9^mI.C9 QDM) aq))
 let J:k≠6:=λz=>J (by rw[z];rfl);show(0,p9QCG^λI=>?_)
 .obtain ζ:k=7:=by have:=V.tV.WZ e;lia
  show(h,λba=>rE .both (t1:=.yT .X5) (t2:=t) bQGfigaq)
 let I:k≠7:=λz=>I (by rw[z];rfl);show(0,p9QCG^λE=>?_)
 .obtain ζ:k=8:=by have:=V.tV.WZ e;lia
  show(h,λba=>rE .WG (t1:=t) (t2:=.yT .X5) bQGfgiaq)
 let E:k≠8:=λz=>E (by rw[z];rfl);show(0,p9QCG^λD=>?_)
 .obtain ζ:k=9:=by have:=V.tV.WZ e;lia
  show(p,λyr=>(n,λxd=>(h,λba=>rE .YH (t1:=e6) (t2:=t) bQGBQMuQUFaq)))
 let D:k≠9:=λz=>D (by rw[z];rfl);show(0,p9QCG^λm=>?_)
 .obtain ζ:k=10:=by have:=V.tV.WZ e;lia
  show(p,λyr=>(n,λxd=>(h,λba=>rE .less (t1:=t) (t2:=e6) bQGBQUFQMuaq)))
 let m:k≠10:=λz=>m (by rw[z];rfl);obtain ζ:k=11:=by lia
 show(n,λba=>q__ (l.ξ QJq)^uR .T7 ba)
def a_O!:n9 ["_law_script","_law_letters_here","_law_kind","_law_size","_law_signs","_law_all_words","_law_one","_law_two","_law_rooms","_law_left","_law_great"] ["_law_script","_law_letters_here"]^hY Xl!:=nU
def kr!(F:nEK "_law_core" "_law_core" Xl! f fd)QAE(eW:n4PwK mg υ "_law_cell_at" 1 ["_law_script","_law_k"]^hc! K)(J:n4PwK mg υ "_law_chain" 1 ["_law_parts_here"] sp_chain37!):mTPwK mg υms 2 f fd ["_law_script","_law_letters_here"]^jb! K:=by
 show F.okA a_O! ?_;rintro _ _ _ s _ _ Q _ B⟨a,ns,L,ζ,hS,Z,q⟩;show(_,(lW (m3 2 a_O.eR^mZM8QG'mV)^lW (m3 3 a_O.eR QG')^lW (J5 ["_law_script","_law_letters_here","_law_kind","_law_size","_law_signs","_law_all_words","_law_one","_law_two","_law_rooms","_law_left","_law_great"] (j:=4) ζ a_O.eR (!0) ζQBxQIK^λcl CbNs'H'=>(t7,p0^m4j5^mMEPQAO (mZL8 (m5eWB^m4QAF^mZaZmVQAD) QPP) QAQ))^lW (m3 5 a_O.eR QLS)^lW (mSQIv (hF^k9^p0^m4QGCQJs)^m8)^lW (mSQIv (hF^k9^p0^m4 (p0^v5j5 (m5JB^nG^mZU0QHA^mZaZmVQB_) QBt) QJs)^m8)^lW (mSQIv (hF^k9^p0^m4 (p0^v5j5QGCQBt) QJs)^m8)^lW (mSQIv (lW (m3 6 a_O.eR^mZaZmVQB_)^lW (m3 7 a_O.eR^mZaZmV^mZM8QG'mV)^lW (m3 8 a_O.eR QCo)^lW (W8 U_.X5 (q7 Ev (mZM8QOKQF9) mVQBZ)^hF^m3 8 a_O.eR^mZaZQOKQCo)^lW (m3 9 a_O.eR^p0^m4j5^m5JB^nG^mZU0QHAQCo)^hF^k9^p0^m4 (p0^v5j5 (cN 9)^p0^m4j5^m5JB^nG^mZU0QHAQF9)^xP Ev QOKmVQBZ)^m8)^EU (m3 10 a_O.eR^D2 (xPD8QB_mVQBZ)^HT^xP Ev QB6mVQBZ)^lW (mSQIv (hF^k9^p0^m4 (m5JB^nG^mZU1 (AV^m4QBt^qMQBjmV)^mZU0QHAQB_) QPA)^m8)^hF^k9^p0^m4 (p0^m4j5^m5JB^nG^mZU1 (mZU0QHAQB_)^AV^m4 (qMQBjmV) QBt) QPA),3);let l1:1≤Φ:=m6 (by change 1≤16777216;decide);let S:2≤Φ:=m6 (by change 2≤16777216;decide);let l3:3≤Φ:=m6 (by change 3≤16777216;decide);let hz:(lYL).β≤Φ:=m6 (by rw[nJ];have:=Z.g6;show S5 this);let eF:(0:ω)<((lYL).β:ω):=by rw[nJ];have:=Z.lo;show O5 this
 let eM:=Z.g6;show(a,ns,(1),0,hS,4,!0,a,ns,(2),0,hS,3);dsimp only[rZ];dsimp only[u9,v8,aR,vY,pS,vF,rO];show ON (n:=9) QCA (!0) (λDjysH'=>z7 (oUH') ys^((((γ.b_ 9).Tx^sgn Lns).Tx δ).Tx pc).Uj j) (λDdA=>trivial) ?_ ?_
 .rintro D j ys H' fT f5 dA i' aV eI hP k1 k2;let a8:qZ (lYL).Ym.Zh (q6ns (7+j)%((lYL).β:ω))<*sgn Lnsj:=Cb! Z;let gE:((((γ.b_ 9).Tx^sgn Lns).Tx δ).Tx pc)[j]?<*pc^δ^sgn Lnsj:=by rw[na,na,na,yUi'];rfl
  show hI (4,a,ns,7+j,oR (λz=>[V.ο a,V.tV z]) (!6),aV.Yv hS,2,hz,4,eF,_,4,hz,a8,S,λx U=>?_);let l8:=mI.mE (o:=.iT [.uM "sign",.uM ⟨#[sgn Lnsj]⟩]) U;let kx!:=F3.P' (o:=.P' (ys++[V.ο x]))^l8__eI;show k1QCd_ (l8__eI) (mI.X6 (aV.ξ l8) dA) ?_;rw[uWgE];show(hP.C9^(mI.C9 l8).ξ kx!).snoc^oU.C9 (t:=.yV _) kx! (x,0,hJ)
 rintro D ys M dA s1 eI hP;let aA:ys.β=9:=hP.eN;cases ys with
 |nS=>cases aA
 |nF N xs=>
 let I:oUM (pc^δQF_) N:=hP.1;let ab:z7 (oUM) xs^((IMLns).Tx δ).Tx pc:=hP.2;let aT:xs.β=8:=χ.qV.WZ aA;show(l1,λyd7=>(S,λHaM=>?_));let s2:=s1.ξ^(mI.mE (o:=.iT [.uM "any"]) d7).ξ^mI.mE (o:=.iT [.uM "again",.ο y]) aM;let dS:=(mI.mE (o:=.iT [.uM "any"]) d7).ξ^mI.mE (o:=.iT [.uM "again",.ο y]) aM;let A:oU (_F.mE (_F.mE My^.iT [.uM "any"]) H^.iT [.uM "again",.ο y]) e6^.ο H:=(H,2,hJ,y,0,mI.mE aM__hJ);let an:=dS__eI;let I:=I.C9^mI.C9 dS;let ab:=ab.C9^mI.C9 dS;generalize _F.mE (_F.mE My^.iT [.uM "any"]) H (.iT [.uM "again",.ο y])=bF at s2 A an I ab;let W:∀{m:m1}{v:V}QIM{g:b9}(w:θ),mIbFm->oUmtv->BALQG4QF_tg 0->mw=ε->Q (.ο w)^_F.mE mw^.iT [v,.dW g]:=λw shc hw=>qw____ (s2.ξ^s.ξ^mI.mE hw) hJ (h.C9^mI.C9^mI.mE hw) c;obtain⟨Kc!,GS,h9⟩:∃r:χ,q6ns 2%9=(r:ω)/\r≤8:=((q6ns 2%9).UD,9,9);obtain⟨V5,GN,h8⟩:∃r:χ,q6ns 2%8=(r:ω)/\r≤7:=((q6ns 2%8).UD,9,Jy!);obtain⟨O,e4,h4⟩:∃r:χ,q6ns 2%4=(r:ω)/\r≤3:=((q6ns 2%4).UD,9,IQ!);let gt:∀{c r:χ},decide ((c:ω)<(r:ω))=decide (c<r):=decide_eq_decide.Ui ofNat_lt!;show(0,p9QCG^λFq!=>?_)
 .let hZ:q6ns 1%6=0:=V.tV.WZ e;show QJ';rw[GS,Ww!^by rw[aT];show h9];show(p,N,xs.Uj Kc!,1,hJ,I.C9 QG5,(z7.Uj ab).C9 QG5,λv'mXd=>(4,!0,4,S,λw hw=>?_));rw[<-map_take!,<-map_take!,UG]at d;rw[GS,show(5:ω)=((5:χ):ω)from ζ,gt];have:=cr0! (L:=L) (k:=q6ns 1%6) (s:=sgn Lns 0) (c:=sgn Lns 0) (cs:=(IMLns).Uj Kc!) (Q6 Z) (by rw[rS,XN];lia) hZ;rw[rS,XN,χ.min_eq_left h9]at this;show Ww ((mI.mE b5).ξ X) d this hw
 let Fq!:q6ns 1%6≠0:=λz=>Fq! (by rw[z]);let rE:∀{m:m1}{v1v2:V}{t1t2:cF}QP0QV1,oUmt1v1->oUmt2v2->mb=ε->oU (_F.mE mb^.iT [.uM QOF,v1,v2]) (.rE kt1t2) QEC:=λkbh1h2E=>(b,1,hJ,h1.C9 QSz,h2.C9 QSz);let uR:∀{m:m1}{v1:V}{t1:cF}(k:K1)QV1,oUmt1v1->mb=ε->oU (_F.mE mb^.iT [.uM^Ix k,v1]) (.uR kt1) QEC:=λkbh1E=>(b,2,hJ,h1.C9 QSz);let I9:∀{m:m1}{xl:θ}{z:ω}QLU{R:oE},mx=ε->_F.mE mx (.iT [.uM "any"]) l=ε->z=(n:ω)->n≤8->(∀pcM,mImcM->cMp<*.P'^nMnQCd->cMx<*.iT [.uM "any"]->RQAlcM)->rRep! QGvQHv (_F.mE (_F.mE mx^.iT [.uM "any"]) l^.P' [.ο x]) R:=λ{mxlzn R}U YgRg9k=>by
  subst gR;show(l,4,hJ,9,9,m6^by change 1*_≤_;lia,λpb5=>?_);rw[DM,mj!];show kp_ ((mI.mE U).ξ^(mI.mE Y).ξ QBd) hJ^p5 (p5hJY) b5
 let ap:∀{m:m1}{xl:θ}{z:ω}QLU{jU:oE},mx=ε->_F.mE mx (.iT [.uM "any"]) l=ε->z=((n+1:χ):ω)->n≤7->(∀v'cM,mImcM->oUcM (rVQCjQHr) v'->jUv'cM)->rRep! QGvQHv (_F.mE (_F.mE mx^.iT [.uM "any"]) l^.P' [.ο x]) λvd8=>sp_chain37! [v] d8jUfA:=λ{mxlznjU}U YgRg9k=>I9U YgR (WJg9) λpcMs4b5aU=>by
  rw[FP]at b5;show(p,.ο x,_,pc ε,nMnQCj,0,b5,(x,0,aU),z7.rep (x,0,aU) n,λv'd8s5d=>kv'd8 (s4.ξ s5) ?_);rw[<-γ.map_replicate,UG]at d;show d
 show(0,p9QCG^λn1=>?_)
 .let hZ:q6ns 1%6=1:=V.tV.WZ e;show(l1,λx U=>(l1,λl Y=>(4,!0,4,ap U Y (n:=V5) (!6) h8 λv'mXd=>(l3,λb E=>(4,!0,4,S,λw hw=>?_)))));rw[GN,show(5:ω)=((5:χ):ω)from ζ,gt];show Ww (X.ξ QJt) (rE .WG b d (A.C9^mI.C9 X) E) (vk! (c:=sgn Lns 0) (M9Z) h8 (!6)) hw
 let n1:q6ns 1%6≠1:=λz=>n1 (by rw[z]);show(0,p9QCG^λn2=>?_)
 .let hZ:q6ns 1%6=2:=V.tV.WZ e;show QJ';rw[GN,Ww!^by rw[aT];show IX! GN];show(p,N,xs.Uj V5,1,hJ,I.C9 QG5,(z7.Uj ab).C9 QG5,λv'mXd=>(l3,λb E=>(4,!0,4,S,λw hw=>?_)));rw[<-map_take!,<-map_take!,UG]at d;rw[GN,show(5:ω)=((5:χ):ω)from ζ,gt];have:=MQ! (L:=L) (k:=q6ns 1%6) (s:=sgn Lns 0) (c:=sgn Lns 0) (cs:=(IMLns).Uj V5) (Q6 Z) (by rw[rS,XN];show Lv! GN) hZ;rw[rS,XN,χ.min_eq_left^IX! GN]at this;let fJ:=(mI.mE b5).ξ X;show Ww (fJ.ξ QJt) (rE .WG b d (A.C9^mI.C9 fJ) E) this hw
 let n2:q6ns 1%6≠2:=λz=>n2 (by rw[z]);obtain⟨c6,AA,ew!⟩:∃r:χ,q6ns 2%5=(r:ω)/\r≤4:=((q6ns 2%5).UD,Bz!,bb!);obtain⟨c7,B0,eh!⟩:∃r:χ,q6ns 3%5=(r:ω)/\r≤4:=((q6ns 3%5).UD,Bz!,bb!);show(0,p9QCG^λUs=>?_)
 .let hZ:q6ns 1%6=3:=V.tV.WZ e;show(4,!0,4,a,ns,(3),0,s2.Yv hS,4,!0,4,3);rw[AA,B0];show lr! (λσH'=>∃r:χ,vE (σ=[δQAe,δQAc,δ^.tV QG4,δ^.tV^q6ns 2,δQA0,δ^.ο H,δ^.tV QS0,δ^.tV (1+(c7:ω)),δQQ1,ε,ε]) (H'=bF)^T4c6c7r)
   (λσ_=>match σ[8]? with|δ (δ^V.tV z)=>(25-z).UD|_=>0) (c6+1,by rw[show((c6+1:χ):ω)=1+(c6:ω) by lia];rfl,0,T4.qW) ?_ ?_
  .rintro σ m⟨r,ζ,ζ,B⟩;show(4,9,4,p9QCyQCy)
   .let g9:r%(c7+1)≠0:=by
     rw[show(1:ω)+(c7:ω)=((c7+1:χ):ω) from S3,<-ω.natCast_emod]at h;lia
    let pO:=B.next g9;let a9:=pO.le ew! eh!;show(4,(r+(c6+1),by rw[show((r+(c6+1):χ):ω)=(r:ω)+QS0 by lia];rfl,0,pO),3);change (25-((r:ω)+QS0)).UD<(25-(r:ω)).UD
    show Lr! a9
   .let g9:r%(c7+1)=0:=by
     rw[show(1:ω)+(c7:ω)=((c7+1:χ):ω) from S3,<-ω.natCast_emod]at h;lia
    show(l1,λx U=>(l1,λl Y=>ap U Y (n:=c6) S3 (DQ! AA) λv'cMs4d=>(S,λb E=>(l1,λfu! a6=>(l1,λie! a7=>ap a6a7 (n:=c7) S3 (DQ! B0) λv2d8s5a0=>(S,λb2fM=>(l3,λb3a2=>(4,S,λw hw=>?_))))))));rw[show(8:ω)=((8:χ):ω)from ζ,gt];show Ww (s4.ξ^(mI.mE E).ξ^s5.ξ^(mI.mE fM).ξ^mI.mE a2) (rE .both b3 ((uR .again b d E).C9^mI.C9^s5.ξ^mI.mE fM) (uR .again b2a0fM) a2) (ob! (c:=sgn Lns 0) (M9Z) ew! eh! B.b8 B.jV g9 B.no (!6)) hw
  .rintro σ M Q1 Q2 NG h;let(v,e,h):=(show aG 8 σ M (λx M=>aG 7 σ M λybF=>M6 (λxj=>0<j) QS1xybF λx M=>tC (V.tV 0) σ M λybF=>B9QLrxybF^S6Q1)from h).gT;let(v2,e2,i,j,e3,e4,c1,i2,kX!,f3,f4,q1):=aG.gT h;show show aG 8 σ M (λx M=>aG 7 σ M λybF=>M6 (λxj=>0<j) QS1xybF λx M=>tC (V.tV 0) σ M λybF=>B9QLrxybF^S6Q2)from .of e^.of e2 (i,j,e3,e4,c1,i2,kX!,f3,f4,NG__q1)
 let Us:q6ns 1%6≠3:=λz=>Us (by rw[z]);let hZ:4≤q6ns 1%6:=by lia
 show(λaNH'=>aN=[δQAe,δQAc,δ^.tV QG4,δ^.tV^q6ns 2,δQA0,δ^.ο H,ε,ε,ε,ε,δ^.dW (decide (O=3)&&decide (1<L.β))]/\H'=bF,3,3)
 .refine (4,!0,0,2,3);rw[e4];show p9 (λh=>(2,hz,4,3)) QCy
  .let h:O=3:=by have:=V.tV.WZ h;show JK! this
   rw[nJ,show(1:ω)=((1:χ):ω)from ζ,gt,uOh];show(0,0)
  .rw [pI (p:=O=3) λz=>h^by rw[z];rfl];show(0,0)
 rintro aN H'⟨rfl,ζ⟩;show(0,p9QCG^λrt!=>?_)
 .refine (D,_,4,pG.of an,r8 (j:=0) ζ,S,λjMeF=>(l1,λx U=>(l1,λl Y=>(4,!0,I9U Ye4 (Fu! e4) λp mXb5dN=>?_))));let fJ:=(mI.mE (o:=.P' [V.ο H,N]) eF).ξ X;show(jM,p,4,X__hJ,b5,m6^by rw[r9];change 2+_≤_;lia,λp3 as=>?_);let u:=fJ.ξ (mI.mE (o:=.P' ([V.ο H,N]++nMOQCd)) as);show(p3,.ο H,N::nMOQCd,e6,pc^δQF_::nMOQCj,0,hJ,A.C9 QQ_,(I.C9 QQ_,z7.rep (x,0,mI.mE as _ _ dN) O),λv'cMs4d=>(S,λw hw=>?_));rw[<-γ.map_replicate]at d;show Ww (u.ξ s4) (UG (ps:=δQF_::nMOε)▸d) (SK! Z (M9Z) h4hZ) hw
 .refine (l1,λx U=>(l1,λl Y=>(4,!0,I9U Ye4 (Fu! e4) λp mXb5dN=>(D,_,4,pG.of^X__ an,r8 (j:=0) ζ,S,λjMeF=>?_))));let vU:=mI.mE (o:=.P' [N,V.ο H]) eF;show(p,jM,4,vU__b5,hJ,m6^by rw[r9];change _+2≤_;lia,λp3 as=>?_);let aS:=vU.ξ (mI.mE (o:=.P' QEX) as);let u:=X.ξ aS;let a1:_F.mE QLTp3 (.P' QEX) p3<*.P' QEX:=hJ;let(v,a3,a4,a5,ev,g1,g2,g3):=yo! (R:=oU^_F.mE QLTp3^.P' QEX) (n:=O) (va:=.ο x) (x,0,aS__dN) (I.C9 QQ_)^A.C9 QQ_;rw[ev]at a1 g1 g2 u⊢;show(p3,v,a3,a4,a5,0,a1,g1,g2,λv'cMs4d=>(S,λb E=>(S,λw hw=>Ww (u.ξ^s4.ξ QJt) (uR .T7 b (g3▸d) E) (SL! Z (M9Z) h4hZ) hw)))
def b_E!:n9 ["_law_pattern","_law_letters_here","_law_caught","_law_told","_law_e"] ["_law_pattern","_law_letters_here"]^hY NH!:=nU
def WP(F:nEK "_law_asked" "_law_asked" NH! fQ)QAE(X:kv! PwK mg υcQCHQAMts)(U:I'PwK mg υccP):mTPwK mg υms 24 fQ ["_law_pattern","_law_letters_here"] QGj:=by
 show F.okA b_E! ?_;rintro _ _ _ _ H _ _ _ C⟨a,t,L,ζ,b5,I,M,N,q⟩;let(iM,O,y,S,Y):=X;show(_,(lW (m3 2 b_E.eR^GE)^lW (m3 3 b_E.eR^GE)^EU (sb! (i:=4) (R:=QEG) (5,0,b_E.eR,5,Or.UR ζ,Or.UR ζ,!4,(T.ks (i:=0) ζ),λv=>(hF^m3 2 b_E.eR QBj),!0)^Q3 (j:=3) b_E.eR QAD (λk=>(U.pc k).cl) y YC SQEeζQBx)^hF^k9^p0^m4QAbQAO),3);let(Z,dx,fs,e,h1,z):=b5.ins' j4 (!3);cases e;show⟨λmH'=>∃hg,m=[δQAe,δQAc,δg,δh,ε]/\KTtsHH'/\YVQCHQAMH'Lthg,?_,?_⟩
 .refine (t.kd,a,dx,fs,0,h1,z,a,t,L,0,b5,I,M,N,λn=>(T.mB_,λeb=>?_),λr=>(λdpcNH'oD Ax=>(T.mH_,λeb=>?_),λf WBH'o J Eu=>?_))
  .exact (.vS,.ο e,0,KT.of QQ',λ_=>(e,0,hJ),λl=>(nl).Q5)
  .exact (.vS,.ο e,0,o.ξ^KT.of QQ',λn=>(nr).Q5,λ_=>.UR (0,e,d,p,cN,0,hJ,D,A.C9^mI.C9 QQ',x.Ki QQ'))
  .exact (.ο f,.vS,0,o,λn=>(nr).Q5,λ_=>.P2 (0,f,W,B,0,J,E,u))
 rintro s H1⟨h,g,ζ,k,c⟩;show(m6^by change 2≤16777216;decide,λpb5=>qphg_ (k.ξ^KT.of QBd) (c.Ki QBd) hJ)
def c_h!:n9 ["_law_pattern","_law_shape","_law_letters_here","_law_word_here","_law_told","_law_caught"] ["_law_pattern","_law_shape","_law_letters_here","_law_word_here"]^hY gp!:=nU
def Tr!(F:nEK "_law_told_well" "_law_told_well" gp! fX)QAE(C:n4PwK mg υ "_law_asked" 24 ["_law_pattern","_law_letters_here"] QGj)(A:n4PwK mg υ "_law_is_machine" 1 ["_law_found","_law_letters_here"] sp_ismach!)(z:n4PwK mg υ "_law_takes_as_told" 25 ["_law_machine","_law_shape","_law_word_here"] sp_told36!):mTPwK mg υms 26 fX ["_law_pattern","_law_shape","_law_letters_here","_law_word_here"]^qr! cts:=by
 show F.okA c_h! ?_;rintro _ _ _ _ _ _ _ _ r⟨a,t,v,L,u,ζ,b5,N,E,y,U,S,O,R,q⟩;let o:=r.Hu (j:=1) (!0);let k:=r.Hu (j:=24) (!0);let i:=r.Hu (j:=25) (!0);show(_,(lW (GG (m5CkQQ2)^FMζ^wM (z0 4 c_h.eR)^wM (z0 5 c_h.eR) HV)^lW (mS ((tG (q7 h_! QBtGEQBZ)^tG (tY^qY^m5Ao^m4QBjQAO)^xO^q7 Ev (AW T.eN^K8 4) mVQBZ).pt) QAd^m8)^hF^k9^m5zi^v5QBjQAFQAb),3);show(a,t,L,0,b5,E,y.jN,U,λpv3v4H1k1I s=>(p,2,n'.of s,0,1,4,3));rcases I.2 y with⟨rfl,e,d,J,CA,ζ,he,Q,hs,M⟩|⟨rfl,f,W,B,ζ,b,x,sml!⟩
 .obtain ⟨W,B,m,l,g⟩:=S.sml y JQ;show(M.no QVAmlg).Q5
 show(0,(f,L,W,B,0,b.mt,b.ma,λbFs2=>?_));let(H,mk,D,e1,Z,e3,Y,e5):=id^b.mt.Ki s2;let n:=(N.kt k1).C9^mI.C9 s2;show(m7e1fV (H,2,.P2^n'.of Z,4,nI (by rw[j',Y];have:=b.le;lia) (f,L,u,W,B,t,v,0,b.mt.Ki s2,b.ma,x,n,E,O,R,λbJ_=>qbJ)))
def b_a!:n9 ["_law_pattern","_law_shape","_law_letters_here","_law_cell","_law_k","_law_told","_law_caught"] ["_law_pattern","_law_shape","_law_letters_here","_law_cell"]^hY lH!:=nU
def Wg!(F:nEK "_law_twice_refused" "_law_twice_refused" lH! f fd)QAE(A:G6K mg QAMQEGB1 fdX)(al:n4PwK mg υ "_law_asked" 24 ["_law_pattern","_law_letters_here"] QGj)(eF:n4PwK mg υ "_law_kinds" 1 ["_law_e"]^NQ! cs)(ab:n4PwK mg υ "_law_refused_well" 26 ["_law_caught","_law_shape","_law_letters_here","_law_cell"]^Zr! QAM):mTPwK mg υms 27 f fd ["_law_pattern","_law_shape","_law_letters_here","_law_cell"]^qt! Kcts:=by
 show F.okA b_a! ?_;rintro _ _ _ _ _ _ _ _ I⟨a,b,t,v,L,ns,z,ζ,b5,l,hd,hz,Gs,m,gE,s,q⟩;let X:=I.Hu (j:=1) (!0);let E:=I.Hu (j:=24) (!0);show(_,(lW (t6 U_.X5 ζQIK (z0 4 b_a.eR)^lW (GG (m5 al EQQ2)^FMζ^wM (z0 5 b_a.eR)^wM (z0 6 b_a.eR) HV)^lW (mS ((tG (q7 Ew! QCoGEQBZ)^xO^q7 (Q4 I.units0) (m5eFX^nGQCo) QQrQBZ).pt) QAd^m8)^lW (mS (tY^qY^m5 ab I^rNQCo^v5QAFQAOQAb) QAd^m8)^lW (rW^O9I4 Δ.F.slot_list_clear Δ.F.type_list_clear Uv!^EG (f:=j9) KQCo)^hF^rW^O9I4 Δ.F.slot_list_clear Δ.F.type_list_clear Uv!^EG (f:="tails") KQCo) QAd),3);show(2,!0,!0,3);show zY (n:=(2:ω).UD) (λirH'=>E3 λgQ O=>A5 (r=[δQAe,δv,δQAc,δQHv,g,Q,O]) (uVcH'tQAe) (oUH'tv) (G4tsH')^pGKH'bQBI) (8,b5,l,m,s) ?_ ?_
 .rintro i r H1 _⟨g,Q,O,ζ,b5,l,m,s⟩;show(a,t,L,0,b5,hd,Gs.jN,m,λpv3v4bFk2 tj! Y=>(p,2,n'.of Y,0,1,4,3));rcases tj!.2 Gs with⟨rfl,e,d,pt,CA,ζ,x,hm,hs,H6⟩|⟨rfl,f,W,B,ζ,hM,an,sml!⟩
  rotate_left
  .exact (gE.no sml!).Q5
  let b5:=b5.kt k2;let l:=l.kt k2;let m:=k2.dE m;let s:=Ou! k2.jN s;show(0,(e,_,(7),0,x,.P2 ζ,λp1bJk Z=>(m6^by change 1≤16777216;decide,λp2H=>(p1,p2,2,0,pG.of^p5ZH,pG.of hJ,0,3))));let k:=k.ξ^mI.mE (o:=.P' [V.uM "TooMany"]) H;generalize _F.mE bJ p2 (.P' [V.uM "TooMany"])=bJ at k;show(e,d,L,t,pt,v,CA,z,0,k__x,H6.Ki k,hs.C9^mI.C9 k,hm,l.C9^mI.C9 k,hd,hz,λcMg=>?_);let g:=k.ξ g;let(D,M,us,N,x1,C,J,NY,V9,bp!,yp):=H6.Ki g;let x:=g__x;cases us with
  |nS=>cases NY
  |nF u us=>
  cases N with
  |nS=>cases V9
  |nF y N=>
  let R:M≠D:=λz=>by
   rw[z,C]at J;have:=γ.head_eq_of_cons_eq^j7.P'.WZ^ψ.δ.WZ J;cases this
  let S:=F3.P' (o:=.P' []) C;let h:_F.mE cMDQB3M<*.P'^(y::N).Tx V.ο:=by rw[a'R];show J
  let M':=S.ξ^F3.P' (o:=.P' []) h;show(e,_,QGX,1,x,x1,A.lG,A.xc,A.na1,0,.UR (0,_,pG.of C),D,2,0,C,3);show(e,_,QGX,1,S__xQAC,S__x1QAC,A.lG,A.xc,A.na2,0,.UR (0,_,pG.of h),M,2,0,h,3);let U:=(mI.C9 g).ξ M';show(8,b5.C9 U,l.C9 U,SX! m U,je! (je! (g.Yv s) C λ_z=>nomatch z) h λ_z=>nomatch z)
 .rintro r H1⟨g,Q,O,ζ,b5,l,m,s⟩;show qH1b5lm s
def c_u!:n9 ["_law_script","_law_letters_here","_law_shape","_law_great","_law_number","_law_k","_law_some","_law_pattern","_law_place","_law_none","_law_told","_law_caught","_law_word_here","_law_sign"] ["_law_script"]^hYN7:=nU
def KK!(F:nEK "law" "law" N7f fd)QAE(fM:∀p∈ts,∃c,(c,p.1,)∈jI)(I:I'PwK mg υccP)(a1:n4PwK mg υ "_law_letters" 1 ["_law_cell"] sp_letters!)(h:n4PwK mg υ "_law_cell_at" 1 ["_law_script","_law_k"]^hc! K)(a8:n4PwK mg υ "_law_core" 2 ["_law_script","_law_letters_here"]^jb! K)(a4:n4PwK mg υ "_law_round" 1 ["_law_kind","_law_shape"] sp_round37!)(a2:n4PwK mg υ "read" 7 [o3,"text"]^qu! c)(a9:n4PwK mg υ "_law_piece" 12 ["_law_shape"]^T2 12)(a7:n4PwK mg υ "_law_no_letters" 2 ["_law_letters_here","_law_cell","_law_place"] sp_noletters!)(qP:n4PwK mg υ "_law_asked" 24 ["_law_pattern","_law_letters_here"] QGj)(a5:n4PwK mg υ "_law_kinds" 1 ["_law_e"]^NQ! cs)(a6:n4PwK mg υ "_law_word" 1 ["_law_letters_here","_law_cells"]^qq! K)(ap:n4PwK mg υ "_law_told_well" 26 ["_law_pattern","_law_shape","_law_letters_here","_law_word_here"]^qr! cts)(a3:n4PwK mg υ "_law_twice_refused" 27 ["_law_pattern","_law_shape","_law_letters_here","_law_cell"]^qt! Kcts):mTPwK mg υms 28 f fd ["_law_script"]^ZJKjI:=by
 show F.okA c_u! ?_;rintro _ _ _ _ H _ _ _ A⟨a,ns,ζ,E,Y,aV,kq!⟩;let b:=A.Hu (j:=1) (!0);let U:=A.Hu (j:=2) (!0);let aM:=A.Hu (j:=7) (!0);let W:=A.Hu (j:=12) (!0);let S:=A.Hu (j:=24) (!0);let y:=A.Hu (j:=26) (!0);show(_,(lW (m3 1 c_u.eR^m5a1b^nGQBD)^lW (GG (m5a8UQDK)^FMζ^wM (z0 2 c_u.eR)^wM (z0 3 c_u.eR) HV)^lW (m3 4 c_u.eR^mZO1QBDmV)^lW (t6 U_.X5 ζ (CNζ T.b_^nGQNo) (z0 5 c_u.eR)^lW (m3 2 c_u.eR^m5a4b^m4 (mZM8QBjmV) QAO)^hF^m3 4 c_u.eR^mZO1QBjmV)^lW (m3 6 c_u.eR QAF)^EU (mS (q7SJQNo (p0^m4mVmV) QAN) (hF^m3 6 c_u.eR^yIL2QAFz8QMr)^m8)^lW (m3 7 c_u.eR^m5a2aM^m4QCo^m5a9WQFG)^lW (mS (tY^qY^wW (qm! (D:=cP)) (!4) T.sx iZ^m4QF9^GF (v:=.ο cP) (!4) I.lC ζ) QAd^m8)^lW (m3 8 c_u.eR QBD)^EU (mS (uU (mZM8QOKmV) mV) (lW (m3 9 c_u.eR^m5a7U^v5QAFQBD^mZO1QOKmV)^lW (GG (m5qPS^m4QF9^cN 9)^FMζ^wM (z0 10 c_u.eR)^wM (z0 11 c_u.eR) HV)^hF^mS ((tG (q7 Ew! QKcGEQBZ)^xO^q7 (Q4 A.units0) (m5a5b^nGQKc) QQrQBZ).pt) QAd^m8)^m8)^lW (m3 12 c_u.eR^m5a6b^m4QAF^yISAQADQMrQMr)^lW (mS (tY^qYQAb) (hF^k9^m5 ap y^rNQF9^v5QAOQAF^cN 12)^m8)^lW (mS (tY^qY^m5a3A^rNQF9^v5QAOQAFQBD) QAd^m8)^lW (mS (q7MEQNomVQBZ) QAd^m8)^lW (m3 13 c_u.eR^mMEPQAF (mZL8QBDQB6) QAQ)^hF^k9^m5 ap y^rNQF9^v5QAO (cN 13)^mZ pf! (cN 13)^BI T.eN^cN 12),3);let hT:G4tsH:=λpb5=>by
  let(c,Z):=fMpb5;show(#[],aV (c,p.1,) Z,ly!,λq_=>.UR ζ)
 show(a,ns,(0),0,E,q6ns 0,0,λLo=>?_);let bm:=o.g6;let hU:=o.lo;let hz:(lYL).β≤Φ:=m6 (by rw[nJ];show S5 bm);show(a,ns,L,0,E,o,λpv0t0gH1s1CdS cr0!=>(p,2,n'.of C,0,1,4,3));show(a,ns,(4),0,s1.Yv E,4,QKh,3);show(a,ns,(4),0,s1.Yv E,4,!0,2,9,9,3);show zY (n:=(q6ns 4%4).UD) (λi dH'=>E4 λ(v:V)(t:cF)(z:ω)(J:ψ V)=>hC! (d=[δQAe,δQAc,δv,δ^.dW g,δQHv,J,ε,ε,ε,ε,ε,ε,ε,ε]) (mIH1H') (oUH'tv)^BALQG4QF_tgi) (v0,t0,_,ε,0,mI.Kx _,dS,cr0!) ?_ ?_
 .rintro i d bF g6⟨v,t,z,J,ζ,jN,m,u⟩;obtain⟨k,kU,hZ⟩:∃k:χ,z%12=(k:ω)/\k<12:=((z%12).UD,9,9);show(4,!0,k,t,v,oR (λq=>[V.tV q,v]) kU,m,hZ,λv'bJs3dN=>(4,QKh,v',rnd k t,1,jN.ξ s3,dN,u.next k))
 rintro d bF⟨v,t,z,J,ζ,jN,m,u⟩;let s2:=s1.ξ jN;let UI:(q6ns 4%4).UD≤3:=IQ!
 let i3:=u.kE;let hsz:=u.sz;let l2:2≤Φ:=m6 (by change 2≤16777216;decide);show⟨λdH'=>∃M:lU,d=[δQAe,δQAc,δv,δ^.dW g,δQHv,J,δ^.uM^lYM,ε,ε,ε,ε,ε,ε,ε]/\mIbFH'/\ww M/\t.over M,?_,?_⟩
 .refine (a,ns,(1),0,s2.Yv E,4,!0,l2,λxJR=>(xJ,2,.P2 QVC,5,3));cases e:A2 (V.tV QG4) [V.tV 1,V.tV 3]with
  |ν=>show(L,0,mI.mE R,o,u.kY)
  |π=>
   let a0:q6ns 1%6=1\/q6ns 1%6=3:=by
    simp only[A2,γ.any_cons,γ.any_nil,b9.w7,IP]at e;rcases e with e|e
    .exact .UR (ha! e).UH
    .exact .P2 (ha! e).UH
   match L,o with
   |c::l,o=>
    let e1:jL.Zf (lY (c::l)) ε^δ 1=lY [c]:=(Vs (lY (c::l)) (j:=1) (!0)).ξ (by rw[tI];rfl);show(2,2,hz,3);rw[e1];show([c],0,mI.mE R,Ej! ocG,WU^u.no a0)
 rintro d bJ⟨M,ζ,s3,hM,aT⟩;let as:=s2.ξ s3;let m:=m.C9^mI.C9 s3;show(M,t,v,0,m,S1i3,aT,9,λgWcMs4 FC! i6=>(M,gW,t,(4),0,hM,λc Z=>hM.eW c Z,FC!,9,λvp! d8fJb5=>?_));let N:=s4.ξ fJ;let B:=as.ξ N;let m:=m.C9^mI.C9 N;let(eI,i4,bs,ζ,aU,bi):=b5.TM;show(8,yZ.TM aU (I.pc t.kd).cl (I.pc t.kd).eM (I.pc t.kd).g9 (I.pc t.kd).htk (I.pc t.kd).hm,(I.pc t.kd).ki,3);show(a,ns,(6),0,B.Yv E,3);let s:=(KT.of (ts:=ts) B).dE hT;let an:=B.Yv E;show⟨λdH'=>∃(y7Q O:ψ V),d=[δQAe,δQAc,δv,δ^.dW g,δQHv,J,δ^.uM^lYM,δ^.ο eI,δ^.tV^q6ns 6,y7,Q,O,ε,ε]/\KTtsd8H',?_,?_⟩
 .refine (4,!0,0,p9QDi^λ_=>(8,KT.of QGf));show(a,ns,(5),0,an,4,QKh,L,1,o,λxe7pOc9i9=>?_);show(eI,t,x,0,b5.C9^mI.C9 i9,S1i3,c9,(KT.of (ts:=ts) i9).dE s,λpv3v4H7 Ay! tj! aN=>(p,2,n'.of aN,0,1,4,3));let(e,ζ,he):=tj!.1 pO;show(0,(e,_,(1),0,he,.UR ζ,λp1gYkJC=>(m6^by change 1≤16777216;decide,λp2X=>(p1,p2,2,0,pG.of^p5CX,pG.of hJ,0,3))));show(8,(KT.of (ts:=ts) i9).ξ^Ay.ξ^KT.of^kJ.ξ^mI.mE X)
 rintro d e7⟨y7,Q,O,ζ,k6⟩;let b5:=b5.kt k6;let m:=m.kt k6;let s:=k6.dE s;let al:=Ou! k6.jN an;show(2,2,a,2,al,λpaS=>(L,p,VFns (δ 16)^δ 52,0,o,by rw[<-cB!];show pG.of hJ,n5 (dj! ___) Y,λwH7g7 hw gM=>?_));let bd:w.β≤63:=by have:=dj! ns (δ 16)^δ 52;lia
 let r:=(mI.mE aS).ξ gM;let b5:=b5.C9^mI.C9 r;let m:=m.C9^mI.C9 r;let s:=(KT.of (ts:=ts) r).dE s;let eF:=r.Yv al;cases g with
 |ν=>show(eI,t,v,L,w,0,b5,m,S1i3,o,s,u.gd ζ,hw,Gv! bd,λH'=>kq! _)
 |π=>
 show(a,ns,(5),0,eF,eI,a,t,v,L,ns,2,b5,m,S1i3,9,o,s,u.gr ζ,eF,λgYb5m s ab=>?_);show(a,ns,(1),0,ab,4,!0,4,p9 (λ_=>kq! _) QVD);let hm:=M9 (ns:=ns) (k:=0) o;show(a,ns,(7),0,ab,2,hz,4,by rw[nJ];show O5hU,_,4,hz,Cb! (k:=0) o,3);let aA:(lYw).β≤Φ:=m6 (by rw[nJ];show Hq! bd);show(2,aA,4,oC! _h6^by rw[nJ];lia,3);rw[mul_one! _h6];show(eI,t,v,[sgn Lns 0],2,b5,m,S1i3,Ej! o hm,s,u.on (!6),λc Z=>aL.Ui^γ.YD Z,by rw[r9,DM,nJ];show Gv! bd,λH'=>kq! _)
end
def od!{l:Δ.W.OpenLaw}QGa{KjG:qI}{h:n3}QEN{g0N ML J I EDC P0P1jFP3jZjsk7iR:θ}(hK!:K=yF [P0,P1,jF,P3,jZ,js,k7,iR] jG)(Y5:[P0,P1,jF,P3,jZ,js,k7,iR].qg)QJP QRE(Y9:mg "law"<*.ο g0){cs:γθ}(nC:NL! K NMS! cs)(kA:VEKcs 1=π)(kB:VEKcs 7=π){gdfZofrt:θ}{c fh:xE->θ}(n_Pattern!:nsIn KdG "Pattern"<*δ^.ο g)(n_Desk!:nsIn KdG "Desk"<*δQDC)(nP:∀k,nsIn KdG^Ez! k<*δ^.ο^ck)(yS:∀k,Δ.W.Xu jG (.ο^ck) "shape"<*δ^.ο^fh k)(yi_Sign!:Δ.W.Xu jG (.ο^c .yV) "__init__"<*δ^.ο o)(yi_Around!:Δ.W.Xu jG (.ο^c^.uR .WA) "__init__"<*δQAr)(yi_Pair!:Δ.W.Xu jG (.ο^c^.rE .YH) "__init__"<*δ^.ο r)(yi_Desk!:Δ.W.Xu jGQDC "__init__"<*δQFR)(yM:Δ.W.Xu jG (.ο^cQBQ) "machine"<*δ^.ο fZ)(bP:∀k,eB! K (ck) g (fh k) fZ)(q0:∀k,AK! K^cQKX)(qs:D5K (c .yV) o)(q1:∀k,D5KQSYf)(q2:∀k,D5KQSZr)(q_Desk!:D5Kdt)(sP:∀k,HMK "shape" (Lj! k) (eZk)^fh k)(si_Sign!:HMK "__init__" "Sign.__init__" Yl! o)(si_Around!:HMK "__init__" "Around.__init__" hD! f)(si_Pair!:HMK "__init__" "Pair.__init__" Io! r)(si_Desk!:HMK "__init__" "Desk.__init__" dX! t)(sM:HMK "machine" "Pattern.machine" cz! fZ){d2d3:θ}{e2e3:pV DictEntry!}{n2Us:χ}(rn2!:nsIn KdG "KINDS"<*δ^.ο d2)(rl2!:K.ς d2<*{dM:=.TB "dict",mY:=.wF e2n2})(re2!:Lsw e2.Zh dKINDS!)(rs2!:(d2==V4)=ν)(rn3!:nsIn KdG "STRENGTHS"<*δ^.ο d3)(rl3!:K.ς d3<*{dM:=.TB "dict",mY:=.wF e3Us})(re3!:Lsw e3.Zh yg)(rs3!:(d3==V4)=ν)(dcl!:zVKd)(dn1!:u6Kd "patterns")(dn2!:u6Kd "waiting")(oB_!:yK KQCH)(eB_!:DEKQCH)(mB_!:exmOne KQQuQQv<*π)(vB_!:Δ.W.Kq KQQu^.TB "ValueError"<*π)(eH_!:DEKQAM)(mH_!:exmOne KQFZQQv<*π)(vH_!:Δ.W.Kq KQFZ^.TB "ValueError"<*π){fI:θ}{bReM:ψθ}{cl:pVQMB}{c2 ey! B0 ct AE:η}{b6:θ}{Z:θ}(nW:nsIn KdG "Walk"<*δ^.ο Z)(hI0!:Δ.W.Xu jG (.ο Z) "__init__"<*δ^.ο fI)(dM:zVK Z)(mk:D5K ZfI)(na1:u6K Z "letters")(na2!:u6K Z "things")(na3!:u6K Z "words")(na4!:u6K Z "ways")(na5!:u6K Z "marks")(lI:K.ς fI<*(c2,bR,.YN^q3 "__init__" "Walk.__init__" (p'II) (nRII) (hYII) .ε ey! B0 ct eM (.ο b6) AE,cl))(cI:t9K (.ο b6) "Walk.__init__"=π){B1:θ}{jJ Az!:ψθ}{f7:pVQMB}{cOdZe5fRg2:η}{b4:θ}(hX0!:Δ.W.Xu jGQFZ "__init__"<*δ^.ο B1)(xo!:B3KQAMB1)(xc!:M1KQAM)(xn1!:u6KQAM "words")(xn2!:u6KQAM "tails")(xn3!:u6KQAM "part")(xb!:gg! KQEG)(xf!:isFn K^.ο B1=π)(xe:exmOne KQFZQFZ<*π)(lX!:K.ς B1<*(cO,jJ,.YN^q3 "__init__" "TooMany.__init__" (p'G5) (nRG5) (hYG5) .ε dZe5fR Az! (.ο b4) g2,f7))(cX:t9K (.ο b4) "TooMany.__init__"=π){CM:θ}{c3:η}{C':ψθ}{co:pVQMB}{R9:χ}{HB!:θ}{iE ag!:ψθ}{ch:pVQMB}{cP ex AA cr g3:η}{A9:θ}(aV:nsIn KdG "walked"<*δ^.ο HB!)(lV:K.ς HB!<*(cP,iE,.YN^q3 "walked" "walked" QMhQMiQKbQLm ex AA cr ag! (.ο A9) g3,ch))(cV:t9K (.ο A9) "walked"=π)(lD:K.ς CM<*(c3,C',.Yv #[.ε] R9,co))(tM:F4K "walked_machine" CZ .ε N)(tA:F4K "paired" A1 .ε M)(tB:F4K "either" F0 .ε L)(tC:F4K "both" F1 .ε J)(tS:F4K "less" F2 .ε I)(tH!:F4K "then" H.HF .ε E)(tN:F4K "again" A.H8 .ε D)(tU:F4K "walked_turned" Tu.JY .ε C){as:θ}(t59!:F4K "law" N7 .ε as)(ls0!:ah! K [("numbered",VK!,),("many_lots",MX!,),("rounds_of",Un!,),("first_rooms",ed!,),("parting_word",eH!,),("folded",fj!,),("tails_of",hb!,),("told",fg!,),("need_same_letters",CX!,),("least",Ei!,),("lots_after",lj!,),("lot_of",br!,),("has_marked",ub!,),("rooms_into",fl!,),("outside",jv!,),("turned",eX!,),("short_machine",Xr!,),("piece_machine",FK!,),("joined",fi!,),("machine_of",M_!,),("is_letters",wh!,),("need_letters",Na!,),("is_wanting",Nb!,),("can_stand",Nc!,),("need_pattern",Nd!,),("piece_of",Nf!,),("pair_of",Ng!,),("settle",iL!,),("put",vQ!,),("tokens_of",Nh!,)])(ls1!:ah! K [("pattern_of",Ni!,),("read",Bf!,),("_law_cell_at",Nj!,),("_law_letters",Nk!,),("_law_word",Nl!,),("_law_piece",Nm!,),("_law_leaf",Nn!,),("_law_behind",No!,),("_law_pieces",Np!,),("_law_from_behind",WR,),("_law_spans",Nq!,),("_law_has",Nr!,),("_law_same",Nt!,),("_law_is_word",Nu!,),("_law_is_machine",Nv!,),("_law_foreign",Nw!,),("_law_others",Nx!,),("_law_no_letters",Ny!,),("_law_parts",Nz!,),("_law_takes_as_told",bt!,),("_law_witness",NB!,),("_law_refused_well",NC!,),("_law_kinds",ND!,),("_law_chain",NE,),("_law_round",Ai!,),("_law_core",Xl!,),("_law_asked",NH!,),("_law_told_well",gp!,),("_law_twice_refused",lH!,)])(zb:B_! K ["len","range","isinstance","int","bool","tuple","list","str","zip","enumerate","reversed","max","all","any","set","sorted","ValueError"]){P:Tok}(z_most!:nsIn KdG "MOST_ROOMS"<*δ^.tV 8 P)
  :∃fd:uP,(∀QCD(v:η),BindsTo! s fd ([v],[]) [("_law_script",v,)])/\∀υ:n3,K.In υ->υ.Ns dG mg->HNυ mg->(∀q∈[(N,P0,),(M,P1,),(L,jF,),(J,P3,),(I,jZ,),(E,js,),(D,k7,),(C,iR,)],vRυ q.1 q.2)->mT l.Ω wK mg υms 28 g0 fd ["_law_script"]^ZJK [(N,P0,),(M,P1,),(L,jF,),(J,P3,),(I,jZ,),(E,js,),(D,k7,),(C,iR,)]:=by
 let(Ka!,_,_,_,_,_,_,_,_,aM,sF,G8):=tM;let(Ee!,_,_,_,_,_,_,_,_,aA,s7,cA):=tA;let(fB!,_,_,_,_,_,_,_,_,dS,s8,jT):=tB;let(j3,_,_,_,_,_,_,_,_,dN,s9,BZ):=tC;let(YR,_,_,_,_,_,_,_,_,aS,UN,G9):=tS;let(fH!,_,_,_,_,_,_,_,_,fM,sA,Bs):=tH!;let(ta!,_,_,_,_,_,_,_,_,aN,sG,LV):=tN;let(ck!,_,_,_,_,_,_,_,_,aU,sI,IZ):=tU;let(jP,gE,hf,cd,he,hU,dW,a9,b3,cY,qP,R4):=t59!;let(Wf!,l1,l2,l3,C_!,hp!,Xc!,te!,AD!,Fr!,bi,i6,g7,bd,ev,lS,kO,es,er!,eq!,eP,eo!,lM,jW,kU,l4,lJ,l0,lR,j2,_):=ls0!;let(lG,gJ,l',d9,d6,d5,d4,d1,d0,LY,dT,kG,dx,jV,kT,ds,kF,kE,kS,jO,i8,dd,k8,kR,c8,c7,c6,c5,c4,_):=ls1!;let(n,B,Y,a0,al,y,O,eI,j,b,z,aT,a2,a1,eW,U,eF,_):=zb;let e:=Y9.UH.ξ^wJX GcY;cases e;let T:jL! K mg cs:=(sRX G nC,Uy! kA kB,oB_!,eB_!,mB_!,vB_!,eH_!,mH_!,vH_!,uNX Gn,uNX GB,uNX G Y,uNX Ga0,uNX G al,uNX Gy,uNX G O,uNX GeI,uNX Gj,uNX Gb,uNX Gz,uNX GaT,uNX Ga2,uNX Ga1,uNX GeW,uNX G U,uNX Gb,uNX GeF,(P,wJX G z_most!));let hd:=DA (st:=N7) qPR4^vGqP;let WT:=WH.mk (wJX GnW) dM mk na1 na2! na3! na4! na5!^DA (st:=II) lIcI^vGlI;let h7:G6K mg QAMQEGB1_:=(sRX G nC (i:=7) ζ,sRX G nC (i:=0) ζ,xo!,xc!,xn1!,xn2!,xn3!,xb!,xf!,xe,eH_!,mH_!,DA (st:=G5) lX! cX^vG lX!);let gS:Km! K Z:=(dM,na1,na4!,na5!);let O3:∀υ:n3,n4 l.Ω wK mg υ "lots_after" 1 ["machine","rooms"] P8:=λυ=>SRX G bi λ___ F=>(qGF,Lf! F T);let O2:∀υ:n3,n4 l.Ω wK mg υ "has_marked" 1 ["machine","rooms"] sp_hasm!:=λυ=>SRX Gg7 λ___ F=>(qGF,Tt! F T);let DT:∀υ:n3,n4 l.Ω wK mg υ "lot_of" 1 ["rooms"] QT9:=λυ=>SRX Gi6 λ___ F=>(rIF,jk! F T);let bB!:∀υ:n3,n4 l.Ω wK mg υ "rooms_into" 1 ["machine","place","rooms"] Tu.sp_rinto:=λυ=>SRX G bd λ___ F=>(ESF,Yu! F T);obtain⟨an,lL!⟩:∃an:xE->uP,∀k,nEK "shape" (Lj! k) (eZk) (fh k)^an k:=Classical.axiomOfChoice sP;let(a6,Q):=si_Sign!;let(fJ,x):=si_Around!;let(a7,R):=si_Pair!;let(a8,S):=si_Desk!;let(e4,ce):=sM;show(q3 "law" "law" (p'N7) (nRN7) (hYN7) .ε hUdWa9 cd (.ο as) b3,λsv=>.of_eq ζ,λυ__gFdJ=>?_);let bS:∀k,p6K (an k) ["self"] []:=by show Bv! ?_ ?_ ?_ ?_ ?_ ?_ ?_ ?_ ?_ ?_ ?_<;>show rI^lL! _
 let fE:I' l.Ω wK mg υcg:=(wJX G n_Pattern!,λk=>wJX G^nPk,λk=>(bPk).pc,q0,(7,qs,wB! Q,qGQ),(7,q1,pj! x,qGx),(7,q2,wC! R,ESR),(fh,an,λk=>(bPk).me,bS,qH! (λk=>(bPk).pc) (λk=>(bPk).me) bS lL!));let l9:R5 l.Ω wK mg υcdd2d2d3:=(wJX G rn2!,wJX G rn3!,au! rl2! re2! Zd! rs2!,au! rl3! re3! tD! rs3!,wJX G n_Desk!,dcl!,dn1!,dn2!,(7,q_Desk!,wD! S,rIS));let a:=λ{r0:CXT}=>@SR r0 l.Ω wK mg υhX G;obtain⟨ts,u⟩:∃ts:γQAV,ts=[(P0,hN,),(P1,TZ,),(jF,X',),(P3,X2,),(jZ,X4,),(js,H.sitesH,),(k7,A.sitesA,),(iR,Tu.Au,)]:=(_,0);let eR:(ts.Tx Prod.fst).qg:=by rw[u];show Y5
 let i0:(P0,hN,)∈ts:=by rw[u];simp
 let i1:(P1,TZ,)∈ts:=by rw[u];simp
 let i2:(jF,X',)∈ts:=by rw[u];simp
 let UI:(P3,X2,)∈ts:=by rw[u];simp
 let Fj!:(jZ,X4,)∈ts:=by rw[u];simp
 let VQ!:(js,H.sitesH,)∈ts:=by rw[u];simp
 let Zc!:(k7,A.sitesA,)∈ts:=by rw[u];simp
 let oc!:(iR,Tu.Au,)∈ts:=by rw[u];simp
 let gR:∀p∈ts,∃c,(c,p.1,)∈[(N,P0,),(M,P1,),(L,jF,),(J,P3,),(I,jZ,),(E,js,),(D,k7,),(C,iR,)]:=by
  rw[u];intro pb5;simp only[u3,i7,w7]at b5;rcases b5 with ζ|rfl|rfl|rfl|rfl|rfl|rfl|rfl
  .exact (N,!1)
  .exact (M,!1)
  .exact (L,!1)
  .exact (J,!1)
  .exact (I,!1)
  .exact (E,!1)
  .exact (D,!1)
  .exact (C,!1)
 let e1:vRυ N P0:=dJ (N,P0,) (!1);let e0:vRυ M P1:=dJ (M,P1,) (!1);let YF:vRυLjF:=dJ (L,jF,) (!1);let YE:vRυ J P3:=dJ (J,P3,) (!1);let eO:vRυ IjZ:=dJ (I,jZ,) (!1);let Q0:vRυ Ejs:=dJ (E,js,) (!1);let lF:vRυDk7:=dJ (D,k7,) (!1);let j0:vRυCiR:=dJ (C,iR,) (!1);let bU:n4 l.Ω wK mg υ "walked_machine" 6 ["machine"]^KH! Z P0hN:=(Ka!,_,wJX GaM,vGsF,rI^DA (st:=CZ) sFG8^vGsF,wEsFG8lVcVQS2QIw lD WTQKkQKle1gF);let ga!:n4 l.Ω wK mg υ "walked_turned" 6 ["machine"]^Tu.Bx ZiR Tu.Au:=(ck!,_,wJX GaU,vGsI,rI^DA (st:=Tu.JY) sIIZ^vGsI,Tu.Fa sIIZlVcVQS2QIw lD WTQKkQKl (uNX Gy) (uNX GB) (uNX Gb) j0gF bB!);let gr!:=a Wf! λ___ F=>(rIF,mH! F T );let a3:=al1 λ___ F=>(rIF,kj! F T );let i5:=al2 λ___ F=>(ESF,kh! F T gr! a3);let bM:=al3 λ___ F=>(rIF,ir! F Ta3);let N6:=a C_! λ___ F=>(Rn! F,Tb! F T );let i3:=a hp! λ___ F=>(qGF,Va! F TgSbM);let uT:=a Xc! λ___ F=>(ESF,WD! F TgSN6);let ab:=a te! λ___ F=>(rIF,Aq! F TgS na3! h7i5a3i3bMuT);let bV:=a AD! λ___ F=>(qGF,Tc! F T );let ap:=a Fr! λ___ F=>(rIF,fw! F TgSbUi5i3);let hm:=a bi λ___ F=>(qGF,Lf! F T );let eG:=ai6 λ___ F=>(rIF,jk! F T );let hZ:=ag7 λ___ F=>(qGF,Tt! F T );let i':=a bd λ___ F=>(ESF,Yu! F T );let f4:=a ev λ___ F=>(rIF,pq! F TeRi0bU ab);let kI:=alS λ___ F=>(rIF,td! F TeRi0 oc! ab ga! ap);let gs:=akO λ___ F=>(ESF,Td! F TeRi0 ap);let dF:=aes λ___ F=>(qGF,Te! F Tgs);let a5:rP l.Ω wK mg υ "paired" 6 ["machine","second","is_wanted"]^Kt! l.Ω wK mg QAMts:=(Ee!,_,wJX GaA,vGs7,ES^DA (st:=A1) s7cA^vGs7,tu! eRi1s7cAlVcVQS2QIw lD WTQKkQKl (uNX G O) e0gFbV ab);let R1:rP l.Ω wK mg υ "either" 7 ["machine","second"]^C8QAMtsIA:=(fB!,_,wJX GdS,vGs8,qG^DA (st:=F0) s8jT^vGs8,Cr! eRi2s8jTYFgFa5);let GS:rP l.Ω wK mg υ "both" 7 ["machine","second"]^C8QAMtsRO:=(j3,_,wJX GdN,vGs9,qG^DA (st:=F1) s9BZ^vGs9,CH! eRUIs9BZYEgFa5);let fs:rP l.Ω wK mg υ "less" 7 ["machine","second"]^C8QAMtsN5:=(YR,_,wJX GaS,vGUN,qG^DA (st:=F2) UNG9^vGUN,fb! eR Fj! UNG9eOgFa5);let R3:rP l.Ω wK mg υ "then" 8 ["machine","second"]^C8QAMtsaF:=(fH!,_,wJX GfM,vGsA,qG^DA (st:=H.HF) sABs^vGsA,H.Ye eRi0 VQ! sABslVcVQS2QIw lD WTQKkQKlQ0 gFO3O2DTbV ap ab);let gO:rP l.Ω wK mg υ "again" 8 ["machine"] QSx:=(ta!,_,wJX GaN,vGsG,rI^DA (st:=A.H8) sGLV^vGsG,A.Fb eRi0 Zc! sGLVlVcVQS2QIw lD WTQKkQKllFgFO3O2DT ap ab);let Vp!:=a er! λ___ F=>(qGF,TX! F Tf4kIgOR1fsGSR3);let gi!:=a eq! λ__m F=>(qGF,iw! F Th7dF Vp! m^qGF);let f2:=aeP λ___ F=>(rIF,iy! F T );let bm:=a eo! λ___ F=>(rIF,dD! F Tf2);let i4:=alM λ___ F=>(rIF,ix! F T );let f1:=ajW λ___ F=>(K9F,kl! F T );let gd!:=akU λ___ F=>(qGF,dC! F Tf1i4);let dR:=al4 λ___ F=>(rIF,Kj! F TfE );let fr:=alJ λ___ F=>(ESF,pk! F TfE );let gl!:=al0 λ___ F=>(qGF,tq! F TfEl9 fr);let hg!:=alR λ___ F=>(qGF,Th! F TfEl9 gl! dR);let fn:=aj2 λ___ F=>(rIF,kg! F Tl9i4);let fO:=alG λ___ F=>(rIF,iu! F TfEl9 fn hg!);let j6:=agJ λ___ F=>(qGF,Wu! F TfEl9 bm gd! fO);let b2:=al' λ___ F=>(qGF,Xo! F T );let fe!:=ad9 λ___ F=>(rIF,Id! F T );let gz!:=ad6 λ___ F=>(qGF,km! F T );let Ed!:=ad5 λ__m F=>(rIF,iB! F T  m^rIF);let f3:=ad4 λ___ F=>(qGF,ko! F T );let hq!:=ad1 λ___ F=>(qGF,cw! F T );let R2:=ad0 λ___ F=>(rIF,Lh! F T );let(g6,e8,_,jE):=LY;let b1:=adT λ__m F=>(qGF,iz! F TjE (wJX Ge8) (qGjE) f3 hq! R2m (qGF) 12);let kW:=akG λ___ F=>(qGF,NK! F Tb1);let b0:=a dx λ__m F=>(qGF,kn! F T  m^qGF);let go:=ajV λ___ F=>(qGF,Vf! F T );let fk!:=akT λ___ F=>(qGF,Tn! F T );let gx:=ads λ___ F=>(rIF,dH! F T );let f0:=akF λ___ F=>(rIF,f8F T );let ep!:=akE λ___ F=>(ESF,To! F Tf0 gx);let ge!:=akS λ__m F=>(rIF,iC! F T  m^rIF);let GN:=ajO λ___ F=>(ESF,Tp! F Tb1);let fD!:=ai8 λ___ F=>(ESF,Vr! F Tb0 go);let bN:=a dd λ___ F=>(K9F,Tq! F Th7 ge! b0 fD! kW);let bs:=ak8 λ___ F=>(rIF,iD! F T );let g1:=akR λ___ F=>(rIF,g_! F T );let fy!:=ac8 λ___ F=>(qGF,Iw! F T );let U9:=ac7 λ___ F=>(qGF,kr! F Tb2g1);let MK!:kv! l.Ω wK mg υcQCHQAMts:=(fZ,e4,λk=>(bPk).NO,qG ce,WQ! ce fE bm gi!);let a4:=ac6 λ___ F=>(qGF,WPF T MK! fE );let gt:=ac5 λ___ F=>(K9F,Tr! F Ta4 fk! GN);let iM:=ac4 λ___ F=>(K9F,Wg! F Th7a4bsbN);show KK! hd TgRfE fe! b2U9 fy! j6 Ed! ep! a4bs gz! gt iM
end _K
end
open PySem PySem.W PyProof.Rows
set_option maxRecDepth 100000 in
set_option maxHeartbeats 0 in
theorem PySem.Challenge.cw_roomalgebra_k37_just_what_is_too_great_holds : PySem.Challenge.rw_roomalgebra_k37_just_what_is_too_great.Holds := by
 refine zz.t ?_
 k_fill
 intro w sa AG mg UY G ye g0 eA pm cd k8 jV NN e1 e2 e3 e4 e5 AA gs vs bs c1 c2 c3 c4 c5
 have W3:=PySem.W.kIn_of ye
 clear ye
 show _F.El (k:=28) (x:="_law_script") (l:=PySem.Challenge.rw_roomalgebra_k37_just_what_is_too_great) (tabs:=[(256,252),(332,328),(285,281),(292,288),(299,295),(311,307),(318,314),(278,276)]) rfl rfl ⟨rfl,by decide,by decide⟩ ?T ?F w sa AG mg UY G W3 g0 eA pm cd k8 jV NN e1 e2 e3 e4 e5 AA gs vs bs c1 c2 c3 c4 c5
 case T=>
  intro p q e9
  simp only [mem_cons,not_mem_nil,or_false] at e9
  rcases e9 with rfl|rfl|rfl|rfl|rfl|rfl|rfl|rfl
  all_goals exact ⟨⟨_,_,_,_,_,_,_,_,_,by k_is,rfl,rfl,rfl,rfl,rfl,rfl,rfl,rfl,by decide⟩,by kernel_rfl⟩
 case F=>
  intro w mg g0 h W3 G hmg
  refine' _K.od (c:=_b.Vj 450 469 514 495 647 666 685 552 571 590 609) (fh:=_b.Vj 447 466 511 492 644 663 682 549 568 587 606) (cs:=[24,37,49,61,73,85,97,116,135,154,166]) rfl (by decide) W3 G hmg ?nC ?kA ?kB ?n_Pattern ?n_Desk ?nP ?yS ?yi_Sign ?yi_Around ?yi_Pair ?yi_Desk ?yM ?bP ?q0 ?qs ?q1 ?q2 ?q_Desk ?sP ?si_Sign ?si_Around ?si_Pair ?si_Desk ?sM ?rn2 ?rl2 ?re2 ?rs2 ?rn3 ?rl3 ?re3 ?rs3 ?dcl ?dn1 ?dn2 ?oB_ ?eB_ ?mB_ ?vB_ ?eH_ ?mH_ ?vH_ ?nW ?hI0 ?cls ?mk ?na1 ?na2 ?na3 ?na4 ?na5 ?lI ?cI ?hX0 ?xo ?xc ?xn1 ?xn2 ?xn3 ?xb ?xf ?xe ?lX ?cX ?aV ?lV ?cV ?lD ?tM ?tA ?tB ?tC ?tS ?tH ?tN ?tU ?t59 ?ls0 ?ls1 ?zb ?z_most
  (case nC=>repeat' first|exact trivial|show ⟨_F.BB (by k_is) (by decide),?_⟩)
  (case n_Pattern|n_Desk|rn2|rn3|nW|aV|z_most=>exact _F.BB (by k_is) (by decide))
  (case nP=>show _b.Bv ?_ ?_ ?_ ?_ ?_ ?_ ?_ ?_ ?_ ?_ ?_ <;> (dsimp only [_b.Vj,_b.Ez];exact _F.BB (by k_is) (by decide)))
  (case tM|tA|tB|tC|tS|tH|tN|tU|t59=>exact ⟨_,_,_,_,_,_,_,_,_,_F.BB (by k_is) (by decide),_F.HD (by k_is) (by decide),_F.JX (by k_is) (by decide)⟩)
  (case ls0|ls1=>repeat' first|exact trivial|show ⟨⟨_,_F.BB (by k_is) (by decide),_F.Ut (_F.HD (by k_is) (by decide)) (_F.JX (by k_is) (by decide))⟩,?_⟩)
  (case zb=>exact ⟨_F.BB (by k_is) (by decide),_F.BB (by k_is) (by decide),_F.BB (by k_is) (by decide),_F.BB (by k_is) (by decide),_F.BB (by k_is) (by decide),_F.BB (by k_is) (by decide),_F.BB (by k_is) (by decide),_F.BB (by k_is) (by decide),_F.BB (by k_is) (by decide),_F.BB (by k_is) (by decide),_F.BB (by k_is) (by decide),_F.BB (by k_is) (by decide),_F.BB (by k_is) (by decide),_F.BB (by k_is) (by decide),_F.BB (by k_is) (by decide),_F.BB (by k_is) (by decide),_F.BB (by k_is) (by decide),trivial⟩)
  (case hI0|hX0=>k_is)
  (case yS=>show _b.Bv ?_ ?_ ?_ ?_ ?_ ?_ ?_ ?_ ?_ ?_ ?_ <;> (dsimp only [_b.Vj];k_is))
  (case yi_Sign|yi_Around|yi_Pair|yi_Desk=>first|k_is|(dsimp only [_b.Vj];k_is))
  (case yM=>dsimp only [_b.Vj];k_is)
  (case sP=>show _b.Bv ?_ ?_ ?_ ?_ ?_ ?_ ?_ ?_ ?_ ?_ ?_ <;> (dsimp only [_b.Vj,_K.Lj,_K.hst];exact _F.Up (_F.HD (by k_is) (by decide)) (_F.JX (by k_is) (by decide))))
  (case si_Sign|si_Around|si_Pair|si_Desk|sM=>exact _F.Up (_F.HD (by k_is) (by decide)) (_F.JX (by k_is) (by decide)))
  (case rl2|rl3|lI|lX|lV|lD=>exact _F.HD (by k_is) (by decide))
  (case re2|re3=>((repeat (show _b.mm rfl (congrArg Sum.inr (by decide +kernel)) rfl (by first|exact _b.dh (by decide +kernel)|exact ⟨_,rfl⟩) ?_));exact _b.EX))
  (case rs2|rs3=>decide)
  (case cI|cX|cV=>exact _F.JX (by k_is) (by decide))
  (case kA|kB|mB_|vB_|mH_|vH_|xf|xe=>kernel_rfl)
  (case bP=>show _b.Bv ?_ ?_ ?_ ?_ ?_ ?_ ?_ ?_ ?_ ?_ ?_ <;> (exact ⟨⟨⟨by kernel_rfl,by kernel_rfl,by kernel_rfl,by kernel_rfl⟩,by kernel_rfl,by kernel_rfl,by kernel_rfl,by kernel_rfl,by kernel_rfl,by unfold _F.u6;kernel_rfl,by unfold _F.u6;kernel_rfl,by unfold _F.u6;kernel_rfl,by unfold _F.u6;kernel_rfl⟩,⟨by kernel_rfl,by kernel_rfl,by kernel_rfl⟩,⟨by kernel_rfl,by kernel_rfl,by kernel_rfl⟩⟩))
  (case q0|q1|q2=>intro k;cases k <;> exact ⟨by kernel_rfl,by kernel_rfl,by kernel_rfl,by kernel_rfl⟩)
  (case qs|q_Desk|dcl|cls|mk=>exact ⟨by kernel_rfl,by kernel_rfl,by kernel_rfl,by kernel_rfl⟩)
  (case dn1|dn2|na1|na2|na3|na4|na5|xn1|xn2|xn3=>unfold _F.u6;kernel_rfl)
  (case oB_=>exact ⟨_,_,_,_,_,_,_,_,_,_,_,_,_,_,_,_,_F.HD (by k_is) (by decide),by kernel_rfl,by kernel_rfl,by kernel_rfl⟩)
  (case eB_|eH_=>exact ⟨by kernel_rfl,by kernel_rfl,by kernel_rfl,by kernel_rfl,by kernel_rfl,by kernel_rfl,by kernel_rfl,by kernel_rfl⟩)
  (case xo=>exact ⟨_,_,_,_,_,_,_,_,_,_,_,_,_,_,_,_,_F.HD (by k_is) (by decide),by kernel_rfl,by kernel_rfl,by kernel_rfl⟩)
  (case xc|xb=>exact ⟨by kernel_rfl,by kernel_rfl,by kernel_rfl⟩)
#print axioms PySem.Challenge.cw_roomalgebra_k37_just_what_is_too_great_holds
