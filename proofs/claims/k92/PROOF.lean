import PyProof.Rows.All
import KE.KDictOf
import KE.KFromBytes
import KE.KIntText
import KE.KLam
import KE.KNestM
import KE.KPairRows
import KE.KRevIter
import KE.KRevSl
import KE.KSortTup
import KE.KTryMore
import KE.RegKIsAll
import KE.RegKTryMore
import Wide.FinOn
import Lean
import PySem.Challenge.RW_coverroll_k92_no_texts
set_option Elab.async false
set_option linter.all false
set_option compiler.extract_closed false
set_option maxRecDepth 100000
set_option maxHeartbeats 4000000
namespace PySem.W.Fast
def tw13013129889193544641:=Nat
def tw6304050110923952540:=Nat
section
local macro_rules|`(#check $f $x*)=>Lean.MonadRef.withRef .missing do
 let mut r:=#[]
 let v:=x.map λy=>y.raw.isNatLit?.getD 0
 for k in [:v.size/2] do for j in [v[2*k]!:v[2*k+1]!] do
  let i:=Lean.mkIdent (.mkSimple s!"tw{(Lean.Name.str `Zhd (f.raw.getId.toString++toString j)).hash}")
  r:=r.push (←`(command|def $i:ident:=Nat))
 return Lean.mkNullNode r
#check env_ 41 42
#check heap_ 39 40 46 47 1466 1467
#check o_ 43 44 45 47 49 50 51 52 53 62 63 72 73 78 79 87 88 93 94 102 103 108 109 112 113 124 125 130 131 139 140 145 146 154 155 160 161 169 170 175 176 184 185 190 191 194 195 206 207 212 213 221 222 226 227 230 231 235 236 249 250 256 257 263 264 270 271 277 278 279 280 286 287 293 294 300 301 307 308 314 315 322 323 329 330 334 335 338 339 345 346 352 353 359 360 373 374 379 380 383 384 390 391 397 398 409 410 415 416 419 420 426 427 433 434 445 446 451 452 455 456 462 463 469 470 481 482 488 489 490 491 500 501 504 505 511 512 518 519 525 526 539 540 545 546 549 550 556 557 563 564 570 571 582 583 588 589 592 593 599 600 606 607 613 614 625 626 631 632 635 636 642 643 649 650 656 657 668 669 674 675 678 679 685 686 692 693 699 700 711 712 717 718 721 722 728 729 735 736 742 743 754 755 760 761 764 765 771 772 778 779 785 786 792 793 804 805 810 811 814 815 821 822 828 829 835 836 842 843 854 855 856 857 863 864 870 871 877 878 882 883 887 888 892 893 896 897 903 904 910 911 915 916 927 928 934 935 939 940 944 945 949 950 956 957 963 964 970 971 977 978 991 992 993 994 1000 1001 1005 1006 1009 1010 1016 1017 1023 1024 1030 1031 1037 1038 1044 1045 1051 1052 1058 1059 1065 1066 1072 1073 1079 1080 1086 1087 1093 1094 1106 1107 1111 1112 1115 1116 1122 1123 1129 1130 1136 1137 1143 1144 1150 1151 1157 1158 1164 1165 1171 1172 1178 1179 1185 1186 1191 1194 1195 1196 1197 1198 1204 1205 1214 1215 1218 1219 1225 1226 1239 1240 1244 1245 1251 1252 1253 1254 1260 1261 1265 1266 1272 1273 1279 1280 1286 1287 1293 1294 1298 1299 1305 1306 1310 1311 1317 1318 1324 1325 1331 1332 1336 1337 1338 1339 1345 1346 1352 1353 1359 1360 1366 1367 1373 1374 1380 1381 1387 1388 1394 1395 1401 1402 1408 1409 1415 1416 1420 1421 1422 1423 1429 1430 1434 1435 1441 1442 1448 1449 1455 1456 1460 1461 1466
#check sts_ 49 50 71 72 86 87 101 102 123 124 138 139 153 154 168 169 183 184 205 206 220 221 276 277 328 329 372 373 408 409 444 445 487 488 538 539 581 582 624 625 667 668 710 711 753 754 803 804 853 854 886 887 933 934 990 991 999 1000 1194 1195 1250 1251 1335 1336 1419 1420
#check tree_ 47 48 70 71 85 86 100 101 122 123 137 138 152 153 167 168 182 183 204 205 219 220 275 276 327 328 371 372 407 408 443 444 486 487 537 538 580 581 623 624 666 667 709 710 752 753 802 803 852 853 885 886 932 933 989 990 998 999 1105 1106 1190 1191 1249 1250 1334 1335 1418 1419 1465 1466
#check view_ 39 40
end
end PySem.W.Fast
namespace PySem.W
def zpl (o : Obj) : Option Obj := Heap.get? ⟨#[o], default⟩ 0
def zpk : List Nat → Nat → List Obj → List (Option Obj)
  | [], _, _ => []
  | a :: as, i, l => match Nat.ble i a, l.drop (a - i) with
    | true, o :: m => zpl o :: zpk as (a + 1) m
    | _, _ => [none]
theorem zpf {f : Nat → Option Obj} : ∀ {as : List Nat} {i : Nat} {l vs : List Obj}, (∀ j, f (i + j) = l[j]?.bind zpl) → zpk as i l = vs.map some → as.map f = vs.map some
  | [], _, _, _, _, e => e
  | a :: as, i, l, vs, h, e => by
    rw [zpk] at e
    split at e
    · rename_i o m h1 h2
      have h1 : i ≤ a := Nat.le_of_ble_eq_true h1
      have hl : ∀ j, l[a - i + j]? = (o :: m)[j]? := fun j => by rw [← h2, List.getElem?_drop]
      cases vs with
      | nil => cases e
      | cons v vs =>
        rw [List.map_cons] at e ⊢
        injection e with e1 e2
        have fa : f a = zpl o := by
          have := h (a - i)
          rw [Nat.add_sub_cancel' h1] at this
          rw [this]
          exact congrArg (·.bind zpl) (hl 0)
        rw [List.map_cons, fa, e1, zpf (fun j => ?_) e2]
        have := h (a - i + (1 + j))
        rw [show i + (a - i + (1 + j)) = a + 1 + j by omega] at this
        rw [this, hl, Nat.add_comm 1 j]
        rfl
    · cases vs with
      | nil => cases e
      | cons v vs => cases e
def zpH (K : Params → Frag) (as : List Addr) (e : ∀ P, as = (K P).map (·.1)) (ts : List Addr) (_ : 0 = 0) : Hook :=
  ⟨_, fun s => (zpk as 0 s.heap.objs.toList, ts.map s.heap.get?), (kmHook K as e ts).val, (kmHook K as e ts).says, fun w s x => (kmHook K as e ts).of w s (by
    have y : zpk as 0 s.heap.objs.toList = (K w.params).map fun p => some p.2 := congrArg Prod.fst x
    have v : ts.map s.heap.get? = ((kmHook K as e ts).val w).2 := congrArg Prod.snd x
    refine Prod.ext ?_ v
    show as.map s.heap.get? = (K w.params).map fun p => some p.2
    rw [← Function.comp_def some, ← List.map_map] at y ⊢
    exact zpf (fun j => by rw [Nat.zero_add, Array.getElem?_toList]; unfold Heap.get?; cases s.heap.objs[j]? <;> rfl) y), (kmHook K as e ts).keeps⟩
end PySem.W
local macro_rules | `(tactic| o_head ($_ $k $a $e $t)) => `(tactic| o_head (PySem.W.zpH $k $a $e $t rfl))
local macro_rules | `(tactic| o_head ($_ $k $a $e)) => `(tactic| o_head (PySem.W.zpH $k $a $e [] rfl))
set_option maxHeartbeats 0 in
open_top Zhd for PySem.Challenge.rw_coverroll_k92_no_texts
set_option tactic.hygienic false
local macro_rules|`(tactic|ac_nf)=>`(tactic|decide +kernel)
local macro_rules|`(tactic|injections)=>`(tactic|exact ⟨rfl,rfl,rfl,by decide +kernel,rfl,by decide +kernel,by decide +kernel⟩)
set_option hygiene false in
local macro_rules|`(tactic|bv_omega)=>`(tactic|refine F.ok sc (λvs H Q E h=>?_) (λcdv A outer s H vs Q E hr h=>?_))
open PySem.W renaming Frag -> zAa, nsIn -> zAx, findIn -> zAD, keepIn -> zAH, kitOne -> zAL, fnOf -> zAM, emptyDict -> zAS, codeIn -> zAX, exmOne -> zAY, instObj -> zAZ, kia_one -> zBj, callWith_K -> zBk, methodCall_KW -> zBv, looks_findIn -> zBz, excIn -> zBD, isFn -> zBF, hasDictIn -> zBH, clsIn -> zBP, InstAt -> zBS, specialIn -> zBZ, plainGet -> zCb, Looks -> zCf, callWith_K0 -> zCg, takerIn -> zCi, makesIn -> zCj, notCls -> zCq, cellsFrom_some -> zCu
open List renaming length_map -> zAb, length_append -> zAc, length_cons -> zAd, replicate -> zAe, map_append -> zAf, mem_cons -> zAg, mem_cons_of_mem -> zAh, getElem?_eq_getElem -> zAi, size_toArray -> zAj, mem_cons_self -> zAl, mem_singleton -> zAp, length_take -> zAq, map_cons -> zAr, getElem?_eq_some_iff -> zAs, getElem?_map -> zAt, mem_map -> zAv, append_assoc -> zAw, mem_of_getElem? -> zAz, append_nil -> zAA, take_length -> zAB, length_replicate -> zAC, mem_append -> zAE, eq_of_mem_replicate -> zAK, replicate_succ -> zAN, mem_append_right -> zAP, drop_drop -> zAQ, range -> zAU, not_mem_nil -> zAV, mem_of_mem_take -> zAW, length_drop -> zBb, cons_append -> zBc, length_singleton -> zBe, flatten_cons -> zBf, nodup_append -> zBg, getD_eq_getElem?_getD -> zBh, mem_append_left -> zBi, length_range -> zBl, any_cons -> zBm, nodup_cons -> zBn, foldl_cons -> zBo, getElem_mem -> zBp, map_nil -> zBr, mem_range -> zBs, filterMap_cons -> zBt, getElem_of_mem -> zBu, map_map -> zBw, sum_cons -> zBx, take_zero -> zBA, all_eq_true -> zBE, lookup_cons -> zBJ, length_filter_le -> zBM, getElem?_append_right -> zBO, drop_eq_getElem_cons -> zBQ, lookup -> zBR, find?_cons -> zBU, take_of_length_le -> zBX, eq_nil_of_length_eq_zero -> zBY, getElem_toArray -> zCd, flatMap_append -> zCh, getElem?_append_left -> zCk, range_succ -> zCn, getElem?_replicate -> zCr, any_eq_false -> zCs, flatMap_cons -> zCt, drop_length -> zCv
open PySem.Heap renaming get?_push_of_some -> zAk, lt_size -> zAo, get?_push_size -> zAJ, get?_update_other -> zAR, get?_update_self -> zAT, SameBut -> zBa, get?_none_of_le -> zBy, update_setField_same -> zCl, size_push -> zCp
open Nat renaming le_refl -> zAm, ne_of_lt -> zAu, zero_le -> zAy, lt_of_lt_of_le -> zAF, le_trans -> zAG, mul_le_mul_right -> zBq, ne_of_gt -> zBB, mod_lt -> zBK, not_lt_zero -> zBL, lt_irrefl -> zBN, le_succ -> zBW, lt_succ_self -> zCc, pow_le_pow_right -> zCe, min_eq_left -> zCm, lt_of_le_of_lt -> zCo
open Bool renaming false_ne_true -> zAn, and_eq_true -> zAO, false_eq_true -> zBV, eq_false_iff -> zCa
open Option renaming map_eq_some_iff -> zAI, isSome_iff_exists -> zBG
open Array renaming length_toList -> zBd, getElem?_eq_some_iff -> zBC, getElem?_setIfInBounds_self_of_lt -> zBI, getElem?_setIfInBounds_ne -> zBT
open PySem renaming wpAny_bind -> zCw, wpAny_pure -> zCx, sizeLine_eq -> zCy, bootBuiltins -> zCz, FuncData -> zCA, mainGlobals -> zCB
section
local macro_rules|`(tactic|lk)=>`(tactic|decide)
local macro_rules|`(⇑$a)=>`(($a).heap.objs.size)
local macro_rules|`(tactic|let $p:term:=$e)=>do
 let q:=p.raw.rewriteBottomUp λs=>if s.isIdent then Lean.mkNode `Lean.Parser.Tactic.rcasesPat.one #[s] else if s.isOfKind `Lean.Parser.Term.hole then Lean.mkNode `Lean.Parser.Tactic.rcasesPat.ignore #[s[0]] else if s.isOfKind `«term[_]» then Lean.mkNode `Lean.Parser.Tactic.rcasesPat.tuple #[Lean.mkAtom "⟨",Lean.mkNullNode (Lean.mkSepArray (s[1].getSepArgs.map λx=>Lean.mkNode `Lean.Parser.Tactic.rcasesPatLo #[Lean.mkNode `Lean.Parser.Tactic.rcasesPatMed #[Lean.mkNullNode #[x]],Lean.mkNullNode]) (Lean.mkAtom ",")),Lean.mkAtom "⟩"] else s
 `(tactic|obtain $(⟨q⟩):rcasesPat:=$e)
local macro_rules|`(tactic|let $c:letConfig $d:letDecl)=>if d.raw[0].isOfKind `Lean.Parser.Term.letPatDecl then Lean.Macro.throwUnsupported else `(tactic|have $c:letConfig $d:letDecl)
local macro_rules|`([$x])=>`(⟨$x⟩)|`([$x,$a,*])=>`(⟨$x,$a,*⟩)
local macro_rules|`(#[])=>`(List.nil)|`(#[$x])=>`(List.cons $x List.nil)|`(#[$x,$a,*])=>`(List.cons $x #[$a,*])
local macro_rules|`(#v[$a,*])=>`(List.toArray #[$a,*])
local macro_rules (kind:=Lean.Parser.Command.declaration)|s=>if s.getPos?.isNone then Lean.Macro.throwUnsupported else return s.rewriteBottomUp λs=>match s with|.atom _ v=>.atom .none v|.ident _ r v p=>.ident .none r v p|.node _ k a=>.node .none k a|x=>x
theorem I{α:Sort u}{a:α}:a=a:=rfl
theorem G{p:Prop}(h:p:=by decide +kernel):p:=h
theorem Z{p:Prop}(h:p:=by lia):p:=h
theorem Y{p:Prop}(h:p:=by decide):p:=h
theorem zZ{p:Prop}(h:p:=by simp):p:=h
theorem zY{p:Prop}(h:p:=by omega):p:=h
open PySem.Str renaming ofString -> lS, ofString -> O, join -> mE, empty -> qB, mk -> vR
open Option renaming some -> lT, some -> g, none -> lW, none -> M, bind_some -> tQ, getD_none -> yJ, map_some -> yU
open PySem renaming Addr -> lU, Addr -> T, Value -> lV, Shared -> lZ, Str -> mB, Str -> J, Program -> mF, starEach -> mH, wpAny -> mO, model -> mP, World -> mR, Heap -> mX, Around -> mZ, sliceBounds -> nL, wpAny_Call_Name_kw -> nQ, eval -> nU, wpAny_mono -> nV, mem_of_lookup -> nX, Expr -> nY, Stmt -> nZ, backTo -> oB, wpAny_holding -> oE, compareOp -> oF, codeAny_mono -> oG, Obj -> oH, wpAny_loadPart_at -> oK, wpAny_field -> oM, wpAny_standAt -> oP, keywordEach -> oQ, wpAny_setField -> oU, wpAny_call -> oV, holding -> pC, wpAny_passesOwn -> pF, wpAny_execs_nil -> pG, NameKind -> pH, attributeBase -> pI, wpAny_truthy_bool -> pJ, sysModules -> pN, codeAny_call_builtin -> pO, call_meets -> pP, cLine -> pQ, getMethod -> pS, codeAny -> pT, rawInt -> pX, Paired -> qA, backToKw -> qC, SetTable -> qD, excClassObj -> qF, binaryOp -> qI, typeIs_str -> qL, scanBound -> qM, assignEach -> qN, standAt -> qP, wpAny_of_eq -> qQ, codeAny_builtin -> qS, setFlight -> qV, callWith -> qX, foldedSetIterable -> rE, Scope -> rJ, wpAny_getItem_list_slice -> rO, wpAny_comprehension_free -> rP, Env -> sB, noteFrame -> sD, letOwnedTupleGo -> sO, getAttrByItsOwn -> sP, codeAny_handlers_test -> sR, wpAny_loadPart -> tF, recursionLimit -> tG, GenState -> tM, swapsWith -> tO, PassesOwn -> tP, wpAny_isSubtype_exc -> tS, wpAny_handleBy_cons -> tT, evalPart_some -> uI, evalPart_none -> uJ, behindInMarks -> uK, Pos -> uL, sliceRange -> uO, assign -> uP, wpAny_newObj_type -> uV, relayAll -> uW, leaving -> uX, callerA -> uY, Model -> u4, ExcBaseFacts -> vA, BindsTo -> vD, plainObj_wpAny_Assign_Attribute -> vE, Sem -> vH, wpAny_Try_except -> vN, tupleKind -> vO, checkBuiltinCall -> vP, cellsFrom -> vQ, frameOf -> vS, codeAny_of_tree -> v7, Within -> v8, valueAt -> wB, Keyword -> wI, Builtin -> wK, wpAny_newFunctionEnv_cells -> wN, isInstance -> wO, boundAndCalled -> wP, bindL -> wQ, bindC -> wR, Result -> wU, wpAny_attempt -> xS, call -> xW, slicePick -> yG, raiseStmt -> yH, seqIndex_neg -> yP, isTrue -> yQ, getAttr -> yR, codeAny_handlers_suite -> yS, codeAny_call_function -> yZ
open Bool renaming false -> lX, true -> lY, true -> B, eq_iff_iff -> rX, and_false -> sJ, or_true -> wL, not_eq_true' -> yY
open PySem.Value renaming ref -> mG, none -> mT, bool -> oW, type -> pU, str -> qG, int -> tV, float -> wS
open Option.some renaming inj -> mI, injEq -> vY
open PySem.F renaming plainAttrs_list -> mJ, type_list_append -> mL, slot_list_append -> mM, plainAttrs_str -> mY, type_str_join -> nO, slot_str_join -> nP, type_list_extend -> pL, slot_list_extend -> pM, type_str_split -> pY, slot_str_split -> pZ, excBase_ValueError -> qO, slot_dict_get -> rC, args_str_split_2 -> uH, entry_str_split -> uS, args_str_join_2 -> uT, slot_str_split -> u8, entry_str_join -> u9, args_dict_get_3 -> vI, entry_dict_get -> vT, slot_str_join -> vV
open PySem.Obj renaming mapFields -> mW, isFreed_of_fields -> oR, data_mapFields -> o0, putSet -> tK, mapSeq -> tL, cls_mapFields -> uB
open PySem.NumText renaming digitsVal -> nA, AllDigits -> nR
open False renaming elim -> nD
open Int renaming eq_ofNat_of_zero_le -> nJ, emod_nonneg -> pW, emod_lt_of_pos -> qT, ediv_nonneg -> u7, toNat_natCast -> zB
open PySem.PassesOwn renaming never -> nK, leaving -> oZ, looking -> sL
open PySem.SetTable renaming below -> nN, grown -> pB, has -> vF, slot -> yT
open List renaming map -> oA, length -> oJ, zipWith -> rK, any_map -> rL, all_map -> rM, of_mem_zip -> rR, nil_append -> rT, length_nil -> rV, take_append_drop -> rZ, filterMap_append -> r6, drop_zero -> sI, getElem?_range -> sQ, map_take -> sU, all_cons -> sV, map_replicate -> sY, countP_append -> sZ, contains_cons -> tD, take_sublist -> tR, countP_cons -> uM, sublist_append_left -> vZ, length_erase_of_mem -> v0, zipWith_cons_cons -> wE, range_succ_eq_map -> wF, length_pos_of_mem -> wG, getElem?_set_self -> wH, getElem?_toArray -> xA, getElem?_eq_none -> xB, eq_nil_or_concat -> xC, countP_le_length -> xD, concat_eq_append -> xE, replicate_succ' -> xM, mem_of_mem_drop -> xN, mem_erase_of_ne -> xO, getElem?_set_ne -> xP, take_succ_cons -> xZ, mem_map_of_mem -> x8, map_eq_nil_iff -> x9, length_take_le -> yA, getD_cons_zero -> yB, append_toArray -> yC, map_inj_right -> yK, foldl -> yL, filter_append -> yM, take_add_one -> yV, drop_sublist -> yW, getElem_inj -> y9, any_eq_true -> zA
open Ne renaming symm -> oC
open PyProof.Rows renaming callWith_type1 -> oN, envOfC -> oY, AllBare -> qJ, callWith_builtin1 -> sH, IntsAre -> u6, Subscript_ -> wT, subscriptTail_builtinR -> yO
open PySem.SeqAt renaming EqAt -> oO, RcNeAt -> rB, RcAt -> xV
open PySem.NameKind renaming free -> oS, cell -> uU
open True renaming intro -> oX
open PyProof.Rows.F renaming plain_set_update_loop -> pA, entry_set_update_loop -> qW
open PySem.Builtin.List renaming listTooLong -> pD
open ForInStep renaming yield -> pK
open PySem.Calls renaming spliced_cons -> pV, spliced_nil -> qU, evalArgs_plain -> sG, Name_function_global -> vB, callWith_builtin -> wA
open PySem.StrLaws renaming glued_eq_join -> qE, joinFits -> xU
open PySem.EntryCells renaming newEntry -> qH
open PySem.Builtin.Str renaming glued -> qK, occurrences -> qR, tooLong -> rD, strKind -> vL
open PySem.Heap.IsSliceOf renaming new -> qY
open PySem.Builtin.ObjectAttr renaming storeInDict -> qZ, newKeyGuard -> zC
open PySem.Txt renaming split -> rA, zfill -> wC
open PySem.SetTable.probe renaming go -> rF
open PySem.SetTable.below renaming go -> rG
open PySem.W renaming lookIn -> rQ, plainGet_of -> sE, looks_clsIn -> sF, isNs_of_in -> sK, plainOver -> sS, methodObj -> sT, makes_of -> tH, handedIn -> tI, any_some -> tJ, readsIn -> tW, findObj -> tX, findCls -> tY, exm_one -> tZ, OpenLaw -> uA, mroIn -> uZ, findObj_own -> wD, tail_of_in -> wV, looks_find -> wW, codeRec_of -> wX, check_slot -> wY, set_plain -> xG, make_core -> xH, kitx_list -> xI, kitx_dict -> xJ, handed_on -> xK, codeHdIn -> xX, InitBack -> xY, takesIn -> yI, mg_of -> y6, WalkO -> y8
open List.Pairwise renaming nil -> rW
open List.Nodup renaming sublist -> sA
open PySem.Around renaming under_plainId -> sC, under -> v4, frames_deeper -> wM, in1_units -> yN
open Array renaming append_assoc -> sW, size_append -> tN, getElem?_eq_getElem -> vM, toList_append -> xR, find?_toList -> yF
open PySem.SeqAt.RcNeAt renaming lists_lengths -> sX, lists -> vG
open PySem.Code renaming quiet_builtin -> tE, isFrame -> wJ
open Nat renaming toDigits -> uC, lt_succ_of_lt -> uD, le_succ_of_le -> uF, le_of_lt -> uG, succ_le_succ -> uR, mul_le_mul -> vU, add_assoc -> v9, zero_add -> wZ, lt_trans -> w9
open PySem.Data renaming cell -> uN, fields -> xQ
open List.Perm renaming append_right -> u5, refl -> yD
open PySem.PassesOwnAt renaming leaving -> vJ
open PySem.Paired renaming length -> vK
open PySem.SeqAt.EqAt renaming str_int -> vW, int_str -> vX
open PySem.Heap.Ns1 renaming of_empty -> xF
open PySem.Made renaming str -> xL
open PySem.Heap renaming get?_update_ne -> yE, get?_push_at -> yX
def mC:=@absurd
def mK:=@if_neg
def mQ:=@decide_eq_false
def mS:=@if_pos
def mU:=@of_decide_eq_true
def mV:=@decide_eq_true
def nI:=@congrArg
def pR:=@or_false
def rY:=@if_true
def tU:=@if_false
def xT:=@not_or
namespace L2
open PySem PySem.Spec PyProof.Rows
abbrev Rw:=Sum Int J
def B6:Rw->lV->Bool
 |.inl k,v=>Value.isInt k v
 |.inr x,v=>Value.isStrOf x v
def eV(w:mR):Rw->Int
 |.inl k=>hashInt k
 |.inr x=>hashStr w x
theorem Fu:∀{k} {v},B6 k v=B->(∃i t,k=Sum.inl i/\v=tV i t)\/(∃x t,k=Sum.inr x/\v=qG x t)
 |.inl i,v,h=>by
  let[t,e]:=Value.isInt_shape (k:=i) (v:=v) h;exact .inl [i,t,I,e]
 |.inr x,v,h=>by
  let[t,e]:=Value.isStrOf_shape (x:=x) (v:=v) h;exact .inr [x,t,I,e]
def GH(i:Int)(t:Tok):B6 (.inl i) (.int i t)=B:=by simp[B6,Value.isInt]
def FO(x:J)(t:Tok):B6 (.inr x) (.str x t)=B:=by simp[B6,Value.isStrOf]
def XJ(a b:Int):decide ((Sum.inl a:Rw)=Sum.inl b)=(a==b):=by
 by_cases e:a=b
 .subst e;simp
 .have h:¬(Sum.inl a:Rw)=Sum.inl b:=λq=>e (Sum.inl.inj q)
  rw[mQ h];exact(beq_eq_false_iff_ne.mpr e).symm
def YF(a b:J):decide ((Sum.inr a:Rw)=Sum.inr b)=decide (a=b):=by
 by_cases e:a=b
 .subst e;simp
 .have h:¬(Sum.inr a:Rw)=Sum.inr b:=λq=>e (Sum.inr.inj q)
  rw[mQ h,mQ e]
def VB(a:Int)(b:J):decide ((Sum.inl a:Rw)=Sum.inr b)=lX:=mQ (λq=>nomatch q)
def YE(a:J)(b:Int):decide ((Sum.inr a:Rw)=Sum.inl b)=lX:=mQ (λq=>nomatch q)
def Fo(prog:mF)(w:mR):PySem.KeyKind prog w Rw where
 is:=B6
 hash:=eV w
 inj:=λv a b N H=>by
  rcases Fu N with ⟨i,t,rfl,rfl⟩|⟨x,t,rfl,rfl⟩
  .rcases Fu H with ⟨j,u,rfl,e⟩|⟨y,u,rfl,e⟩
   .injection e with e1 _;rw[e1]
   .exact nomatch e
  .rcases Fu H with ⟨j,u,rfl,e⟩|⟨y,u,rfl,e⟩
   .exact nomatch e
   .injection e with e1 _;rw[e1]
 byValue:=λk v h=>by
  rcases Fu h with ⟨i,t,rfl,rfl⟩|⟨x,t,rfl,rfl⟩<;>rfl
 pyHash:=λC h=>by
  rcases Fu C with ⟨i,t,rfl,rfl⟩|⟨x,t,rfl,rfl⟩
  .exact wpAny_pyHash_int h
  .exact wpAny_pyHash_str h
 eqBool:=λL C h=>by
  rcases Fu L with ⟨i,t,rfl,rfl⟩|⟨x,t,rfl,rfl⟩
  .rcases Fu C with ⟨j,u,rfl,rfl⟩|⟨y,u,rfl,rfl⟩
   .rw[XJ]at h;exact wpAny_eqBool_int h
   .rw[VB]at h;exact vX i t y u _ _ _ _ h
  .rcases Fu C with ⟨j,u,rfl,rfl⟩|⟨y,u,rfl,rfl⟩
   .rw[YE]at h;exact vW x t j u _ _ _ _ h
   .rw[YF]at h;exact wpAny_eqBool_str h
 «strs» := λk x t v h=>by
  rcases Fu h with ⟨i,u,rfl,e⟩|⟨y,u,rfl,e⟩
  .exact nomatch e
  .injection e with e1 _
   subst e1;cases v<;>rfl
def S7(prog:mF)(w:mR)(i:Int)(t:Tok):(Fo prog w).is (.inl i) (.int i t)=B:=GH i t
def U5(prog:mF)(w:mR)(x:J)(t:Tok):(Fo prog w).is (.inr x) (.str x t)=B:=FO x t
inductive V where
 |non|bl (b:Bool)|int (i:Int)|str (x:J)|byt (b:Array UInt8)|flt (b:UInt64)|ref (a:T)|ty (n:String)
 deriving DecidableEq
def Bq:V->lV->Prop
 |.non,u=>u=mT
 |.bl b,u=>u=oW b
 |.int i,u=>∃t,u=tV i t
 |.str x,u=>∃t,u=qG x t
 |.byt b,u=>∃t,u=Value.bytes b t
 |.flt b,u=>∃t,u=wS b t
 |.ref a,u=>u=mG a
 |.ty n,u=>u=pU n
abbrev Bc:List V->List lV->Prop:=qA Bq
def Bc.length{xs:List V}{us:List lV}(r:Bc xs us):xs.length=us.length:=vK r
theorem Bc.get:∀{xs} {us} {i:Nat} {x},Bc xs us->xs[i]?=g x->∃u,us[i]?=g u/\Bq x u
 |_,_,_,_,.nil,e=>by simp at e
 |_,_,0,_,.cons r _,e=>by simp at e;subst e;exact[_,I,r]
 |_,_,i+1,x,.cons _ t,e=>by
  let[u,C,z]:=Bc.get (i:=i) (x:=x) t (by simpa using e);exact[u,by simpa using C,z]
theorem Bc.set{x:V}{u:lV}(r:Bq x u):∀{xs} {us} (i:Nat),Bc xs us->Bc (xs.set i x) (us.set i u)
 |_,_,_,.nil=>.nil
 |_,_,0,.cons _ t=>.cons r t
 |_,_,i+1,.cons q t=>.cons q (Bc.set r i t)
theorem Bc.append:∀{xs ys} {us ws},Bc xs us->Bc ys ws->Bc (xs++ys) (us++ws)
 |_,_,_,_,.nil,s=>s
 |_,_,_,_,.cons r t,s=>.cons r (Bc.append t s)
theorem Bc.take:∀{xs} {us} (n:Nat),Bc xs us->Bc (xs.take n) (us.take n)
 |_,_,0,_=>.nil
 |_,_,_+1,.nil=>.nil
 |_,_,n+1,.cons r t=>.cons r (Bc.take n t)
theorem Bc.drop:∀{xs} {us} (n:Nat),Bc xs us->Bc (xs.drop n) (us.drop n)
 |_,_,0,r=>r
 |_,_,_+1,.nil=>.nil
 |_,_,n+1,.cons _ t=>Bc.drop n t
def Bc.none_of:∀{xs} {us} {i:Nat},Bc xs us->xs[i]?=M->us[i]?=M:=λ{xs us i} r e=>by
 let C:=r.length;let z:xs.length<=i:=List.getElem?_eq_none_iff.mp e;exact List.getElem?_eq_none_iff.mpr Z
def jV:Option V->Option lV->Prop
 |some v,g u=>Bq v u
 |none,M=>True
 |_,_=>False
def KV{κ:Type}:List (κ×V)->List (κ×lV)->Prop:=qA λ(p:κ×V) (q:κ×lV)=>p.1=q.1/\Bq p.2 q.2
def kV:Rw->V
 |.inl i=>.int i
 |.inr x=>.str x
inductive HO where
 |lst (xs:List V)
 |tup (xs:List V)
 |dK (kvs:List (Rw×V))|dT (kvs:List (List Rw×V))
 |set (S:Int->Bool) (n:Nat)
 |ins (C dx:T) (fs:List (J×V))
 |own (x:T)
 |xd (fs:List (J×V))
 |met (f x:T)
 |rng (lo hi:Int)
 |frz (o:oH) (u:HO)
 |tbl (ps:Array lV)
 |ext (φ:mX->Prop)
abbrev Hp:=T->Option HO
def upd(H:Hp)(a:T)(o:HO):Hp:=λb=>if b=a then g o else H b
def Aa{H:Hp}{a:T}{o:HO}:upd H a o a=g o:=by unfold upd;rw[mS I]
def Ak{H:Hp}{a b:T}{o:HO}(h:b≠a):upd H a o b=H b:=by unfold upd;rw[mK h]
def Jy{H:Hp}{a b:T}{o u:HO}(h:H a=g o)(h':H b=g u)(d:o≠u):a≠b:=by
 intro e;subst e;rw[h]at h';exact d (mI h')
def Ai{H:Hp}{a b:T}{o:HO}(h:H a=g o)(h':H b=M):a≠b:=by
 intro e;subst e;rw[h]at h';cases h'
section
variable (P:mF) (w:mR)
def Cg(H:Hp)(h:mX)(a:T):HO->Prop
 |.lst Q=>Q.length<=sizeLine/\∃(N:List lV) (n:Nat),Bc Q N/\h.get? a=g { cls:=.type "list",data:=.seq N.toArray n }
 |.tup Q=>Q.length<=sizeLine/\∃N:List lV,Bc Q N/\IsTup h a N.toArray
 |.dK L=>L.length<=sizeLine/\(a==pN)=lX/\∃E,KV L E/\h.DictOf (Fo P w) a E
 |.dT L=>L.length<=sizeLine/\(a==pN)=lX/\∃Q:List (List Rw×T×lV),
   qA (λ(p:List Rw×V) (q:List Rw×T×lV)=>p.1=q.1/\H q.2.1=g (.tup (p.1.map kV))/\Bq p.2 q.2.2) L Q /\
   ∃o A b,h.get? a=g o/\o.ExactDict/\o.data=.dict A b/\A.toList=Q.map (entryOfKey (vO (Fo P w)))/\(Q.map (·.1)).Nodup
 |.set S n=>h.SetOf (intKind P w) a S n
 |.ins C W U=>H W=g (.own a)/\U.length<=1000/\W≠a/\h.get? a=g (zAZ C W) /\
   ∃R,h.Ns1 W R/\(∀f,jV (U.lookup f) (R f))/\v8 R (U.map (·.1))
 |.own _=>∃o,h.get? a=g o
 |.xd U=>∃R,h.Ns1 a R/\∀f,jV (U.lookup f) (R f)
 |.rng j c=>∃t u v,h.get? a=g { cls:=.type "range",data:=.fields #v[.int j t,.int c u,.int 1 v] }
 |.frz o u=>h.get? a=g o/\Cg H h a u
 |.tbl d=>h.get? a=g { cls:=.none,data:=.fields d }
 |.met f x=>h.get? a=g (sT (.ref f) (.ref x))
 |.ext X=>X h/\(∃o,h.get? a=g o)/\∀F K:mX,X F->(∀o,F.get? a=g o->K.get? a=g o)->X K
def jR(H:Hp)(h:mX):Prop:=∀a o,H a=g o->Cg P w H h a o
end
section
variable {P:mF} {w:mR} {H H':Hp} {h h':mX} {a:T} {o:HO}
def Cg.lt(x:Cg P w H h a o):a<h.objs.size:=by
 cases o with
 |lst L=>let[_,_,_,_,e]:=x;exact zAo e
 |tup L=>let[_,_,_,p]:=x;exact p.lt
 |dK z=>let[_,_,_,_,o,_,_,e,_]:=x;exact zAo e
 |dT z=>let[_,_,_,_,o,_,_,e,_]:=x;exact zAo e
 |set S n=>let[o,_,_,_,e,_]:=x;exact zAo e
 |ins C U N=>let[_,_,_,e,_]:=x;exact zAo e
 |own y=>let[_,e]:=x;exact zAo e
 |xd N=>let[_,[_,_,_,e,_],_]:=x;exact zAo e
 |rng X Q=>let[_,_,_,e]:=x;exact zAo e
 |frz F u=>let[e,_]:=x;exact zAo e
 |tbl R=>exact zAo (show h.get? a=g _ from x)
 |met f y=>exact zAo (show h.get? a=g _ from x)
 |ext W=>let[_,[_,e],_]:=x;exact zAo e
theorem Paired.mapP{N Q:Type}{F C:N->Q->Prop}:∀{z:List N} {L},qA F z L->(∀a b,F a b->C a b)->qA C z L
 |_,_,.nil,_=>.nil
 |_,_,.cons r t,f=>.cons (f _ _ r) (Paired.mapP t f)
def Cg.stay(x:Cg P w H h a o)(k:∀b u,(b=a\/H b=g (.own a))->h.get? b=g u->h'.get? b=g u)
  (R:∀b,H b=g (.own a)->H' b=g (.own a)) (s:∀b xs,H b=g (.tup xs)->H' b=g (.tup xs)):Cg P w H' h' a o:=by
 induction o with
 |lst xs=>let[z,Q,n,r,e]:=x;exact[z,Q,n,r,k _ _ (.inl I) e]
 |tup xs=>let[z,Q,r,F,e,c]:=x;exact[z,Q,r,F,k _ _ (.inl I) e,c]
 |dK U=>let[z,y,m,r,F,W,L,e,c]:=x;exact[z,y,m,r,F,W,L,k _ _ (.inl I) e,c]
 |dT U=>
  let[z,y,xs,r,F,W,L,e,c]:=x;exact[z,y,xs,Paired.mapP r λp q z=>[z.1,s _ _ z.2.1,z.2.2],F,W,L,k _ _ (.inl I) e,c]
 |set S n=>let[F,W,L,t,e,c]:=x;exact[F,W,L,t,k _ _ (.inl I) e,c]
 |ins C dx i=>
  let[d,z,j,e,A,[X,W,L,N,c],r]:=x;exact[R _ d,z,j,k _ _ (.inl I) e,A,[X,W,L,k _ _ (.inr d) N,c],r]
 |own y=>let[F,e]:=x;exact[F,k _ _ (.inl I) e]
 |xd i=>let[A,[X,W,L,e,c],r]:=x;exact[A,[X,W,L,k _ _ (.inl I) e,c],r]
 |rng lo hi=>let[t,u,v,e]:=x;exact[t,u,v,k _ _ (.inl I) e]
 |frz F u l=>let[e,q]:=x;exact[k _ _ (.inl I) e,l q]
 |tbl E=>
  let e:h.get? a=g { cls:=.none,data:=.fields E }:=x;show h'.get? a=g { cls:=.none,data:=.fields E };exact k a _ (.inl I) e
 |met f y=>
  let e:h.get? a=g (sT (.ref f) (.ref y)):=x;show h'.get? a=g (sT (.ref f) (.ref y));exact k a _ (.inl I) e
 |ext φ=>let[p,[o,e],K]:=x;exact[K _ _ p λo q=>k _ _ (.inl I) q,[o,k _ _ (.inl I) e],K]
def jR.lt(x:jR P w H h)(e:H a=g o):a<h.objs.size:=(x a o e).lt
def jR.fresh(x:jR P w H h)(e:h.objs.size<=a):H a=M:=by
 cases q:H a with
 |none=>rfl
 |some u=>exact mC (zAF (x.lt q) e) (zBN _)
def jR.kept(x:jR P w H h)(k:∀b u,h.get? b=g u->h'.get? b=g u):jR P w H h':=λa o e=>
 (x a o e).stay (λb u y q=>k b u q) (λy q=>q) λy y q=>q
def jR.laid(x:jR P w H h)(k:∀b u,h.get? b=g u->h'.get? b=g u)(N:h.objs.size<=a)(C:Cg P w (upd H a o) h' a o):jR P w (upd H a o) h':=λb u e=>by
 let L:=x.fresh N;by_cases z:b=a
 .subst z;rw[Aa]at e;cases e;exact C
 .rw[Ak z]at e
  exact(x b u e).stay (λc v y q=>k c v q) (λc q=>by rw[Ak (Ai q L)];exact q) λc Q q=>by rw[Ak (Ai q L)];exact q
end
def Rd(H:Hp)(a:T)(u:HO):Prop:=H a=g u\/∃o,H a=g (.frz o u)
def Rd.ok{P:mF}{w:mR}{H:Hp}{h:mX}{a:T}{u:HO}(r:Rd H a u)(x:jR P w H h):Cg P w H h a u:=by
 rcases r with r|⟨o,r⟩
 .exact x a u r
 .let[_,q]:=x a _ r
  exact q
def YX:Option HO->Prop
 |some (.lst _)=>True
 |some (.dK _)=>True
 |some (.dT _)=>True
 |some (.set _ _)=>True
 |some (.ins _ _ _)=>True
 |some (.ext _)=>True
 |_=>False
section
variable {P:mF} {w:mR} {H:Hp} {h h':mX} {x e:T} {o':HO}
def jR.write(E:jR P w H h)(S:YX (H x))(A:e=x\/H e=g (.own x))(k:∀b u,b≠e->h.get? b=g u->h'.get? b=g u)(N:∃u,h'.get? e=g u)
  (W:Cg P w (upd H x o') h' x o'):jR P w (upd H x o') h':=λb u q=>by
 let L:∀c y,H c=g (.own y)->c≠x:=λc y r z=>by subst z;rw[r]at S;exact S
 let Q:∀c R,H c=g (.tup R)->c≠x:=λc R r z=>by subst z;rw[r]at S;exact S
 by_cases U:b=x
 .subst U;rw[Aa]at q;cases q;exact W
 .rw[Ak U]at q
  by_cases F:b=e
  .have X:H b=g (.own x):=by
    rcases A with z|z
    .exact mC (F.trans z) U
    .rw[F];exact z
   rw[q]at X;cases X;let[v,K]:=N;exact[v,by rw[F];exact K]
  .refine(E b u q).stay (λc v C r=>k c v ?_ r) (λc r=>by rw[Ak (L c b r)];exact r) λc R r=>by rw[Ak (Q c R r)];exact r
   rcases C with rfl|C
   .exact F
   .rintro rfl
    rcases A with z|z
    .exact L c b C z
    .rw[C]at z;cases z;exact U I
end
structure Un(fs ex:List T)(H H':Hp)(h h':mX):Prop where
 keep:∀b o,h.get? b=g o->H b=M->b∉fs->b∉ex->h'.get? b=g o
 slot:∀b o,h.get? b=g o->H b=M->b∈fs->b∉ex->∃sl,h'.get? b=g { o with slots:=sl }
 free:∀b o,h.get? b=g o->H b=M->b∉ex->H' b=M
 there:∀b o,h.get? b=g o->b∉ex->∃o',h'.get? b=g o'
 tups:∀b xs,H b=g (.tup xs)->H' b=g (.tup xs)
 frzs:∀b o u,H b=g (.frz o u)->H' b=g (.frz o u)
 tbls:∀b ps,H b=g (.tbl ps)->∃more,H' b=g (.tbl (ps++more))
section
variable {fs ex:List T} {H H1:Hp} {h h1 h':mX} {a x e:T} {o:HO}
def Un.any(u:Un fs ex H H1 h h1){b:T}(q:h.get? b=g c)(n:H b=M)(z:b∉ex):∃L,h1.get? b=g { c with slots:=L }:=by
 by_cases F:b∈fs
 .exact u.slot b c q n F z
 .exact[c.slots,u.keep b c q n F z]
def Un.kept(k:∀b u,h.get? b=g u->h'.get? b=g u):Un fs ex H H h h':=
 [λb z q y y y=>k b z q,λb z q y y y=>[z.slots,k b z q],λy y y n y=>n,λb z q y=>[z,k b z q],λy y q=>q,λy y y q=>q,λy C q=>[#v[],by rw[q];simp]]
def Un.refl:Un fs ex H H h h:=Un.kept λy y q=>q
def Un.laid(k:∀b u,h.get? b=g u->h'.get? b=g u)(N:h.objs.size<=a)(C:H a=M):Un fs ex H (upd H a o) h h' where
 keep:=λb u q y y y=>k b u q
 slot:=λb u q y y y=>[u.slots,k b u q]
 free:=λb u q n y=>by rw[Ak (zAu (zAF (zAo q) N))];exact n
 there:=λb u q y=>[u,k b u q]
 tups:=λb L q=>by rw[Ak (Ai q C)];exact q
 frzs:=λb u L q=>by rw[Ak (Ai q C)];exact q
 tbls:=λb P q=>[#v[],by rw[Ak (Ai q C),q];simp]
def Un.write(L:YX (H x))(N:e=x\/H e=g (.own x))(k:∀b u,b≠e->h.get? b=g u->h'.get? b=g u)(S:∃u,h'.get? e=g u):Un fs ex H (upd H x o) h h':=by
 let U:∀b,H b=M->b≠x:=λb n z=>by subst z;rw[n]at L;exact L
 let C:∀b,H b=M->b≠e:=λb n z=>by
  subst z;rcases N with r|r
  .exact U b n r
  .rw[n]at r;cases r
 let P:∀b u,H b=g u->¬YX (g u)->b≠x:=λb u q R z=>by subst z;rw[q]at L;exact R L
 refine[λb u q n y y=>k b u (C b n) q,λb u q n y y=>[u.slots,k b u (C b n) q],λb u q n y=>by rw[Ak (U b n)];exact n,λb u q y=>?_,
  λb Q q=>by rw[Ak (P b _ q λz=>z)];exact q,λb u Q q=>by rw[Ak (P b _ q λz=>z)];exact q,λb W q=>[#v[],by rw[Ak (P b _ q λz=>z),q];simp]]
 by_cases F:b=e
 .subst F;exact S
 .exact[u,k b u F q]
end
def dA(h:mX)(H:Hp):List T:=(zAU h.objs.size).filter λa=>(H a).isSome
def E7(h:mX)(H:Hp):mX:=PySem.W.hideAll h (dA h H)
def GD(h:mX)(H:Hp):(E7 h H).objs.size=h.objs.size:=PySem.W.hideAll_size _ _
def MW{h:mX}{H:Hp}{b:T}{o:oH}(e:h.get? b=g o)(n:H b=M):(E7 h H).get? b=g o:=
 PySem.W.hideAll_get _ e λz=>by
  let q:(H b).isSome=B:=(List.mem_filter.mp z).2;rw[n]at q;simp at q
def QY{h:mX}{H:Hp}{b:T}{o:oH}(e:(E7 h H).get? b=g o):h.get? b=g o/\H b=M:=by
 let F:h.get? b=g o:=PySem.W.of_hideAll (dA h H) e;refine[F,?_];cases q:H b with
 |none=>rfl
 |some x=>
  let L:b∈dA h H:=List.mem_filter.mpr [zBs.mpr (zAo F),by simp[q]];let z:(E7 h H).get? b=M:=PySem.W.hideAll_none (dA h H) L;rw[z]at e;cases e
structure Mod(K:zAa)(mg:J->Option lV)(base:mX):Prop where
 kin:K.In base
 glob:base.Ns zCB mg
 blt:∃mb,base.Ns builtinsNs mb/\∀x:J,x ≠ "__name__"->mb x=zCz x
 nolimit:base.NoLimit
structure Cx where
 prog:mF
 w:mR
 K:zAa
 mg:J->Option lV
 base:mX
 A:mZ
 N:List J
 s₀:lZ
 H₀:Hp
 env:sB
 outer:List sB
 stack:List sB
 ex:List T
 fn:J->Bool
 calm:Bool
 pn:List (T×oH)
 xe:lV->lZ->Prop
def Vz(l:List sB):List T:=l.filterMap (·.frame)
abbrev Cx.fs(X:Cx):List T:=Vz X.outer
def eB(C:rJ)(x:J):Prop:=C.names.lookup x=g .local\/C.names.lookup x=g .cell\/C.names.lookup x=g .free
def VR(C:rJ)(x:J):Prop:=C.names.lookup x=g .local\/C.names.lookup x=g .cell
def gM(env:sB)(h:mX)(m:J->Option lV)(x:J)(u:lV):Prop:=
 (env.kindOf x=g .local/\m x=g u)\/((env.kindOf x=g .cell\/env.kindOf x=g .free)/\∃c,env.cells.lookup x=g c/\h.IsCell c (g u))
structure Cx.Ok(X:Cx):Prop where
 mod:Mod X.K X.mg X.base
 kind:X.env.scope.kind=.function
 glob:X.env.globals=zCB
 blt:X.env.builtins=builtinsNs
 above:X.s₀.heap.objs.size<=X.env.locals
 inj:∀x y c,X.env.cells.lookup x=g c->X.env.cells.lookup y=g c->x=y
 has:∀x,(X.env.kindOf x=g .cell\/X.env.kindOf x=g .free)->∃c,X.env.cells.lookup x=g c
 cab:∀x c,X.fn x=B->X.env.cells.lookup x=g c->X.s₀.heap.objs.size<=c
 hd:X.calm=B->X.A.handled=M
 frames:X.A.frames=g X.stack
 stk:X.stack=X.outer\/(X.stack=X.env::X.outer/\X.env.frame=g X.env.locals)
 exf:∀b∈X.ex,b≠X.env.locals/\∀x c,X.env.cells.lookup x=g c->c≠b
 bs:∀b o,X.base.get? b=g o->X.s₀.heap.get? b=g o/\X.H₀ b=M
 bsz:X.base.objs.size<=X.s₀.heap.objs.size
 noex:∀b o,X.base.get? b=g o->b∉X.ex
 exfs:∀b∈X.ex,b∉X.fs
 funs:X.s₀.heap.FunFrames X.base X.outer
 frf:∀b∈X.fs,X.H₀ b=M
structure Am(X:Cx)(pins:List (T×oH))(σ:List (Option V))(H:Hp)(s:lZ):Prop where
 ok:X.Ok
 os:s.os=X.s₀.os
 bare:qJ s.gens
 base:Un X.fs X.ex X.H₀ H X.s₀.heap s.heap
 loc:∃m,s.heap.Ns X.env.locals m/\∀(i:Nat) (x:J) (v:V),X.N[i]?=g x->σ[i]?=g (g v)->eB X.env.scope x->∃u,Bq v u/\gM X.env s.heap m x u
 cell:∀x c,X.env.cells.lookup x=g c->∃v,s.heap.IsCell c v
 free:H X.env.locals=M
 freeC:∀x c,X.env.cells.lookup x=g c->H c=M
 pin:∀p∈X.pn++pins,s.heap.get? p.1=g p.2/\H p.1=M/\p.1≠X.env.locals/\p.1∉X.fs/\∀v,p.2.data≠.cell v
 hok:jR X.prog X.w H s.heap
 len:σ.length=X.N.length
section
variable {X:Cx} {pins:List (T×oH)} {σ:List (Option V)} {H H':Hp} {s:lZ} {h':mX}
def Cx.Ok.nofr(C:X.Ok){b:T}{o:oH}(e:X.base.get? b=g o):b∉X.fs:=λz=>by
 let:=(C.funs.mem z).1;rw[e]at this;cases this
def Am.bs(C:Am X pins σ H s):∀b o,X.base.get? b=g o->s.heap.get? b=g o/\H b=M:=λb o e=>
 [C.base.keep b o (C.ok.bs b o e).1 (C.ok.bs b o e).2 (C.ok.nofr e) (C.ok.noex b o e),C.base.free b o (C.ok.bs b o e).1 (C.ok.bs b o e).2 (C.ok.noex b o e)]
def Am.bk(C:Am X pins σ H s):∀b o,X.base.get? b=g o->s.heap.get? b=g o:=λb o e=>(C.bs b o e).1
def Am.mod(C:Am X pins σ H s):Mod X.K X.mg X.base:=C.ok.mod
def Am.kIn(C:Am X pins σ H s):X.K.In s.heap:=C.ok.mod.kin.keeps C.bk
def Am.lt(C:Am X pins σ H s):X.env.locals<⇑s:=let [_,L,_]:=C.loc;L.lt
def Am.sz(C:Am X pins σ H s):X.s₀.heap.objs.size<=⇑s:=zAG C.ok.above (uG C.lt)
def Am.nofs(C:Am X pins σ H s){a:T}(h:⇑s<=a):a∉X.fs:=λF=>by
 let[_,o,z,_]:=C.ok.funs.mem F;exact mC (zAF (zAo z) (zAG C.sz h)) (zBN _)
def Am.cne(C:Am X pins σ H s):∀x c,X.env.cells.lookup x=g c->c≠X.env.locals:=λx c e z=>by
 let[v,o,S,N]:=C.cell x c e;let[m,[Q,P,U,L,F,_],_]:=C.loc;rw[z,L]at S;cases S;rw[F]at N;cases N
def Am.funs(P:Am X pins σ H s):s.heap.FunFrames X.base X.outer:=by
 let R:∀(l:List sB),(∀b∈Vz l,b∈X.fs)->X.s₀.heap.FunFrames X.base l->s.heap.FunFrames X.base l:=by
  intro l
  induction l with
  |nil=>intro _ _;trivial
  |cons W r A=>
   intro U E;let[d,[L,o,F,c,N,C],K]:=E;let S:L∈X.fs:=U L (by unfold Vz;rw[zBt,F];exact zAl);let[f,e]:=P.base.slot L o N (P.ok.frf L S) S λz=>P.ok.exfs L z S;exact[d,[L,_,F,c,e,C],A (λb Q=>U b (by unfold Vz;rw[zBt,F];exact zAh _ Q)) K]
 exact R X.outer (λx Q=>Q) P.ok.funs
def Am.stack(C:Am X pins σ H s):s.heap.FunFrames X.base X.stack:=by
 rcases C.ok.stk with e|⟨e,z⟩
 .rw[e];exact C.funs
 .rw[e]
  let[m,L,_]:=C.loc;refine .cons (by rw[C.ok.kind];decide) z L ?_ C.funs;exact zBy (zAG C.ok.bsz C.ok.above)
def Am.stkSub(C:Am X pins σ H s):∀b∈Vz X.stack,b∈X.env.locals::X.fs:=λb z=>by
 rcases C.ok.stk with e|⟨e,F⟩
 .rw[e]at z;exact zAh _ z
 .rw[e]at z
  unfold Vz at z;rw[zBt,F]at z;exact z
def Am.stkFree(C:Am X pins σ H s):∀b∈Vz X.stack,H b=M:=λb F=>by
 rcases zAg.mp (C.stkSub b F)with e|F
 .rw[e];exact C.free
 .let[_,o,L,_]:=C.ok.funs.mem F
  exact C.base.free b o L (C.ok.frf b F) λz=>C.ok.exfs b z F
def Am.step{g':Array tM}{t':Nat}{d':Drawn}{ch:List T}(Q:Am X pins σ H s)
  (L:∀b∈ch,(b∈X.ex\/X.s₀.heap.objs.size<=b)/\b≠X.env.locals/\(∀x c,X.env.cells.lookup x=g c->c≠b)/\∀p∈X.pn++pins,p.1≠b)
  (W:∀b o,b≠X.env.locals->b∉X.fs->b∉ch->s.heap.get? b=g o->H b=M->h'.get? b=g o)
  (P:∀b o,b≠X.env.locals->b∈X.fs->b∉ch->s.heap.get? b=g o->H b=M->∃h,h'.get? b=g { o with slots:=h }) (R:∀b o,b∉ch->s.heap.get? b=g o->H b=M->H' b=M)
  (A:∀b o,b∉ch->s.heap.get? b=g o->∃w,h'.get? b=g w)
  (t:∀b xs,H b=g (.tup xs)->H' b=g (.tup xs)) (f:∀b o u,H b=g (.frz o u)->H' b=g (.frz o u)) (j:∀b ps,H b=g (.tbl ps)->∃aa,H' b=g (.tbl (ps++aa)))
  (ns:∀m,s.heap.Ns X.env.locals m->h'.Ns X.env.locals m) (a0:jR X.prog X.w H' h') (hg:qJ g') :
  Am X pins σ H' { s with heap:=h',gens:=g',drawn:=d',toks:=t' }:=by
 let ab:∀b o,X.s₀.heap.get? b=g o->b≠X.env.locals:=λb o e=>zAu (zAF (zAo e) Q.ok.above);let U:∀b o,X.s₀.heap.get? b=g o->b∉X.ex->b∉ch:=λb o e F E=>by
  rcases (L b E).1 with z|z
  .exact F z
  .exact mC (zAF (zAo e) z) (zBN _)
 let S:∀x c,X.env.cells.lookup x=g c->∀v,s.heap.IsCell c v->h'.IsCell c v:=λx c e v ⟨o,K,a⟩=>by
  let N:c∉ch:=λz=>(L c z).2.2.1 x c e I;by_cases hc:c∈X.fs
  .let[h,q]:=P c o (Q.cne x c e) hc N K (Q.freeC x c e)
   exact[_,q,a]
  .exact[o,W c o (Q.cne x c e) hc N K (Q.freeC x c e),a]
 refine[Q.ok,Q.os,hg,[λb o e n E F=>?_,λb o e n E F=>?_,λb o e n F=>?_,λb o e F=>?_,λb xs e=>t b xs (Q.base.tups b xs e),λb o xs e=>f b o xs (Q.base.frzs b o xs e),λb ps e=>?_],?_,λx c e=>?_,?_,λx c e=>?_,λp hp=>?_,a0,Q.len]
 .exact W b o (ab b o e) E (U b o e F) (Q.base.keep b o e n E F) (Q.base.free b o e n F)
 .let[h,C]:=Q.base.slot b o e n E F
  let[ac,y]:=P b _ (ab b o e) E (U b o e F) C (Q.base.free b o e n F);exact[ac,y]
 .let[w,C]:=Q.base.there b o e F
  exact R b w (U b o e F) C (Q.base.free b o e n F)
 .let[w,C]:=Q.base.there b o e F
  exact A b w (U b o e F) C
 .let[m1,C]:=Q.base.tbls b ps e
  let[m2,y]:=j b _ C;exact[m1++m2,by rw[y,sW]]
 .let[m,hn,hl]:=Q.loc
  refine[m,ns m hn,λi x v C y e3=>?_];let[u,r,l]:=hl i x v C y e3;refine[u,r,?_];rcases l with l|⟨k,c,e,z⟩
  .exact .inl l
  .exact .inr [k,c,e,S x c e _ z]
 .let[v,z]:=Q.cell x c e
  exact[v,S x c e v z]
 .let[m,[o,_,_,K,_],_]:=Q.loc
  exact R _ o (λz=>(L _ z).2.1 I) K Q.free
 .let[v,o,K,a]:=Q.cell x c e
  exact R c o (λz=>(L c z).2.2.1 x c e I) K (Q.freeC x c e)
 .let[e,n,ne,nf,d]:=Q.pin p hp
  let N:p.1∉ch:=λz=>(L p.1 z).2.2.2 p hp I;exact[W p.1 p.2 ne nf N e n,R p.1 p.2 N e n,ne,nf,d]
def Am.un{t':Nat}(P:Am X pins σ H s)(u:Un X.fs [] H H' s.heap h')(U:jR X.prog X.w H' h'):Am X pins σ H' { s with heap:=h',toks:=t' }:=by
 let[m,[o,d,A,C,r],_]:=id P.loc;let[E,R]:=u.any C P.free zZ;exact P.step (g':=s.gens) (d':=s.drawn) (ch:=[]) (λx z=>nomatch z) (λb o x Q x e n=>u.keep b o e n Q zZ) (λb o x Q x e n=>u.slot b o e n Q zZ) (λb o x e n=>u.free b o e n zZ) (λb o x e=>u.there b o e zZ) u.tups u.frzs u.tbls (λc N=>by
  let[K,S,L,F,W]:=N;rw[C]at F;cases F;exact[_,S,L,R,W]) U P.bare
def Am.call{g':Array tM}{t':Nat}{d':Drawn}{ch:List T}(P:Am X pins σ H s)(u:Un (Vz X.stack) ch H H' s.heap h')(N:jR X.prog X.w H' h')(W:qJ g')
  (Q:∀b∈ch,(b∈X.ex\/X.s₀.heap.objs.size<=b)/\b≠X.env.locals/\(∀x c,X.env.cells.lookup x=g c->c≠b)/\∀p∈X.pn++pins,p.1≠b) :
  Am X pins σ H' { s with heap:=h',gens:=g',drawn:=d',toks:=t' }:=by
 let[m,[o,l,d,R,r],_]:=id P.loc;let[f,U]:=u.any R P.free λz=>(Q _ z).2.1 I;exact P.step (ch:=ch) Q (λb o U E F e n=>u.keep b o e n (λz=>(zAg.mp (P.stkSub b z)).elim U E) F) (λb o y y F e n=>u.any e n F) (λb o F e n=>u.free b o e n F) (λb o F e=>u.there b o e F) u.tups u.frzs u.tbls (λk K=>by
  let[j,C,S,L,A]:=K;rw[R]at L;cases L;exact[_,C,S,U,A]) N W
def Am.turned{t':Nat}{it:T}(P:Am X pins σ H s)(k:∀b o,b≠it->s.heap.get? b=g o->h'.get? b=g o)(W:H it=M)(Q:it≠X.env.locals)
  (K:it∈X.ex\/X.s₀.heap.objs.size<=it) (N:∀x c,X.env.cells.lookup x=g c->c≠it) (R:∀p∈X.pn++pins,p.1≠it):Am X pins σ H { s with heap:=h',toks:=t' }:=by
 let L:∀b u,H b=g u->b≠it:=λb u e z=>by rw[z,W]at e;cases e
 refine P.step (g':=s.gens) (d':=s.drawn) (ch:=#[it]) (λb E=>?_) (λb o y y F e y=>k b o (λz=>F (by simp[z])) e) (λb o y y F e y=>[o.slots,k b o (λz=>F (by simp[z])) e]) (λy y y y n=>n)
  (λb o F e=>[o,k b o (λz=>F (by simp[z])) e]) (λy y e=>e) (λy y y e=>e) (λb d e=>[#v[],by rw[e];simp]) (λm S=>?_) (λb u e=>?_) P.bare
 .have e:b=it:=by simpa using E
  subst e;exact[K,Q,N,R]
 .let[o,A,C,U,r]:=S
  exact[o,A,C,k _ o (oC Q) U,r]
 .refine(P.hok b u e).stay (λc v F q=>k c v ?_ q) (λy q=>q) λy y q=>q
  rcases F with z|z
  .rw[z];exact L b u e
  .exact L c _ z
def Am.tok(C:Am X pins σ H s)(t:Nat):Am X pins σ H { s with toks:=t }:=C.un (h':=s.heap) (t':=t) Un.refl C.hok
def Am.kept{t':Nat}(C:Am X pins σ H s)(k:∀b u,s.heap.get? b=g u->h'.get? b=g u):Am X pins σ H { s with heap:=h',toks:=t' }:=C.un (Un.kept k) (C.hok.kept k)
def Am.laid{a:T}{o:HO}{t':Nat}(C:Am X pins σ H s)(k:∀b u,s.heap.get? b=g u->h'.get? b=g u)(N:⇑s<=a)(L:Cg X.prog X.w (upd H a o) h' a o) :
  Am X pins σ (upd H a o) { s with heap:=h',toks:=t' }:=C.un (Un.laid k N (C.hok.fresh N)) (C.hok.laid k N L)
def Am.write{x e:T}{o:HO}{t':Nat}(C:Am X pins σ H s)(L:YX (H x))(F:e=x\/H e=g (.own x))(k:∀b u,b≠e->s.heap.get? b=g u->h'.get? b=g u)(z:∃u,h'.get? e=g u)
  (N:Cg X.prog X.w (upd H x o) h' x o):Am X pins σ (upd H x o) { s with heap:=h',toks:=t' }:=C.un (Un.write L F k z) (C.hok.write L F k z N)
def Am.pins_of(C:Am X pins σ H s)(h:∀p∈pins',s.heap.get? p.1=g p.2/\H p.1=M/\p.1≠X.env.locals/\p.1∉X.fs/\∀v,p.2.data≠.cell v):Am X pins' σ H s:=
 [C.ok,C.os,C.bare,C.base,C.loc,C.cell,C.free,C.freeC,λp L=>(zAE.mp L).elim (λz=>C.pin p (zBi _ z)) (h p),C.hok,C.len]
def R3{N:List J}(F:N.Nodup){i j:Nat}{x:J}(a:N[i]?=g x)(b:N[j]?=g x):i=j:=by
 let[P,z]:=zAs.mp a;let[C,L]:=zAs.mp b;exact(y9 F).mp (z.trans L.symm)
def B7{M:u4}{A:mZ}{E:lV->lZ->Prop}{i:Nat}{x:J}{v:V}{u:lV}{Q:Unit->lZ->Prop}(R:Am X pins σ H s)(hN:X.N.Nodup)(t:X.N[i]?=g x)(U:VR X.env.scope x)(r:Bq v u)
  (h:∀s',Am X pins (σ.set i (g v)) H s'->(∃a,zBa a s.heap s'.heap/\(a=X.env.locals\/X.env.cells.lookup x=g a))->Q () s') (hf:X.fn x=B\/X.env.scope.names.lookup x=g .local:=by first|exact .inl I|exact .inr I|assumption):mO M A (storeName X.env x u) Q E s:=by
 let[m,hn,hl]:=id R.loc;let ac:(X.env.scope.kind == .class||(X.env.scope.kind == .module&&X.env.locals != X.env.globals))=lX:=by rw[R.ok.kind];rfl
 let ag:i<σ.length:=by rw[R.len];exact(zAs.mp t).1
 let K:=R.cne;let N:∀{a:T} {h':mX},(∃o,s.heap.get? a=g o/\H a=lW)->zBa a s.heap h'->jR X.prog X.w H h':=λ{a h'} ha F b ob e=>by
  let[_,_,C]:=ha;refine(R.hok b ob e).stay (λc w S q=>(F.2 c ?_).trans q) (λ_ q=>q) λ_ _ q=>q;rintro rfl;rcases S with rfl|S
  .rw[C]at e;cases e
  .rw[C]at S;cases S
 rcases U with W|W
 .refine wpAny_storeName_local W hn (λh' ah F=>?_) ac
  let[oL,_,_,ai,_]:=id hn;refine h _ [R.ok,R.os,R.bare,[λb o e n f U=>?_,λb o e n f U=>?_,R.base.free,λb o e U=>?_,R.base.tups,R.base.frzs,R.base.tbls],[_,ah,λj y v' L P e3=>?_],λy c e=>?_,R.free,R.freeC,λp hp=>?_,N [oL,ai,R.free] F,by simpa using R.len] [_,F,.inl I]
  .exact(F.2 b (zAu (zAF (zAo e) R.ok.above))).trans (R.base.keep b o e n f U)
  .let[sl,L]:=R.base.slot b o e n f U
   exact[sl,(F.2 b (zAu (zAF (zAo e) R.ok.above))).trans L]
  .let[o',L]:=R.base.there b o e U
   exact[o',(F.2 b (zAu (zAF (zAo e) R.ok.above))).trans L]
  .by_cases l:j=i
   .subst l
    rw[t]at L;cases L;rw[wH ag]at P;cases P;exact[u,r,.inl [W,zZ]]
   .rw[xP (oC l)]at P
    let[u',r',q]:=hl j y v' L P e3;refine[u',r',?_];rcases q with ⟨k,e⟩|⟨k,c,e,z⟩
    .refine .inl [k,?_]
     let:y≠x:=λe=>l (R3 hN L (e▸t));simp[this,e]
    .exact .inr [k,c,e,z.sameBut F (K y c e)]
  .let[w,z]:=R.cell y c e
   exact[w,z.sameBut F (K y c e)]
  .let[e,n,ne,nf,d]:=R.pin p hp
   exact[(F.2 p.1 ne).trans e,n,ne,nf,d]
 .have aa:X.fn x=B:=by
   rcases hf with z|z
   .exact z
   .rw[z]at W;cases W
  let[c,S]:=R.ok.has x (.inl W);let[w,z]:=R.cell x c S;refine wpAny_storeName_cell R.ok.kind W S z (λh' ad F=>?_);let[oc,ab,af]:=id z;refine h { s with heap:=h' } [R.ok,R.os,R.bare,[λb o e n f U=>?_,λb o e n f U=>?_,R.base.free,λb o e U=>?_,R.base.tups,R.base.frzs,R.base.tbls],[m,hn.sameBut F (oC (K x c S)),λj y v' L P e3=>?_],λy c' e=>?_,R.free,R.freeC,λp hp=>?_,N [oc,ab,R.freeC x c S] F,by simpa using R.len] [c,F,.inr S]
  .exact(F.2 b (zAu (zAF (zAo e) (R.ok.cab x c aa S)))).trans (R.base.keep b o e n f U)
  .let[sl,L]:=R.base.slot b o e n f U
   exact[sl,(F.2 b (zAu (zAF (zAo e) (R.ok.cab x c aa S)))).trans L]
  .let[o',L]:=R.base.there b o e U
   exact[o',(F.2 b (zAu (zAF (zAo e) (R.ok.cab x c aa S)))).trans L]
  .by_cases l:j=i
   .subst l
    rw[t]at L;cases L;rw[wH ag]at P;cases P;exact[u,r,.inr [.inl W,c,S,ad]]
   .rw[xP (oC l)]at P
    let[u',r',q]:=hl j y v' L P e3;refine[u',r',?_];rcases q with q|⟨k,c',e,z'⟩
    .exact .inl q
    .refine .inr [k,c',e,z'.sameBut F ?_]
     rintro rfl;exact l (R3 hN L (R.ok.inj _ _ _ e S▸t))
  .by_cases ae:c'=c
   .subst ae;exact[_,ad]
   .let[w2,z2]:=R.cell y c' e
    exact[w2,z2.sameBut F ae]
  .let[e,n,ne,nf,d]:=R.pin p hp
   refine[(F.2 p.1 ?_).trans e,n,ne,nf,d];intro q;rw[q,ab]at e;let q':oc=p.2:=mI e;exact d w (by rw[<- q'];exact af)
def Xp{M:u4}{A:mZ}{E:lV->lZ->Prop}{i:Nat}{x:J}{v:V}{u:lV}{Q:Unit->lZ->Prop}(N:Am X pins σ H s)(F:X.N.Nodup)(R:X.N[i]?=g x)(z:VR X.env.scope x)(r:Bq v u)
  (h:∀P,Am X pins (σ.set i (g v)) H P->Q () P) (C:X.fn x=B\/X.env.scope.names.lookup x=g .local:=by first|exact .inl I|exact .inr I|assumption):mO M A (storeName X.env x u) Q E s:=
 B7 N F R z r (λP L y=>h P L) C
def Am.call'{ch:List T}(N:Am X pins σ H s)(C:d.os=s.os)(u:Un (Vz X.stack) ch H H' s.heap d.heap)(F:jR X.prog X.w H' d.heap)(L:qJ d.gens)
  (z:∀b∈ch,(b∈X.ex\/X.s₀.heap.objs.size<=b)/\b≠X.env.locals/\(∀x c,X.env.cells.lookup x=g c->c≠b)/\∀p∈X.pn++pins,p.1≠b):Am X pins σ H' d:=by
 let[h',g',d',t',P]:=d;let e:P=s.os:=C;subst e;exact N.call (g':=g') (t':=t') (d':=d') u F L z
end
abbrev XK:=lV->Option T->Hp->Prop
abbrev St:=List (Option V)
abbrev VK:=V->Hp->Prop
abbrev TE:=St->Hp->VK->Prop
abbrev TT:=St->Hp->(Bool->Hp->Prop)->Prop
abbrev TA:=St->Hp->(List V->Hp->Prop)->Prop
structure Uh where
 nx:St->Hp->Prop
 rt:VK
 bk:St->Hp->Prop:=λ_ _=>False
 ct:St->Hp->Prop:=λ_ _=>False
abbrev TS:=Uh->St->Hp->Prop
def EP(X:Cx)(pins:List (T×oH))(σ:St)(Q:VK)(u:lV)(H:lZ):Prop:=∃v C,Am X pins σ C H/\Bq v u/\Q v C
def TP(X:Cx)(pins:List (T×oH))(σ:St)(Q:Bool->Hp->Prop)(b:Bool)(H:lZ):Prop:=∃C,Am X pins σ C H/\Q b C
def AP(X:Cx)(pins:List (T×oH))(σ:St)(Q:List V->Hp->Prop)(us:List lV)(L:lZ):Prop:=∃C H,Am X pins σ H L/\Bc C us/\Q C H
def SP(X:Cx)(pins:List (T×oH))(D:Uh)(f:Flow)(L:lZ):Prop:=
 match f with
 |.next=>∃C H,Am X pins C H L/\D.nx C H
 |.brk=>∃C H,Am X pins C H L/\D.bk C H
 |.cont=>∃C H,Am X pins C H L/\D.ct C H
 |.ret u=>∃v C H,Am X pins C H L/\Bq v u/\D.rt v H
def PE(X:Cx)(e:nY)(t:TE):Prop:=
 ∀(C:List (T×oH)) (s:lZ) (L:St) (H:Hp) (Q:VK),Am X C L H s->t L H Q->mO (mP X.prog X.w) X.A (nU e X.env) (EP X C L Q) X.xe s
def PT(X:Cx)(e:nY)(t:TT):Prop:=
 ∀(C:List (T×oH)) (s:lZ) (L:St) (H:Hp) (Q:Bool->Hp->Prop),Am X C L H s->t L H Q->mO (mP X.prog X.w) X.A (yQ e X.env (nU e X.env)) (TP X C L Q) X.xe s
def PW(X:Cx)(e:nY)(t:TT):Prop:=
 ∀(L:vH lV) (C:List (T×oH)) (s:lZ) (N:St) (H:Hp) (Q:Bool->Hp->Prop),Am X C N H s->t N H Q->mO (mP X.prog X.w) X.A (yQ e X.env L) (TP X C N Q) X.xe s
def PW.pt{X:Cx}{e:nY}{t:TT}(h:PW X e t):PT X e t:=h _
def PA(X:Cx)(es:List nY)(t:TA):Prop:=
 ∀(N:uL) (C:List (T×oH)) (s:lZ) (L:St) (H:Hp) (Q:List V->Hp->Prop),Am X C L H s->t L H Q->mO (mP X.prog X.w) X.A (spliced (oB N (mH es X.env))) (AP X C L Q) X.xe s
def PS(X:Cx)(st:nZ)(t:TS):Prop:=
 ∀(C:List (T×oH)) (s:lZ) (L:St) (H:Hp) (D:Uh),Am X C L H s->t D L H->mO (mP X.prog X.w) X.A (exec st X.env) (SP X C D) X.xe s
def PSs(X:Cx)(st:List nZ)(t:TS):Prop:=
 ∀(C:List (T×oH)) (s:lZ) (L:St) (H:Hp) (D:Uh),Am X C L H s->t D L H->mO (mP X.prog X.w) X.A (execs st X.env) (SP X C D) X.xe s
def Er{C:Type}{t}{Q Q':C->lZ->Prop}{M}{A}{E:lV->lZ->Prop}{s}(h:mO M A t Q E s)(z:∀a s,Q a s->Q' a s):mO M A t Q' E s:=nV h z λy y x=>x
section
variable {X:Cx}
inductive aU(i:Nat)(σ:St)(H:Hp)(Q:VK):Prop
 |mk (v:V) (e:σ[i]?=g (g v)) (q:Q v H)
def tC(v:V):TE:=λx H Q=>Q v H
def VL{i:Nat}{x:J}(C:X.N[i]?=g x)(N:eB X.env.scope x)(R:(x==("__debug__" : J))=lX:=by lk)(A:(x==("__classdict__" : J))=lX:=by lk):PE X (.Name x b) (aU i):=by
 intro W s K H Q P h;let[v,e,h]:=h;let[m,d,E]:=P.loc;let[u,r,l]:=E i x v C e N;let L:EP X W K Q u s:=[v,H,P,r,h];rcases l with ⟨F,U⟩|⟨F,c,S,z⟩
 .exact wpAny_Name (wpAny_loadName_local P.ok.kind F d U L) R
 .rcases F with F|F
  .exact wpAny_Name (wpAny_loadName_cell P.ok.kind F S z L) R
  .exact wpAny_Name (wpAny_loadName_free P.ok.kind F S z L A) R
def Ah{i j L}:PE X (.Constant (.int i) j L) (tC (.int i)):=λx x x H x C h=>wpAny_Constant_int [.int i,H,C.tok _,[_,I],h]
def Hw{b j L}:PE X (.Constant (.bool b) j L) (tC (.bl b)):=λx x x H x C h=>Constant_bool [.bl b,H,C,I,h]
def Kf{j L}:PE X (.Constant .none j L) (tC .non):=λx x x H x C h=>Constant_none [.non,H,C,I,h]
def Aj{x j L}:PE X (.Constant (.str x) j L) (tC (.str x)):=λy y y H y C h=>Calls.Constant_str [.str x,H,C.tok _,[_,I],h]
def Gl(X:Cx)(x:J):Prop:=X.env.kindOf x=g .globalImplicit
def Fz{E:lV->lZ->Prop}{pins:List (T×oH)}{s:lZ}{σ:St}{H:Hp}{x:J}{u:lV}{Q:lV->lZ->Prop}(C:Am X pins σ H s)(F:Gl X x)(L:X.mg x=g u)(h:Q u s)
  (z:(x==("__debug__" : J))=lX:=by lk):mO (mP X.prog X.w) X.A (nU (.Name x b) X.env) Q E s:=
 vB C.ok.kind F (Calls.loadGlobal_global (by rw[C.ok.glob];exact C.mod.glob.keeps C.bk) L h) z
def Pe{E:lV->lZ->Prop}{pins:List (T×oH)}{s:lZ}{σ:St}{H:Hp}{x:J}{u:lV}{Q:lV->lZ->Prop}(C:Am X pins σ H s)(N:Gl X x)(F:X.mg x=M)(L:zCz x=g u)(h:Q u s)
  (R:x ≠ "__name__":=by lk) (P:(x==("__debug__" : J))=lX:=by lk):mO (mP X.prog X.w) X.A (nU (.Name x b) X.env) Q E s:=by
 let[S,U,z]:=C.mod.blt;exact vB C.ok.kind N (Calls.loadGlobal_builtin (by rw[C.ok.glob];exact C.mod.glob.keeps C.bk) F (by rw[C.ok.blt];exact U.keeps C.bk) ((z x R).trans L) h) P
def F4{x:J}{v:V}{u:lV}(F:Gl X x)(L:X.mg x=g u)(r:Bq v u)(z:(x==("__debug__" : J))=lX:=by lk):PE X (.Name x b) (tC v):=
 λy y y H y C h=>Fz C F L [v,H,C,r,h] z
def RP{x:J}{v:V}{u:lV}(z:Gl X x)(L:X.mg x=M)(F:zCz x=g u)(r:Bq v u)(P:x ≠ "__name__":=by lk)(N:(x==("__debug__" : J))=lX:=by lk):PE X (.Name x b) (tC v):=
 λy y y H y C h=>Pe C z L F [v,H,C,r,h] P N
variable {a b:nY} {ta tb:TE} {pos:uL}
inductive JB(x:V)(H:Hp)(Q:Bool->Hp->Prop):Prop
 |mk (c:Bool) (e:x=.bl c) (q:Q c H)
def tB(t:TE):TT:=λC H Q=>t C H λx L=>JB x L Q
def Eb{e}{t}(h:PE X e t)(F:∀z,yQ e X.env z=(do let v <- z;qP e.pos;pC #[v] (truthy v)):=by intro _;rfl):PT X e (tB t):=by
 intro R s A H Q N U;refine isTrue_plain (Er (h R s A H _ N U) λv C ⟨x,W,P,L,S⟩=>?_) (F _);let[d,rfl,q]:=S;cases L;exact pJ [W,P,q]
variable {tA tB':TT} {rest:List nY}
def fV(t u:TT):TT:=λC H Q=>t C H λc L=>if c=B then u C L Q else Q lX L
def iV(t u:TT):TT:=λC H Q=>t C H λc L=>if c=B then Q B L else u C L Q
def dW(t:TT):TT:=λC H Q=>t C H λc L=>Q (!c) L
def Py(z:PT X a tA):PW X (.BoolOp .And #[a] pos) tA:=by
 intro L N s P H Q C h;refine isTrue_and (Er (z N s P H Q C h) λc F e=>?_);cases c with
 |true=>exact isTrue_and_nil e
 |false=>exact e
def Gv(z:PT X a tA):PW X (.BoolOp .Or #[a] pos) tA:=by
 intro L N s P H Q C h;refine isTrue_or (Er (z N s P H Q C h) λc F e=>?_);cases c with
 |false=>exact isTrue_or_nil e
 |true=>exact e
def Sa(L:PT X a tA)(N:PW X (.BoolOp .And (b::rest) pos) tB'):PW X (.BoolOp .And (a::b::rest) pos) (fV tA tB'):=by
 intro S P s R H Q C h;refine isTrue_and (Er (L P s R H _ C h) λc U ⟨W,F,z⟩=>?_);cases c with
 |true=>exact N S P U R W Q F z
 |false=>exact[W,F,z]
def Jg(L:PT X a tA)(N:PW X (.BoolOp .Or (b::rest) pos) tB'):PW X (.BoolOp .Or (a::b::rest) pos) (iV tA tB'):=by
 intro S P s R H Q C h;refine isTrue_or (Er (L P s R H _ C h) λc U ⟨W,F,z⟩=>?_);cases c with
 |true=>exact[W,F,z]
 |false=>exact N S P U R W Q F z
def Et(z:PT X a tA):PT X (.UnaryOp .Not a pos) (dW tA):=by
 intro L s N H Q C h;exact isTrue_not (z L s N H (λc P=>Q (!c) P) C h)
def ZN(ta tb:TE):TE:=λL H Q=>ta L H λx C=>JB x C λc C=>if c=B then tb L C Q else Q (.bl lX) C
def bW(ta:TE):TE:=λL H Q=>ta L H λx C=>JB x C λc C=>Q (.bl (!c)) C
def Ye{z}{t:TE}(h:PE X a t):PE X (.BoolOp z #[a] pos) t:=λL s N H Q C F=>BoolOp_one (h L s N H Q C F)
def Yh(L:PE X a ta)(S:PE X (.BoolOp .And (b::rest) pos) tb):PE X (.BoolOp .And (a::b::rest) pos) (ZN ta tb):=by
 intro R s A H Q N h;refine BoolOp_and (Er (L R s A H _ N h) λv C U=>?_);let[x,W,F,P,z]:=U;let[c,rfl,z]:=z;cases P;refine pJ ?_;cases c with
 |true=>exact S R C A W Q F z
 |false=>exact[.bl lX,W,F,I,z]
def XA(F:PE X a ta):PE X (.UnaryOp .Not a pos) (bW ta):=by
 intro P s W H Q C h;refine UnaryOp_ (Er (F P s W H _ C h) λv U S=>?_);let[x,R,N,L,z]:=S;let[c,rfl,z]:=z;cases L;exact not_of (pJ [.bl (!c),R,N,I,z])
def iT(t:TT)(ta tb:TE):TE:=λC H Q=>t C H λc L=>if c=B then ta C L Q else tb C L Q
def Iz{c}(U:PT X c tA)(N:PE X a ta)(S:PE X b tb):PE X (.IfExp c a b pos) (iT tA ta tb):=by
 intro P s R H Q C h;refine wpAny_IfExp (Er (U P s R H _ C h) λd L ⟨W,z,F⟩=>?_);cases d with
 |true=>exact N P L R W Q z F
 |false=>exact S P L R W Q z F
end
def Al(K:zAa)(H:Hp)(a:T)(xs:List V):Prop:=
 Rd H a (.lst xs) \/
  ∃(o:oH) (C:Array lV) (n:Nat),K.lookup a=g o/\o.cls=.type "list"/\o.dict=M/\o.data=.seq C n/\C.size<=sizeLine/\Bc xs C.toList
def Da(K:zAa)(H:Hp)(a:T)(xs:List V):Prop:=
 Rd H a (.tup xs) \/
  ∃(o:oH) (C:Array lV) (n:Nat),K.lookup a=g o/\o.cls=.type "tuple"/\o.data=.seq C n/\C.size<=sizeLine/\Bc xs C.toList
def hG:lV->Option V
 |.none=>g .non
 |.bool b=>g (.bl b)
 |.int i _=>g (.int i)
 |.str x _=>g (.str x)
 |.bytes b _=>g (.byt b)
 |.float b _=>g (.flt b)
 |.ref a=>g (.ref a)
 |.type n=>g (.ty n)
 |_=>M
def Bq.abs{x:V}{u:lV}(r:Bq x u):hG u=g x:=by
 cases x with
 |non=>cases r;rfl
 |bl _=>cases r;rfl
 |int _=>let[t,rfl]:=r;rfl
 |str _=>let[t,rfl]:=r;rfl
 |byt _=>let[t,rfl]:=r;rfl
 |flt _=>let[t,rfl]:=r;rfl
 |ref _=>cases r;rfl
 |ty _=>cases r;rfl
def Bq.inj{x y:V}{u:lV}(r:Bq x u)(q:Bq y u):x=y:=mI (r.abs.symm.trans q.abs)
theorem Bc.inj:∀{xs ys} {us},Bc xs us->Bc ys us->xs=ys
 |_,_,_,.nil,.nil=>rfl
 |_,_,_,.cons r t,.cons z F=>by rw[r.inj z,Bc.inj t F]
section
variable {X:Cx} {pins:List (T×oH)} {σ:St} {H:Hp} {s:lZ} {a:T} {xs ys:List V}
def Al.of{K}(h:H a=g (.lst xs)):Al K H a xs:=.inl (.inl h)
def Da.of{K}(h:H a=g (.tup xs)):Da K H a xs:=.inl (.inl h)
def Am.list(N:Am X pins σ H s)(h:Al X.K H a xs):∃F:List lV,Bc xs F/\PlainL s.heap a F.toArray/\xs.length<=sizeLine:=by
 rcases h with h|⟨o,F,n,S,U,L,P,C,r⟩
 .let[z,F,n,r,e]:=h.ok N.hok
  exact[F,r,[_,n,e,I,I,I],z]
 .refine[F.toList,r,[o,n,N.kIn a o S,U,L,by simpa using P],?_]
  let e:=r.length;simp only[zBd]at e
  lia
def Am.tuple(C:Am X pins σ H s)(h:Da X.K H a xs):∃F:List lV,Bc xs F/\IsTup s.heap a F.toArray/\xs.length<=sizeLine:=by
 rcases h with h|⟨o,F,n,N,S,L,U,r⟩
 .let[z,F,r,p]:=h.ok C.hok
  exact[F,r,p,z]
 .refine[F.toList,r,[o,C.kIn a o N,S,n,by simpa using L],?_]
  let e:=r.length;simp only[zBd]at e
  lia
def Am.list_inj(C:Am X pins σ H s)(h:Al X.K H a xs)(h':Al X.K H a ys):xs=ys:=by
 let[z,r,[o,n,e,_,_,d],_]:=C.list h;let[P,S,[Q,U,F,_,_,L],_]:=C.list h';rw[e]at F;cases F;rw[d]at L;injection L with N _;let:z=P:=by simpa using nI Array.toList N
 subst this;exact r.inj S
def Am.tuple_inj(C:Am X pins σ H s)(h:Da X.K H a xs)(h':Da X.K H a ys):xs=ys:=by
 let[z,r,[o,e,_,n,d],_]:=C.tuple h;let[P,S,[Q,F,_,U,L],_]:=C.tuple h';rw[e]at F;cases F;rw[d]at L;injection L with N _;let:z=P:=by simpa using nI Array.toList N
 subst this;exact r.inj S
end
abbrev Cx.wish(X:Cx)(E:lV->lZ->Prop):Cx:={ X with xe:=E }
abbrev Cx.nox(X:Cx):Cx:=X.wish λx x=>False
def Cx.Ok.wish{X:Cx}(C:X.Ok)(E:lV->lZ->Prop):(X.wish E).Ok:=
 [C.mod,C.kind,C.glob,C.blt,C.above,C.inj,C.has,C.cab,C.hd,C.frames,C.stk,C.exf,C.bs,C.bsz,C.noex,C.exfs,C.funs,C.frf]
def Cx.Ok.unwish{X:Cx}{E:lV->lZ->Prop}(C:(X.wish E).Ok):X.Ok:=
 [C.mod,C.kind,C.glob,C.blt,C.above,C.inj,C.has,C.cab,C.hd,C.frames,C.stk,C.exf,C.bs,C.bsz,C.noex,C.exfs,C.funs,C.frf]
section
variable {X:Cx} {pins:List (T×oH)} {σ:St} {H:Hp} {s:lZ} {E:lV->lZ->Prop}
def Am.wish(C:Am X pins σ H s)(E:lV->lZ->Prop):Am (X.wish E) pins σ H s:=[C.ok.wish E,C.os,C.bare,C.base,C.loc,C.cell,C.free,C.freeC,C.pin,C.hok,C.len]
def Am.unwish(C:Am (X.wish E) pins σ H s):Am X pins σ H s:=[C.ok.unwish,C.os,C.bare,C.base,C.loc,C.cell,C.free,C.freeC,C.pin,C.hok,C.len]
def SP.unwish{D:Uh}{f:Flow}(h:SP (X.wish E) pins D f b):SP X pins D f b:=by
 cases f with
 |next=>let[z,L,C,q]:=h;exact[z,L,C.unwish,q]
 |brk=>let[z,L,C,q]:=h;exact[z,L,C.unwish,q]
 |cont=>let[z,L,C,q]:=h;exact[z,L,C.unwish,q]
 |ret u=>let[v,z,L,C,r,q]:=h;exact[v,z,L,C.unwish,r,q]
def PSs.nox{st}{t}(h:PSs X.nox st t):PSs X st t:=λpins s σ H D C F=>
 nV (h pins s σ H D (C.wish _) F) (λx x q=>q.unwish) λx x z=>nD z
end
section
variable {X:Cx} {st:nZ} {rest:List nZ} {t u:TS} {e:nY} {te:TE} {pos:uL}
def bV:TS:=λD C H=>D.nx C H
def QN(t u:TS):TS:=λD C H=>t { D with nx:=u D } C H
def Be:PSs X [] bV:=λx x L H x C h=>pG [L,H,C,h]
def Ab(R:PS X st t)(N:PSs X rest u):PSs X (st::rest) (QN t u):=by
 intro P s Q H D C h;refine wpAny_execs_cons (Er (R P s Q H { D with nx:=u D } C h) λf L q=>?_);cases f with
 |next=>
  let[z,U,F,q]:=q;exact N P L z U D F q
 |ret v=>exact q
 |brk=>exact q
 |cont=>exact q
def Ac(P:PS X st t):PSs X #[st] t:=by
 intro L s N H D C h;refine wpAny_execs_cons (Er (P L s N H D C h) λf z q=>?_);cases f with
 |next=>exact pG q
 |ret v=>exact q
 |brk=>exact q
 |cont=>exact q
def Am.quiet{pins:List (T×oH)}{σ:St}{H:Hp}{s:lZ}(C:Am X pins σ H s):interactive X.env=lX:=by simp[interactive,C.ok.kind]
def aV(te:TE):TS:=λD C H=>te C H λx L=>D.nx C L
def Ct(F:PE X e te)(z:tO e M pos.line X.env=pure lX:=by rfl):PS X (.Expr e pos) (aV te):=by
 intro P s Q H D C h;exact wpAny_Expr_any (Er (F P s Q H _ C h) λv U ⟨x,R,L,S,N⟩=>[Q,R,L,N]) C.quiet z
def fF(te:TE):TS:=λD C H=>te C H D.rt
def Ay(z:PE X e te):PS X (.Return (g e) pos) (fF te):=by
 intro P s Q H D C h;exact wpAny_Return_some (Er (z P s Q H _ C h) λv S ⟨x,R,L,F,N⟩=>[x,Q,R,L,F,N])
def gO(c:TT)(t u:TS):TS:=λD C H=>c C H λb L=>if b=B then t D C L else u D C L
def Ce{c}{a b}{W}(U:PT X c W)(N:PSs X a t)(S:PSs X b u):PS X (.If c a b pos) (gO W t u):=by
 intro P s Q H D C h;refine wpAny_If (Er (U P s Q H _ C h) λd L ⟨R,z,F⟩=>?_);cases d with
 |true=>exact N P L Q R D z F
 |false=>exact S P L Q R D z F
def YB:TS:=λx x x=>False
def Ju:PS X st YB:=λx x x x x x h=>h.elim
end
abbrev TG:=V->St->Hp->(St->Hp->Prop)->Prop
abbrev YH:=List V->St->Hp->(St->Hp->Prop)->Prop
def PG(X:Cx)(C:nY)(t:TG):Prop:=
 ∀(L:List (T×oH)) (s:lZ) (P:St) (H:Hp) (v:V) (u:lV) (Q:St->Hp->Prop),Am X L P H s->Bq v u->t v P H Q ->
  mO (mP X.prog X.w) X.A (uP C X.env u) (λx U=>∃N R,Am X L N R U/\Q N R) X.xe s
def cG(X:Cx)(ts:List nY)(t:YH):Prop:=
 ∀(C:List (T×oH)) (s:lZ) (N:St) (H:Hp) (P:List V) (R:List lV) (Q:St->Hp->Prop),Am X C N H s->Bc P R->t P N H Q ->
  mO (mP X.prog X.w) X.A (assignInOrder ((qN ts X.env).map (·.2)) R) (λx W=>∃L U,Am X C L U W/\Q L U) X.xe s
abbrev bA:=V->V->V->Hp->(Hp->Prop)->Prop
def ZP(X:Cx)(t:bA):Prop:=
 ∀(C:List (T×oH)) (s:lZ) (L:St) (H:Hp) (o i v:V) (N P u:lV) (Q:Hp->Prop),Am X C L H s->Bq o N->Bq i P->Bq v u->t o i v H Q ->
  mO (mP X.prog X.w) X.A (setItem N P u) (λx U=>∃R,Am X C L R U/\Q R) X.xe s
section
variable {X:Cx} {pos:uL}
def Hy(i:Nat):TG:=λv C H Q=>Q (C.set i (g v)) H
def EG{i:Nat}{x:J}(F:X.N.Nodup)(R:X.N[i]?=g x)(z:VR X.env.scope x)(N:X.fn x=B\/X.env.scope.names.lookup x=g .local:=by first|exact .inl I|exact .inr I|assumption):PG X (.Name x pos) (Hy i):=by
 intro P s W H v u Q C r h;exact wpAny_assign_Name (Xp C F R z r (λU L=>[_,H,L,h]) N)
def KN:YH:=λC L H Q=>C=[]/\Q L H
def Sn(t:TG)(u:YH):YH:=λN L H Q=>∃v r,N=v::r/\t v L H λC P=>u r C P Q
def Km:cG X [] KN:=by
 intro L s N H P R Q C r h;let[e,h]:=h;subst e;cases r;exact assignInOrder_nil [N,H,C,h]
def Dw{e}{es}{t}{u}(b:PG X e t)(F:cG X es u)
  (z:(qN (e::es) X.env).map (·.2)=uP e X.env::(qN es X.env).map (·.2):=by rfl):cG X (e::es) (Sn t u):=by
 intro W s E H f c Q P r h;let[v,d,L,h]:=h;subst L;cases r with
 |cons r K=>
  rw[z];refine assignInOrder_cons (Er (b W s E H _ _ _ P r h) λx N S=>?_);let[C,A,R,U]:=S;exact F W N C A _ _ Q R K U
inductive FR(K:zAa)(n:Nat)(t:YH)(v:V)(σ:St)(H:Hp)(Q:St->Hp->Prop):Prop
 |mk (a:T) (xs:List V) (e:v=.ref a) (h:Da K H a xs) (l:xs.length=n) (q:t xs σ H Q)
def Oc{es:List nY}{k:Nat}{t:YH}{n:Nat}(N:X.calm=B)(h:cG X es t)
  (d:(qN es X.env).length=n:=by rfl) (A:(qN es X.env).findIdx? (·.1)=M:=by rfl):PG X (.Tuple es k pos) (FR X.K n t):=by
 intro W s E H v u Q P r z;let[a,K,R,f,c,z]:=z;subst R;cases r;let[L,F,C,l]:=P.tuple f;refine assign_Tuple_tuple (P.ok.hd N) C (by simp[d,<- c,F.length]) A λj S=>?_;let U:Am X W E H { s with heap:=j }:=P.kept (t':=s.toks) λb o e=>S b o (zAu (zAo e)) e;exact h W _ E H K _ Q U (by simpa using F) z
def hJ(R L:TE)(t:bA):TG:=λv C H Q=>R C H λo N=>L C N λi U=>t o i v U λP=>Q C P
def JJ{o i}{E N}{t}(P:PE X o E)(k:PE X i N)(C:ZP X t)
  (S:∀v,uP (.Subscript o i pos) X.env v=(do
   let z <- pC #[v] (nU o X.env)
   let F <- pC #[v,z] (nU i X.env)
   qP pos
   pC #[v,z,F] (setItem z F v)
   release #[v,z,F] []):=by intro _;rfl):PG X (.Subscript o i pos) (hJ E N t):=by
 intro W s A H v u Q R r h;rw[S];refine zCw (oE (Er (P W s A H _ R h) λz q L=>?_));let[x,b,K,l,m]:=L;refine zCw (oE (Er (k W q A b _ K m) λF w L=>?_));let[y,p,n,U,c]:=L;refine zCw (oP (zCw (oE (Er (C W w A p x y v z F u _ n l U r c) λa e ⟨j,d,f⟩=>?_))));exact wpAny_release [A,j,d,f]
def QH(N:TE)(C:TG):TS:=λD L H=>N L H λx P=>C x L P D.nx
def Xm{A e}{E}{C}(F:PE X e E)(P:PG X A C)(z:swapsWithSole #[A] e pos.line X.env=pure lX:=by rfl)(c:swappedStores #[A] e X.env=pure M:=by rfl)
  (d:(qN #[A] X.env).map (·.2)=#[uP A X.env]:=by rfl):PS X (.Assign #[A] e pos) (QH E C):=by
 intro W s K H D Q h;refine wpAny_Assign_stores (Er (F W s K H _ Q h) λv N S=>?_) z c;let[x,b,R,L,U]:=S;rw[d];exact Er (P W N K b x v _ R L U) λy f q=>q
def C8{i:Nat}{x}{e}{A}{R}(S:X.N.Nodup)(K:X.N[i]?=g x)(U:VR X.env.scope x)(L:PE X e A)(z:tO e (g (.Name x R)) pos.line X.env=pure lX:=by rfl)(d:X.fn x=B\/X.env.scope.names.lookup x=g .local:=by first|exact .inl I|exact .inr I|assumption) :
  PS X (.Assign #[.Name x R] e pos) (QH A (Hy i)):=by
 intro W s b H D P h;refine wpAny_Assign_Name (Er (L W s b H _ P h) λv f N=>?_) z;let[y,E,C,Q,c]:=N;exact Xp C S K U Q (λj F=>[_,E,F,c]) d
def WA(c:TT)(U:TS):TS:=λD C H=>∃W:Nat->St->Hp->Prop,(∃m,W m C H)/\∀m C H,W m C H ->
 c C H λb P=>if b=B then ∃N:St->Hp->Prop,(∀L Q,N L Q->∃R,R<m/\W R L Q)/\U { D with nx:=N,ct:=N,bk:=D.nx } C P else D.nx C P
def U3{c}{E}{r}{u}(q:tP (mP X.prog X.w) X.A X.env X.xe)(i:PT X c r)(hb:PSs X E u):PS X (.While c E [] pos) (WA r u):=by
 intro A s σ H D R h;let[W,[a,e],z]:=h;refine wpAny_While (codeAny_whileLoop (λn m=>∃d p,Am X A d p m/\W n d p) ?_ a [σ,H,R,e]);rintro n s1 ⟨S,l,y,x⟩;refine pF q (Er (i A s1 S l _ y (z n S l x)) λb s2 ⟨t,w,P⟩=>?_);cases b with
 |true=>
  let[N,o,P]:=P;rw[mS I];refine pF q (Er (hb A s2 S t _ w P) λf s3 L=>?_);cases f with
  |next=>
   let[F,K,C,j]:=L;let[Q,U,k]:=o F K j;exact[Q,U,F,K,C,k]
  |cont=>
   let[F,K,C,j]:=L;let[Q,U,k]:=o F K j;exact[Q,U,F,K,C,k]
  |brk=>exact L
  |ret v=>exact L
 |false=>
  rw[mK zAn];exact pG [S,t,w,P]
end
structure It where
 go:Nat->Hp->Prop
 yld:Nat->Hp->V->Hp->Prop
 stop:Nat->Hp->Prop
def Op(X:Cx)(pins:List (T×oH))(H:Hp)(b:T):Prop:=
 H b=M/\b≠X.env.locals/\b∉X.fs/\(b∈X.ex\/X.s₀.heap.objs.size<=b)/\(∀x c,X.env.cells.lookup x=g c->c≠b)/\∀p∈X.pn++pins,p.1≠b
def Am.fpOk{X:Cx}{pins:List (T×oH)}{σ:St}{H H':Hp}{s:lZ}{b:T}(C:Am X pins σ H s)(F:⇑s<=b)(L:H' b=M):Op X pins H' b:=by
 refine[L,zBB (zAF C.lt F),C.nofs F,.inr (zAG C.sz F),λx c e z=>?_,λp N z=>?_]
 .let[v,q]:=C.cell x c e
  exact mC (zAF q.lt (by rw[z];exact F)) (zBN _)
 .exact mC (zAF (zAo (C.pin p N).1) (by rw[z];exact F)) (zBN _)
structure D4(P:mF)(w:mR)(K:zAa)(tg:nY)(m:It)(fp:List T)(it:T)(tn:Nat->mX->Prop):Prop where
 mem:it∈fp
 obj:∀i h,tn i h->∀b∈fp,∃o,h.get? b=g o/\∀v,o.data≠.cell v
 keep:∀i h h',tn i h->(∀b∈fp,∀o,h.get? b=g o->h'.get? b=g o)->tn i h'
 item:∀(X:Cx),X.prog=P->X.w=w->X.K=K->X.calm=B->∀(i:Nat) (pins:List (T×oH)) (s:lZ) (σ:St) (H:Hp) (E:lV->lZ->Prop),Am X pins σ H s->(∀b∈fp,Op X pins H b)->tn i s.heap->m.go i H ->
  mO (mP P w) X.A (pyNext (.ref it)) (λr s1=>∃u,r=g u /\
   mO (mP P w) X.A (sO tg (.ref it) u) (λ_ s2=>∃x H',Am X pins σ H' s2/\Bq x u/\m.yld i H x H'/\tn (i+1) s2.heap/\∀b∈fp,H' b=M) E s1) E s
 done:∀(X:Cx),X.prog=P->X.w=w->X.K=K->X.calm=B->∀(i:Nat) (pins:List (T×oH)) (s:lZ) (σ:St) (H:Hp) (E:lV->lZ->Prop),Am X pins σ H s->(∀b∈fp,Op X pins H b)->tn i s.heap->m.stop i H ->
  mO (mP P w) X.A (pyNext (.ref it)) (λr s1=>r=M/\Am X pins σ H s1) E s
 self:∀(A:mZ) (i:Nat) (s:lZ) (Q:lV->lZ->Prop) (E:lV->lZ->Prop),tn i s.heap->Q (.ref it) s->mO (mP P w) A (pyIter (.ref it)) Q E s
abbrev TI:=St->Hp->(It->Hp->Prop)->Prop
def iH(X:Cx)(pins:List (T×oH))(σ:St)(W:nY)(R:It->Hp->Prop)(H:lV)(Q:lZ):Prop:=
 ∃(P:T) (N:List T) (U:Nat->mX->Prop) (C:It) (L:Hp),H=.ref P/\Am X pins σ L Q/\D4 X.prog X.w X.K W C N P U/\U 0 Q.heap/\(∀b∈N,Op X pins L b)/\R C L
def PI(X:Cx)(U L:nY)(Q:TI):Prop:=
 ∀(C:List (T×oH)) (s:lZ) (N:St) (H:Hp) (R:It->Hp->Prop),Am X C N H s->Q N H R ->
  mO (mP X.prog X.w) X.A (nU L X.env) (λv P=>mO (mP X.prog X.w) X.A (pyIter v) (iH X C N U R) X.xe P) X.xe s
def EM{M}{A}{E:lV->lZ->Prop}{s}{H}{it}{u}{o}{n}{vs}{Q:Unit->lZ->Prop}(R:s.heap.get? it=g o)(L:o.cls=.type n)(N:o.data=.fields vs)
  (P:#["enumerate","zip","dict_itemiterator","dict_reverseitemiterator","odict_iterator","itertools.zip_longest","itertools.pairwise"].contains n=lX) (C:Q () s):mO M A (sO H (.ref it) u) Q E s:=by
 unfold sO;cases H<;>first
  |exact zCx C
  | (cases u<;>first
    |exact zCx C
    | (refine zCw (wpAny_load R ?_)
       rw[L,N];show mO M A (if (#["enumerate","zip","dict_itemiterator","dict_reverseitemiterator","odict_iterator","itertools.zip_longest","itertools.pairwise"].contains n&&vs[0]?==g (pX _))=B then _ else _) Q E s;rw[mK (by intro h;rw[P,Bool.false_and]at h;cases h)];exact zCx C))
def WP(K:zAa)(a:T):It:=
 [λi H=>∃C x,Al K H a C/\C[i]?=g x,λi H x L=>L=H/\∀C,Al K H a C->C[i]?=g x,λi H=>∃C,Al K H a C/\C.length<=i]
def WZ(lo:Int)(n:Nat):It:=[λi y=>i<n,λi H x C=>C=H/\x=.int (lo+i),λi y=>n<=i]
def HG{P}{w}{K}{tg}(a it:T):D4 P w K tg (WP K a) #[it] it (λi h=>h.IsListIter it a i) where
 mem:=by simp
 obj:=λi h W b F=>by
  let e:b=it:=by simpa using F
  subst e;let[o,e,c,d]:=W;exact[o,e,λv z=>by rw[d]at z;cases z]
 keep:=λi h f W k=>W.at λo e=>k it zZ o e
 item:=by
  intro X C r l m i A s n H E R S W q;subst C r l;let[xs,x,N,j]:=q;let[aa,y,p,hz]:=R.list N;let[u,hu,ru]:=y.get j;let[f0,f1,f2,t,Q,U]:=S it zZ;refine wpAny_pyNext_list_item W p.isList (x:=u) (by simpa using hu) λf L sb=>?_;let I1:Am X A n H { s with heap:=f }:=R.turned (t':=s.toks) (λb o F e=>(sb.2 b F).trans e) f0 f1 t Q U;let[o,e,c,d]:=id L;exact[u,I,EM (s:={ s with heap:=f }) e c d Y [x,H,I1,ru,[rfl,λys hy=>by rw[R.list_inj hy N];exact j],L,λb F=>(S b F).1]]
 done:=by
  intro X C r l m i A s n H E R S W q;subst C r l;let[xs,N,j]:=q;let[aa,y,p,hz]:=R.list N;let[f0,f1,f2,t,Q,U]:=S it zZ;let hl:=y.length;exact wpAny_pyNext_list_end (R.ok.hd m) W p.isList (by simp;lia) λf eb=>[I,R.turned (t':=s.toks) (λb o F e=>eb b o F e) f0 f1 t Q U]
 self:=λ_ _ _ _ _ W h=>wpAny_pyIter_listiter W h
def X4{P}{w}{K}{tg}(it:T)(lo:Int)(n:Nat):D4 P w K tg (WZ lo n) #[it] it (λi h=>IsRangeIter h it (lo+(i:Nat)*1) ((n:Int)-(i:Nat)) 1) where
 mem:=by simp
 obj:=λi h A b F=>by
  let e:b=it:=by simpa using F
  subst e;exact[_,A,λv z=>by
   let x:xQ _=uN v:=z;cases x]
 keep:=λi h d A k=>k it zZ _ A
 item:=by
  intro X p l S f i c s q H E R N A j;subst p l S;let[f0,f1,a,Q,C,U]:=N it zZ;let W:=Walks.range (prog:=X.prog) (w:=X.w) (R.ok.hd f) it lo 1 n;refine W.item i s _ _ j A λv d r m L y=>?_;let[t,rfl]:=m;let u:Am X c q H { s with heap:=d,toks:=r }:=R.turned (λb o F e=>y b o (by simpa using F) e) f0 f1 Q C U;refine[_,I,EM (s:={ s with heap:=d,toks:=r }) (n:="range_iterator") L rfl rfl Y [.int (lo+i),H,u,[t,?_],[rfl,rfl],L,λb F=>(N b F).1]];rw[Int.mul_one]
 done:=by
  intro X p l S f i c s q H E R N A j;subst p l S;let[f0,f1,a,Q,C,U]:=N it zZ;exact wpAny_pyNext_range_end (R.ok.hd f) A (by let:n<=i:=j;lia) λd eb=>[I,R.turned (t':=s.toks) (λb o F e=>eb b o F e) f0 f1 Q C U]
 self:=λ_ _ _ _ _ A h=>wpAny_pyIter_rangeiter A h
section
variable {X:Cx} {tg:nY}
def ZZ(K:zAa)(N:TE):TI:=λP H R=>N P H λx C=>∃a,x=.ref a/\(∃L,Al K C a L)/\R (WP K a) C
def Em{l}{A}(K:PE X l A):PI X tg l (ZZ X.K A):=by
 intro W s c H R P h;refine Er (K W s c H _ P h) λv F U=>?_;let[x,E,z,Q,C]:=U;let[a,e,[d,N],q]:=C;subst e;cases Q;let[L,j,p,f]:=z.list N;refine wpAny_pyIter_list p.isList ?_;refine[⇑F,#[⇑F],_,_,E,I,z.kept (t':=F.toks) λb o e=>zAk _ e,HG a _,[_,zAJ _ I,I,I],λb S=>?_,q];let e:b=⇑F:=by simpa using S
 subst e;exact z.fpOk (zAm _) (z.hok.fresh (zAm _))
def MS{pins:List (T×oH)}{σ:St}{H:Hp}{s:lZ}{R:It->Hp->Prop}{E:lV->lZ->Prop}{lo Q:Int}{t u v:Tok}{W:Nat}(N:Am X pins σ H s)(A : -(2^62)<=lo)(P:lo<2^62)(C : -(2^62)<=Q)(F:Q<2^62)
  (q:R (WZ lo (Q-lo).toNat) H):mO (mP X.prog X.w) X.A (pyIter (.ref ⇑s)) (iH X pins σ tg R) E { s with heap:=s.heap.push { cls:=.type "range",data:=.fields #v[.int lo t,.int Q u,.int 1 v] },toks:=W }:=by
 refine wpAny_pyIter_range (IsRange.new ..) (small_one A P C F) ?_;let z:Am X pins σ H { s with heap:=s.heap.push { cls:=.type "range",data:=.fields #v[.int lo t,.int Q u,.int 1 v] },toks:=W }:=N.kept λb o e=>zAk _ e;refine[(s.heap.push { cls:=.type "range",data:=.fields #v[.int lo t,.int Q u,.int 1 v] }).objs.size,#[(s.heap.push { cls:=.type "range",data:=.fields #v[.int lo t,.int Q u,.int 1 v] }).objs.size],_,_,H,I,
  z.kept (t':=W) λb o e=>zAk _ e,X4 _ lo (Q-lo).toNat,?_,λb U=>?_,q]
 .have S:lo+((0:Nat):Int)*1=lo:=by simp
  let L:(((Q-lo).toNat:Nat):Int)-((0:Nat):Int)=Builtin.Range.rangeSize lo Q 1:=by rw[rangeSize_one];split<;>lia
  show IsRangeIter _ _ (lo+((0:Nat):Int)*1) ((((Q-lo).toNat:Nat):Int)-((0:Nat):Int)) 1;rw[S,L];exact zAJ _ I
 .have e:b=(s.heap.push { cls:=.type "range",data:=.fields #v[.int lo t,.int Q u,.int 1 v] }).objs.size:=by simpa using U
  subst e;exact z.fpOk (zAm _) (z.hok.fresh (zAm _))
def bL(N:TA):TI:=λL H R=>N L H λC P=>∃j:Int,C=#[.int j]/\-(2^62)<=j/\j<2^62/\R (WZ 0 j.toNat) P
def Gb{a:nY}{p W:uL}(E:Gl X "range")(Q:X.mg "range"=M)(F:PA X #[a] b)(L:mH #[a] X.env=#[(lX,nU a X.env)]:=by rfl):PI X tg (.Call (.Name "range" p) #[a] [] W) (bL b):=by
 intro A s c H R P h;refine Call_ (Pe P E Q boot_range (oN (Er (F W A s c H _ P h) λf k N=>?_) L I));let[l,d,C,U,z]:=N;let[j,e,z,K,q]:=z;subst e;cases U with
 |cons r S=>
  cases S
  let[t,rfl]:=r;exact call_range_1 (MS C Z Z z K (by simpa using q))
def gE(K:TI)(C:TG)(S:TS):TS:=λD P H=>K P H λL E=>∃W:Nat->Nat->St->Hp->Prop,(∃m,W 0 m P E)/\∀i m P H,W i m P H ->
 (L.stop i H/\D.nx P H)\/(L.go i H/\∃N:St->Hp->Prop,(∀Q R,N Q R->∃A,A<m/\W (i+1) A Q R)/\∀x R,L.yld i H x R->C x P R λU F=>S { D with nx:=N,ct:=N,bk:=D.nx } U F)
def Wp(C:List T)(h:mX):List (T×oH):=C.filterMap λb=>(h.get? b).map λo=>(b,o)
def Nv{h:mX}{b:T}{o:oH}(z:b∈c)(e:h.get? b=g o):(b,o)∈Wp c h:=List.mem_filterMap.mpr [b,z,by rw[e];rfl]
def HA{h:mX}{p:T×oH}(C:p∈Wp c h):p.1∈c/\h.get? p.1=g p.2:=by
 let[b,F,e]:=List.mem_filterMap.mp C;cases q:h.get? b with
 |none=>rw[q]at e;cases e
 |some o=>
  rw[q]at e;let z:(b,o)=p:=mI e;subst z;exact[F,q]
def Am.pinned{pins:List (T×oH)}{σ:St}{H:Hp}{s:lZ}(C:Am X pins σ H s)(S:∀b∈c,Op X pins H b)(N:∀b∈c,∃o,s.heap.get? b=g o/\∀v,o.data≠.cell v):Am X (pins++Wp c s.heap) σ H s:=
 C.pins_of λp P=>(zAE.mp P).elim (λz=>C.pin p (zAP _ z)) λz=>by
  let[L,e]:=HA z;let[f0,f1,U,_]:=S p.1 L;let[o,F,d]:=N p.1 L;rw[e]at F;cases F;exact[e,f0,f1,U,d]
def Am.unpinned{pins pl:List (T×oH)}{σ:St}{H:Hp}{s:lZ}(C:Am X (pins++pl) σ H s):Am X pins σ H s:=C.pins_of λp L=>C.pin p (zAP _ (zBi _ L))
def Gc(t:tP (mP X.prog X.w) X.A X.env X.xe)(hc:X.calm=B)(hi:PI X tg iter wi)(hg:PG X tg c)(z:PSs X body tb)
  (hs:∀x,rE iter X.env x=pure x:=by intro _;rfl):PS X (.For tg iter body [] a1) (gE wi c tb):=by
 intro K s σ H D Q h;refine wpAny_For (Er (hi K s σ H _ Q h) λv s1 h1=>Er h1 λah s2 h2=>?_) hs;let[it,w,tn,E,H2,e,I2,R,ae,f2,W,[m0,w0],aa]:=h2;subst e;let P:∀{l:Hp},(∀b∈w,l b=M)->∀b∈w,Op X K l b:=λhn b z=>[hn b z,(f2 b z).2];refine codeAny_forLoop_any (λn s'=>∃i k l,Am X K k l s'/\tn i s'.heap/\(∀b∈w,l b=M)/\W i n k l) ?_ m0 [0,σ,H2,I2,ae,λb z=>(f2 b z).1,w0];rintro n s3 ⟨i,j,y,I3,ac,ab,w3⟩;rcases aa i n j y w3 with ⟨ad,qn⟩|⟨go,N,hN,p⟩
 .refine pF t (Er (R.done X I I I hc i K s3 j y X.xe I3 (P ab) ac ad) λr s4 ⟨a,I4⟩=>?_)
  subst a;exact pG [j,y,I4,qn]
 .refine pF t (Er (R.item X I I I hc i K s3 j y X.xe I3 (P ab) ac go) λr s4 ⟨u,a,h4⟩=>?_)
  subst a;refine pF t (Er h4 λ_ s5 ⟨x,H5,I5,r5,y5,A,af⟩=>?_);let ag:=I5.pinned (P af) (R.obj _ _ A);refine pF t (Er (hg _ s5 j H5 x u _ ag r5 (p x H5 y5)) λ_ s6 ⟨a0,H6,I6,q6⟩=>?_);refine pF t (Er (z _ s6 a0 H6 _ I6 q6) λf s7 C=>?_);let F:∀{S:St} {U:Hp},Am X (K++Wp w s5.heap) S U s7->N S U->∃m,m<n/\∃i k l,Am X K k l s7/\tn i s7.heap/\(∀b∈w,l b=M)/\W i m k l:=λ{S U} L q=>by
   let[m',hm,w7]:=hN S U q;refine[m',hm,i+1,S,U,L.unpinned,R.keep _ _ _ A λb z o e=>(L.pin (b,o) (zAP _ (zAP _ (Nv z e)))).1,λb z=>?_,w7];let[o,e,d]:=R.obj _ _ A b z;exact(L.pin (b,o) (zAP _ (zAP _ (Nv z e)))).2.1
  cases f with
  |next=>let[S,U,L,q]:=C;exact F L q
  |cont=>let[S,U,L,q]:=C;exact F L q
  |brk=>let[S,U,L,C]:=C;exact[S,U,L.unpinned,C]
  |ret v=>let[x7,S,U,L,r7,C]:=C;exact[x7,S,U,L.unpinned,r7,C]
end
def Po{K:zAa}{a:T}{xs:List V}{C:TG}{X:TS}{D:Uh}{σ:St}{H:Hp}(z:Nat->St->Hp->Prop)(P:z 0 σ H)(b:∀i σ H,i<=xs.length->z i σ H->Al K H a xs)
  (Q:∀i x σ H,xs[i]?=g x->z i σ H->C x σ H λL S=>X { D with nx:=z (i+1),ct:=z (i+1),bk:=D.nx } L S) (c:∀σ H,z xs.length σ H->D.nx σ H) :
  ∃W:Nat->Nat->St->Hp->Prop,(∃m,W 0 m σ H)/\∀i m σ H,W i m σ H ->
   ((WP K a).stop i H/\D.nx σ H)\/((WP K a).go i H/\∃N:St->Hp->Prop,(∀R H',N R H'->∃U,U<m/\W (i+1) U R H')/\∀x H',(WP K a).yld i H x H'->C x σ H' λL S=>X { D with nx:=N,ct:=N,bk:=D.nx } L S):=by
 refine[λi m σ H=>m=xs.length-i/\i<=xs.length/\z i σ H,[xs.length,zZ,zAy _,P],?_];rintro i m σ H ⟨rfl,E,p⟩;let q:=b i σ H E p;by_cases F:i<xs.length
 .refine .inr [[xs,xs[i],q,by simp[F]],z (i+1),λR H' A=>[xs.length-(i+1),Z,I,F,A],λx H' y=>?_]
  let[e,y]:=y;subst e;exact Q i x σ _ (y xs q) p
 .have e:i=xs.length:=by lia
  subst e;exact .inl [[xs,q,zAm _],c σ H p]
def Kj{lo:Int}{n:Nat}{C:TG}{X:TS}{D:Uh}{σ:St}{H:Hp}(z:Nat->St->Hp->Prop)(P:z 0 σ H)
  (Q:∀i σ H,i<n->z i σ H->C (.int (lo+i)) σ H λL S=>X { D with nx:=z (i+1),ct:=z (i+1),bk:=D.nx } L S) (A:∀σ H,z n σ H->D.nx σ H) :
  ∃W:Nat->Nat->St->Hp->Prop,(∃m,W 0 m σ H)/\∀i m σ H,W i m σ H ->
   ((WZ lo n).stop i H/\D.nx σ H)\/((WZ lo n).go i H/\∃N:St->Hp->Prop,(∀R H',N R H'->∃U,U<m/\W (i+1) U R H')/\∀x H',(WZ lo n).yld i H x H'->C x σ H' λL S=>X { D with nx:=N,ct:=N,bk:=D.nx } L S):=by
 refine[λi m σ H=>m=n-i/\i<=n/\z i σ H,[n,zZ,zAy _,P],?_];rintro i m σ H ⟨rfl,K,p⟩;by_cases F:i<n
 .refine .inr [F,z (i+1),λR H' E=>[n-(i+1),Z,I,F,E],λx H' y=>?_]
  let[e,y]:=y;subst e y;exact Q i σ _ F p
 .have e:i=n:=by lia
  subst e;exact .inl [zAm _,A σ H p]
abbrev R2:=V->V->Hp->VK->Prop
def Qd(X:Cx)(f:lV->lV->vH lV)(r:R2):Prop:=
 ∀(C:List (T×oH)) (s:lZ) (L:St) (H:Hp) (x y:V) (v u:lV) (Q:VK),Am X C L H s->Bq x v->Bq y u->r x y H Q ->
  mO (mP X.prog X.w) X.A (f v u) (EP X C L Q) X.xe s
def gP(X:Cx)(f:lV->vH lV)(r:V->Hp->VK->Prop):Prop:=
 ∀(C:List (T×oH)) (s:lZ) (L:St) (H:Hp) (x:V) (v:lV) (Q:VK),Am X C L H s->Bq x v->r x H Q ->
  mO (mP X.prog X.w) X.A (f v) (EP X C L Q) X.xe s
def Mg(X:Cx)(f:lV)(r:List V->Hp->VK->Prop):Prop:=
 ∀(C:List (T×oH)) (s:lZ) (N:St) (H:Hp) (L:List V) (P:List lV) (Q:VK),Am X C N H s->Bc L P->r L H Q ->
  mO (mP X.prog X.w) X.A (call f P) (EP X C N Q) X.xe s
def fZ(X:Cx)(r:V->Hp->(Bool->Hp->Prop)->Prop):Prop:=
 ∀(C:List (T×oH)) (s:lZ) (L:St) (H:Hp) (x:V) (v:lV) (Q:Bool->Hp->Prop),Am X C L H s->Bq x v->r x H Q ->
  mO (mP X.prog X.w) X.A (truthy v) (TP X C L Q) X.xe s
def YS(r:R2)(P N:TE):TE:=λC H Q=>P C H λx L=>N C L λy R=>r x y R Q
def jA(r:V->Hp->VK->Prop)(L:TE):TE:=λC H Q=>L C H λx N=>r x N Q
inductive rI(C:Int->Int->Prop)(m:Int->Int->V)(x y:V)(H:Hp)(Q:VK):Prop
 |mk (i j:Int) (e:x=.int i) (e':y=.int j) (c:C i j) (q:Q (m i j) H)
inductive VY(m:Int->Int->V)(x y:V)(H:Hp)(Q:VK):Prop
 |mk (i j:Int) (e:x=.int i) (e':y=.int j) (q:Q (m i j) H)
inductive rU(m:Int->V)(x:V)(H:Hp)(Q:VK):Prop
 |mk (i:Int) (e:x=.int i) (q:Q (m i) H)
section
variable {X:Cx} {a b:nY} {ta tb:TE} {pos:uL}
def UO(L:PE X a ta)(P:PE X b tb){pins:List (T×oH)}{s:lZ}{σ:St}{H:Hp}{R:V->V->Hp->Prop}(N:Am X pins σ H s)
  (h:ta σ H λx K=>tb σ K λy z=>R x y z) {Q:lV->lZ->Prop} {f:lV->lV->vH lV}
  (U:∀v u F x y z,Am X pins σ z F->Bq x v->Bq y u->R x y z->mO (mP X.prog X.w) X.A (f v u) Q X.xe F) :
  mO (mP X.prog X.w) X.A (nU a X.env) (λv E=>mO (mP X.prog X.w) X.A (nU b X.env) (λu A=>mO (mP X.prog X.w) X.A (f v u) Q X.xe A) X.xe E) X.xe s:=by
 refine Er (L pins s σ H _ N h) λv c ⟨x,K,d,C,k⟩=>?_;refine Er (P pins c σ K _ d k) λu F ⟨y,z,S,W,j⟩=>?_;exact U v u F x y z S C W j
def Au{r:R2}(L:Qd X (qI op) r)(z:PE X a ta)(U:PE X b tb):PE X (.BinOp a op b pos) (YS r ta tb):=by
 intro W s A H Q P h;exact wpAny_BinOp (UO z U P h λv u S x y N R F C q=>L W S A N x y v u Q R F C q)
def N9{r:V->Hp->VK->Prop}(F:gP X (unaryOp op) r)(z:PE X a ta):PE X (.UnaryOp op a pos) (jA r ta):=by
 intro P s R H Q C h;exact UnaryOp_ (Er (z P s R H _ C h) λv U ⟨x,W,N,L,S⟩=>F P U R W x v Q N L S)
def cX{f:lV->lV->vH lV}{C:Int->Int->Prop}{N:Int->Int->Int}
  (z:∀(i j:Int) (t u:Tok) (s:lZ) (Q:lV->lZ->Prop) (E:lV->lZ->Prop),C i j->Q (.int (N i j) s.toks) { s with toks:=s.toks+1 }->mO (mP X.prog X.w) X.A (f (.int i t) (.int j u)) Q E s) :
  Qd X f (rI C λi j=>.int (N i j)):=by
 intro U s W H x y v u Q P F R h;let[i,j,rfl,rfl,S,q]:=h;let[t,rfl]:=F;let[L,rfl]:=R;exact z i j t L s _ _ S [.int (N i j),H,P.tok _,[_,I],q]
def ZS{f:lV->lV->vH lV}{C:Int->Int->Int}
  (z:∀(i j:Int) (t u:Tok) (s:lZ) (Q:lV->lZ->Prop) (E:lV->lZ->Prop),Q (.int (C i j) s.toks) { s with toks:=s.toks+1 }->mO (mP X.prog X.w) X.A (f (.int i t) (.int j u)) Q E s) :
  Qd X f (VY λi j=>.int (C i j)):=by
 intro R s U H x y v u Q N P F h;let[i,j,rfl,rfl,q]:=h;let[t,rfl]:=P;let[L,rfl]:=F;exact z i j t L s _ _ [.int (C i j),H,N.tok _,[_,I],q]
def UN{f:lV->lV->vH lV}{C:Int->Int->Bool}
  (z:∀(i j:Int) (t u:Tok) (s:lZ) (Q:lV->lZ->Prop) (E:lV->lZ->Prop),Q (.bool (C i j)) s->mO (mP X.prog X.w) X.A (f (.int i t) (.int j u)) Q E s) :
  Qd X f (VY λi j=>.bl (C i j)):=by
 intro R s U H x y v u Q N P F h;let[i,j,rfl,rfl,q]:=h;let[t,rfl]:=P;let[L,rfl]:=F;exact z i j t L s _ _ [.bl (C i j),H,N,I,q]
def eR(i j:Int):Prop:=0<j/\j<1073741824
def dE(i j:Int):Prop:=0<=j/\j<=1000000/\i.natAbs<2^64
def lL(i j:Int):Prop:=(-(2^64)<i/\i<2^64)\/(-(2^64)<j/\j<2^64)
def lL.ok{i j:Int}(h:lL i j):IntMulOk i j:=by
 rcases h with ⟨C,z⟩|⟨C,z⟩
 .exact .of_left (intBits_le_64 C z)
 .exact .of_right (intBits_le_64 C z)
def Ea:Qd X (qI .Add) (VY λi j=>.int (i+j)):=ZS λx x x x x x x q=>add_int q
def K6:Qd X (qI .Sub) (VY λi j=>.int (i-j)):=ZS λx x x x x x x q=>sub_int q
def Jq:Qd X (qI .Mult) (rI lL λi j=>.int (i*j)):=cX λx x x x x x x z q=>mul_int q z.ok
def Dt:Qd X (qI .FloorDiv) (rI eR λi j=>.int (i/j)):=cX λi j x x x x x z q=>by
 let C:(0:Int)<j:=z.1;let F:j<1073741824:=z.2;exact floordiv_int Z (by rw[Int.fdiv_eq_ediv_of_nonneg i Z];exact q) (.inl (PyProof.noPylong_small Z))
def Dk:Qd X (qI .Mod) (rI (λx j=>0<j) λi j=>.int (i%j)):=cX λi j x x x x x z q=>by
 let C:(0:Int)<j:=z;exact mod_int' Z (by rw[Int.fmod_eq_emod_of_nonneg i Z];exact q)
def VC:Qd X (qI .Pow) (rI dE λi j=>.int (i^j.toNat)):=cX λx x x x x x x z q=>pow_int_small z.1 z.2.1 z.2.2 q
def jE{f:lV->vH lV}{C:Int->Int}
  (z:∀(i:Int) (t:Tok) (s:lZ) (Q:lV->lZ->Prop) (E:lV->lZ->Prop),Q (.int (C i) s.toks) { s with toks:=s.toks+1 }->mO (mP X.prog X.w) X.A (f (.int i t)) Q E s) :
  gP X f (rU λi=>.int (C i)):=by
 intro N s P H x v Q L F h;let[i,rfl,q]:=h;let[t,rfl]:=F;exact z i t s _ _ [.int (C i),H,L.tok _,[_,I],q]
def Wl:gP X (unaryOp .USub) (rU λi=>.int (-i)):=jE λx x x x x q=>neg_int q
end
def bK:V->V->Bool
 |.non,.non=>B|.non,.int _=>B|.int _,.non=>B|.non,.bl _=>B|.bl _,.non=>B|.non,.str _=>B|.str _,.non=>B
 |.int _,.int _=>B|.bl _,.bl _=>B|.str _,.str _=>B|.byt _,.byt _=>B
 |.int _,.str _=>B|.str _,.int _=>B|.bl _,.str _=>B|.str _,.bl _=>B
 |_,_=>lX
inductive jC(x y:V)(H:Hp)(Q:VK):Prop
 |mk (e:bK x y=B) (q:Q (.bl (decide (x=y))) H)
inductive iZ(x y:V)(H:Hp)(Q:VK):Prop
 |mk (e:bK x y=B) (q:Q (.bl (!decide (x=y))) H)
def EN{i j:Int}:decide (V.int i=V.int j)=(i==j):=by
 rw[rX];simp
def KI{i j:Bool}:decide (V.bl i=V.bl j)=(i==j):=by
 rw[rX];simp
def CH{i j:J}:decide (V.str i=V.str j)=(i==j):=by
 rw[rX];simp
def DU{i j:Array UInt8}:decide (V.byt i=V.byt j)=(i.toList==j.toList):=by
 rw[rX];cases i;cases j;simp
section
variable {X:Cx} {a b c:nY} {ta tb tc:TE} {pos:uL}
def Ee{pins:List (T×oH)}{σ:St}{H:Hp}{s:lZ}{Q:VK}{k z:Bool}(C:Am X pins σ H s)(q:Q (.bl k) H)(e:k=z):EP X pins σ Q (.bool z) s:=by
 subst e;exact[.bl k,H,C,I,q]
def Dv:Qd X (oF .Eq) jC:=by
 intro P s R H x y v u Q C N z h;let[L,q]:=h;cases x with
 |non=>
  cases N
  cases y with
  |non=>cases z;exact PySem.EqNone.eq_none_none (Ee C q zZ)
  |bl j=>cases z;exact PySem.EqNone.eq_none_bool (Ee C q zZ)
  |int j=>let[F,rfl]:=z;exact PySem.EqNone.eq_none_int (Ee C q zZ)
  |str j=>let[F,rfl]:=z;exact PySem.EqNone.eq_none_str (Ee C q zZ)
  |_=>exact mC (show lX=B from L) zAn
 |bl i=>
  cases N
  cases y with
  |non=>cases z;exact PySem.EqNone.eq_bool_none (Ee C q zZ)
  |bl j=>cases z;exact eq_bool (Ee C q KI)
  |str j=>let[F,rfl]:=z;exact PySem.EqMixed.eq_bool_str (Ee C q zZ)
  |_=>exact mC (show lX=B from L) zAn
 |int i=>
  let[t,rfl]:=N;cases y with
  |non=>cases z;exact PySem.EqNone.eq_int_none (Ee C q zZ)
  |int j=>let[F,rfl]:=z;exact eq_int (Ee C q EN)
  |str j=>let[F,rfl]:=z;exact PySem.EqMixed.eq_int_str (Ee C q zZ)
  |_=>exact mC (show lX=B from L) zAn
 |str i=>
  let[t,rfl]:=N;cases y with
  |non=>cases z;exact PySem.EqNone.eq_str_none (Ee C q zZ)
  |bl j=>cases z;exact PySem.EqMixed.eq_str_bool (Ee C q zZ)
  |int j=>let[F,rfl]:=z;exact PySem.EqMixed.eq_str_int (Ee C q zZ)
  |str j=>let[F,rfl]:=z;exact eq_str (Ee C q CH)
  |_=>exact mC (show lX=B from L) zAn
 |byt i=>
  let[t,rfl]:=N;cases y with
  |byt j=>let[F,rfl]:=z;exact PySem.W.eq_bytes (Ee C q DU)
  |_=>exact mC (show lX=B from L) zAn
 |_=>cases y<;>exact mC (show lX=B from L) zAn
def Sl:Qd X (oF .NotEq) iZ:=by
 intro P s R H x y v u Q C N z h;let[L,q]:=h;cases x with
 |non=>
  cases N
  cases y with
  |non=>cases z;exact PySem.EqNone.ne_none_none (Ee C q zZ)
  |bl j=>cases z;exact PySem.EqNone.ne_none_bool (Ee C q zZ)
  |int j=>let[F,rfl]:=z;exact PySem.EqNone.ne_none_int (Ee C q zZ)
  |str j=>let[F,rfl]:=z;exact PySem.EqNone.ne_none_str (Ee C q zZ)
  |_=>exact mC (show lX=B from L) zAn
 |bl i=>
  cases N
  cases y with
  |non=>cases z;exact PySem.EqNone.ne_bool_none (Ee C q zZ)
  |bl j=>cases z;exact ne_bool (Ee C q (nI not KI))
  |str j=>let[F,rfl]:=z;exact PySem.EqMixed.ne_bool_str (Ee C q zZ)
  |_=>exact mC (show lX=B from L) zAn
 |int i=>
  let[t,rfl]:=N;cases y with
  |non=>cases z;exact PySem.EqNone.ne_int_none (Ee C q zZ)
  |int j=>let[F,rfl]:=z;exact ne_int (Ee C q (nI not EN))
  |str j=>let[F,rfl]:=z;exact PySem.EqMixed.ne_int_str (Ee C q zZ)
  |_=>exact mC (show lX=B from L) zAn
 |str i=>
  let[t,rfl]:=N;cases y with
  |non=>cases z;exact PySem.EqNone.ne_str_none (Ee C q zZ)
  |bl j=>cases z;exact PySem.EqMixed.ne_str_bool (Ee C q zZ)
  |int j=>let[F,rfl]:=z;exact PySem.EqMixed.ne_str_int (Ee C q zZ)
  |str j=>let[F,rfl]:=z;exact ne_str (Ee C q (nI not CH))
  |_=>exact mC (show lX=B from L) zAn
 |byt i=>
  let[t,rfl]:=N;cases y with
  |byt j=>let[F,rfl]:=z;exact PySem.W.ne_bytes (Ee C q (nI not DU))
  |_=>exact mC (show lX=B from L) zAn
 |_=>cases y<;>exact mC (show lX=B from L) zAn
def Mm:Qd X (oF .Lt) (VY λi j=>.bl (decide (i<j))):=UN λx x x x x x x q=>lt_int q
def Tg:Qd X (oF .LtE) (VY λi j=>.bl (decide (i<=j))):=UN λx x x x x x x q=>le_int q
def Tq:Qd X (oF .Gt) (VY λi j=>.bl (decide (j<i))):=UN λx x x x x x x q=>gt_int q
inductive eX(x y:V)(H:Hp)(Q:VK):Prop
 |mk (e:y=.non) (q:Q (.bl (decide (x=.non))) H)
def Xr:Qd X (oF .Is) eX:=by
 intro L s N H x y v u Q C z F h;let[rfl,q]:=h;cases F;refine is_none_gen (Ee C q ?_);cases x<;>first
  |(cases z;rfl)
  |(let[t,rfl]:=z;rfl)
inductive aT(x y:V)(H:Hp)(Q:VK):Prop
 |mk (e:y=.non) (q:Q (.bl (!decide (x=.non))) H)
def ER:Qd X (oF .IsNot) aT:=by
 intro L s N H x y v u Q C z F h;let[rfl,q]:=h;cases F;refine isnot_none_gen (Ee C q ?_);cases x<;>first
  |(cases z;rfl)
  |(let[t,rfl]:=z;rfl)
def Bf(b:nY)(h:op≠.In:=by lk)(C:op≠.NotIn:=by lk):uK op b=lX:=by
 let z:(op==CmpOp.In)=lX:=by cases op<;>first|rfl|exact mC I h
 let F:(op==CmpOp.NotIn)=lX:=by cases op<;>first|rfl|exact mC I C
 cases b<;>simp[uK,z,F]
def Nr{r:R2}(R:Qd X (oF op) r)(z:PE X a ta)(C:PE X b tb)(L:uK op b=lX):PE X (.Compare a #[op] #[b] pos) (YS r ta tb):=by
 intro W s E H Q P h;exact wpAny_Compare1 (UO z C P h λv u U x y A S F N q=>R W U E A x y v u Q S F N q) L
def cB(t:TE):TT:=λC H Q=>t C H λx L=>JB x L Q
def Ax{r:R2}(S:Qd X (oF op) r)(F:PE X a ta)(t:PE X b tb)(N:uK op b=lX):PT X (.Compare a #[op] #[b] pos) (cB (YS r ta tb)):=by
 intro W s A H Q R h;refine wpAny_isTrue_Compare1 (Er (F W s A H _ R h) λv p ⟨x,K,E,l,w⟩=>Er (t W p A K _ E w) λu C ⟨y,o,U,L,d⟩=>
  Er (S W C A o x y v u _ U l L d) λc m ⟨z,j,P,q,k,e,f⟩=>?_) N
 subst e;cases q;exact pJ [j,P,f]
def XV(r R:R2)(ta tb tc:TE):TE:=λL H Q=>ta L H λx N=>tb L N λy W=>r x y W λz C=>JB z C λk C=>if k=B then tc L C λP U=>R y P U Q else Q (.bl lX) C
def Wy{r N:R2}(ho:Qd X (oF op) r)(F:Qd X (oF f) N)(q:PE X a ta)(hb:PE X b tb)(n:PE X c tc)
  (C:lastMarks #[op,f] #[b,c]=lX:=by with_unfolding_all rfl):PE X (.Compare a #[op,f] #[b,c] pos) (XV r N ta tb tc):=by
 intro W s A H Q R h;refine Compare_chain (Er (q W s A H _ R h) λv s1 ⟨x,j,K,r1,q1⟩=>chain_link (Er (hb W s1 A j _ K q1) λu P ⟨y,H2,I2,L,l⟩=>
  Er (ho W P A H2 x y v u _ I2 r1 L l) λd s3 ⟨z,E,S,r3,k,e,U⟩=>?_)) C
 subst e;cases r3;refine pJ ?_;cases k with
 |false=>exact ite_ff [.bl lX,E,S,I,U]
 |true=>exact ite_tt (chain_last (Er (n W s3 A E _ S U) λp t ⟨w,H4,o,m,i⟩=>F W t A H4 y w u p Q o L m i))
def aS(K:zAa)(x:V)(H:Hp)(k:Bool):Prop:=
 match x with
 |.non=>k=lX
 |.bl b=>k=b
 |.int i=>k=(i != 0)
 |.str y=>y.length<=sizeLine/\k=((y.length:Int) != 0)
 |.byt y=>y.size<=sizeLine/\k=((y.size:Int) != 0)
 |.ref p=>(∃C,Al K H p C/\k = !C.isEmpty)\/(∃C,Da K H p C/\k = !C.isEmpty)\/∃L,H p=g (.dK L)/\k = !L.isEmpty
 |_=>False
def Z6{κ:Type}{z:List (κ×V)}{vs:List (κ×lV)}(r:KV z vs):(!vs.isEmpty) = !z.isEmpty:=by
 cases r<;>rfl
def Xi{xs:List V}(r:Bc xs d):(!d.toArray.isEmpty) = !xs.isEmpty:=by
 cases r<;>simp
def Rr:(sizeLine:Nat)<2^63:=by rw[zCy];decide
def UT:fZ X (λx H Q=>∃k,aS X.K x H k/\Q k H):=by
 intro S s l H x v Q C U h;let[k,e,q]:=h;let j:=Rr;let o:sizeLine=16777216:=zCy;cases x with
 |non=>
  cases U
  let L:k=lX:=e;subst L;exact truthy_none [H,C,q]
 |bl b=>
  cases U
  let L:k=b:=e;subst L;exact pJ [H,C,q]
 |int i=>
  let[t,rfl]:=U;let L:k=(i != 0):=e;subst L;exact PySem.P.truthy_int [H,C,q]
 |str y=>
  let[t,rfl]:=U;obtain⟨d,L⟩:y.length<=sizeLine/\k=((y.length:Int) != 0):=e;subst L;exact PySem.P.truthy_str Z [H,C.tok _,q]
 |byt y=>
  let[t,rfl]:=U;obtain⟨d,L⟩:y.size<=sizeLine/\k=((y.size:Int) != 0):=e;subst L;exact PySem.W.truthy_bytes Z [H,C.tok _,q]
 |ref p=>
  cases U
  let L:(∃R,Al X.K H p R/\k = !R.isEmpty)\/(∃R,Da X.K H p R/\k = !R.isEmpty)\/∃N,H p=g (.dK N)/\k = !N.isEmpty:=e;rcases L with ⟨R,W,L⟩|⟨R,W,L⟩|⟨N,W,L⟩
  .subst L
   let[F,r,E,K]:=C.list W;let P:=r.length;exact wpAny_truthy_list E.isList (by simp only[zAj];lia) [H,C.tok _,by rw[Xi r];exact q]
  .subst L
   let[F,r,E,K]:=C.tuple W;let P:=r.length;exact truthy_tuple E (by simp only[zAj];lia) [H,C.tok _,by rw[Xi r];exact q]
  .subst L
   obtain⟨K,f,A,r,m⟩:N.length<=sizeLine/\(p==pN)=lX/\∃A,KV N A/\s.heap.DictOf (Fo X.prog X.w) p A:=C.hok p _ W;let P:N.length=A.length:=vK r;exact wpAny_truthy_dict f m Z [H,C.tok _,by rw[Z6 r];exact q]
 |_=>exact(show False from e).elim
inductive aR(x y:V)(H:Hp)(Q:VK):Prop
 |mk (i j:J) (e:x=.str i) (e':y=.str j) (l:i.length+j.length<=sizeLine) (q:Q (.str (i++j)) H)
def Bm:Qd X (qI .Add) aR:=by
 intro P s R H x y v u Q C N F h;let[i,j,rfl,rfl,z,q]:=h;let[t,rfl]:=N;let[L,rfl]:=F;exact add_str (λL U=>[.str (i++j),H,C.tok _,[_,I],q]) z
def Tr{x:V}{us:List lV}(r:Bc #[x] us):∃u,us=#[u]/\Bq x u:=by
 cases r with
 |cons z F=>cases F;exact[_,I,z]
def HL{x y:V}{us:List lV}(r:Bc #[x,y] us):∃u H,us=#[u,H]/\Bq x u/\Bq y H:=by
 cases r with
 |cons F z=>
  cases z with
  |cons L C=>cases C;exact[_,_,I,F,L]
inductive aZ(xs:List V)(H:Hp)(Q:VK):Prop
 |mk (i j:Int) (e:xs=#[.int i,.int j]) (q:Q (.int (if j<i then j else i)) H)
def GT(F:X.calm=B):Mg X (.builtin "min") aZ:=by
 intro P s W H R U Q C r h;let[i,j,rfl,q]:=h;let[u,L,rfl,[t,rfl],[N,rfl]]:=HL r;refine min_two_ints (C.ok.hd F) λE A k=>[_,H,C.kept k,?_,q];by_cases z:j<i
 .rw[mS z,mS z];exact[_,I]
 .rw[mK z,mK z];exact[_,I]
def FQ:Mg X (.type "int") (λxs H Q=>(∃i,xs=#[.int i]/\Q (.int i) H)\/∃k,xs=#[.bl k]/\Q (.int (if k then 1 else 0)) H):=by
 intro L s N H xs P Q C r h;rcases h with ⟨i,rfl,q⟩|⟨k,rfl,q⟩
 .let[u,rfl,t,rfl]:=Tr r
  exact call_int_int [.int i,H,C,[_,I],q]
 .let[u,rfl,z]:=Tr r
  cases z
  exact call_int_bool [.int (if k then 1 else 0),H,C.tok _,[_,I],q]
inductive bM(xs:List V)(H:Hp)(Q:VK):Prop
 |mk (i:Int) (e:xs=#[.int i]) (l:i.natAbs.log2<1920) (q:Q (.str (toString i)) H)
def Ep:Mg X (.type "str") bM:=by
 intro L s P H N R Q C r h;let[i,rfl,z,q]:=h;let[u,rfl,t,rfl]:=Tr r;exact PySem.P.str_of_int z [.str _,H,C.tok _,[_,I],q]
end
structure kS(h:mX)(x dx C:T)(mA:J->Option lV):Prop where
 obj:h.get? x=g (zAZ C dx)
 ns:h.Ns1 dx mA
 ne:dx≠x
set_option tactic.hygienic true in
def Tw{h:mX}{dx:T}{Q:J->Option lV}(n:h.Ns1 dx Q):∃od,h.get? dx=g od/\∀P,rQ P od=g (Q P):=by
 let[o,R,W,U,L,H,_,S]:=n;refine[o,U,λP=>?_];let e:=S P;unfold nsFind findBy at e;rw[<- yF]at e;unfold rQ;rw[L]
 dsimp only
 split
 .rename_i y q
  rw[q]at e;exact nI g e
 .rename_i q
  rw[q]at e;let a:R.toList.any (·.refKey)=lX:=by
   rw[zCs];intro y N;let[z,t,F]:=H y (Array.mem_toList_iff.mp N);simp[DictEntry.refKey,F]
  let C:¬R.toList.any (·.refKey)=B:=by rw[a];exact zAn
  rw[mK C];exact nI g e
def kS.look{h}{x dx C}{N:J->Option lV}(H:kS h x dx C N):∃od,zBS h x (zAZ C dx) C (g od)/\∀L,rQ L od=g (N L):=
 let [od,Q,P]:=Tw H.ns
 [od,[H.obj,I,I,Q],P]
section
variable {prog:mF} {w:mR} {A:mZ} {E:lV->lZ->Prop} {s:lZ} {K:zAa} {x dx C f:T} {mA:J->Option lV} {name:J} {v:lV}
def QO{z:Bool}{Q:lV->lZ->Prop}(X:K.In s.heap)(P:kS s.heap x dx C mA)(S:zCb K C name=B)(U:zBH K C=B)
  (L:zAD K (.ref C) name=g M) (N:mA name=g v) (F:tI v=B) (h:Q v { s with toks:=s.toks+1 }) :
  mO (mP prog w) A (yR (.ref x) name z) Q E s:=by
 let[W,H,R]:=P.look;exact PySem.W.get_value X H (sE S).1 (wD U L I (by rw[R,N])) F h
def JM{pl:vH Bool}{Q:lV×List lV->lZ->Prop}(X:K.In s.heap)(P:kS s.heap x dx C mA)(z:zCb K C name=B)
  (N:zAD K (.ref C) name=g (g (.ref f))) (F:zBF K (.ref f)=B) (L:mA name=M) (h:Q (.ref f,#[.ref x]) s) :
  mO (mP prog w) A (pS (.ref x) name pl) Q E s:=by
 let[U,H,R]:=P.look;exact PySem.W.method_fn X H (sE z).1 (sE z).2 N (beq_iff_eq.mp F) (by show(rQ name U).map (·.isSome)=g lX;rw[R,L];rfl) h
def QG{ns:List J}{Q:Unit->lZ->Prop}(X:K.In s.heap)(R:kS s.heap x dx C mA)
  (H:zAD K (.ref C) "__setattr__"=g (g (.builtin "object.__setattr__"))) (l:sS K C=B) (d:zCi K C name=g M) (k:zBH K C=B)
  (j:v8 mA ns) (n:ns.length<=sizeLine)
  (h:∀h',kS h' x dx C (λy=>if y=name then g v else mA y)->zBa dx s.heap h'->Q () { s with heap:=h',toks:=s.toks+2 }) :
  mO (mP prog w) A (setAttr (.ref x) name v) Q E s:=by
 let[u,P,q]:=R.look;refine xG X P H (PySem.W.osa_open (s:={ s with toks:=s.toks+1 }) (r:=M) X P l d λb=>?_);let[m,c,W]:=tJ k;let N:s.heap.get? x=g [.ref C,g dx,.plain,#v[]]:=R.obj;refine zCw (zCx (zCw (zCw (tF N (zCw (zCf.here (s:={ s with toks:=s.toks+1 }) (sF X c) ?_))))));rw[W];refine zCx (a:=g dx) (zCw (zCx (zCw ?_)));refine wpAny_nsSet1 (s:={ s with toks:=s.toks+1 }) R.ns λh' F z=>?_;let[p,o,t,U,S,L]:=F.count (PySem.Within.cons name v j);refine zCw (wpAny_lookBehind U (by rw[S];exact pastItsLine_dict (zAG L (by rw[zAd];lia))) ?_);exact zCx (h _ [(z.2 _ (oC R.ne)).trans R.obj,F,R.ne] z)
def S0{R:wU->lZ->Prop}{vs:List lV}(X:K.In s.heap)(F:zCj K C=B)
  (P:zAD K (.ref C) "__init__"=g (g (.ref f))) (L:PySem.W.typeIn K (.ref f)=g (.type "function"))
  (h:pT (mP prog w) (A.under (.builtin "type.__call__" [.ref C::vs,b])) (.call (.ref f) [.ref (⇑s+1)::vs,b]) (xY (⇑s+1) R)
   { s with heap:=(s.heap.push zAS).push (zAZ C ⇑s) }) :
  pT (mP prog w) A (.call (.ref C) [vs,b]) R s:=by
 let[N,H,d,t,Q]:=s;exact xH (tH X F) (zBz X P) (λz=>PySem.W.bind_fn X z L) (.inl I) h
def GV{R:wU->lZ->Prop}(X:K.In s.heap)(F:zCj K C=B)
  (P:zAD K (.ref C) "__init__"=g (g (.builtin "object.__init__")))
  (L:∀z,zCf (mP prog w) s.heap (bindSpecial (.builtin "object.__init__") z) (.builtin "object.__init__",#[z]))
  (h:pT (mP prog w) (A.under (.builtin "type.__call__" [#[.ref C],[]])) (.call (.builtin "object.__init__") [#[.ref (⇑s+1)],[]]) (xY (⇑s+1) R)
   { s with heap:=(s.heap.push zAS).push (zAZ C ⇑s) }) :
  pT (mP prog w) A (.call (.ref C) [[],[]]) R s:=by
 let[N,H,d,t,Q]:=s;exact xH (tH X F) (zBz X P) L (.inr [I,I]) h
end
def Cw(f:J)(v:V):List (J×V)->List (J×V)
 |[]=>#[(f,v)]
 |(C,x)::r=>if C=f then(C,v)::r else(C,x)::Cw f v r
theorem Bo(f C:J)(v:V):∀H:List (J×V),(Cw f v H).lookup C=if C=f then g v else H.lookup C
 |[]=>by
  show zBR C #[(f,v)]=_;by_cases h:C=f
  .have z:(C==f)=B:=beq_iff_eq.mpr h
   simp only[zBR,z,mS h]
  .have z:(C==f)=lX:=beq_eq_false_iff_ne.mpr h
   simp only[zBR,z,mK h]
 |(k,x)::r=>by
  let L:=Bo f C v r;rw[show Cw f v ((k,x)::r)=(if k=f then(k,v)::r else(k,x)::Cw f v r) from rfl];by_cases F:k=f
  .rw[mS F]
   by_cases h:C=k
   .have z:(C==k)=B:=beq_iff_eq.mpr h
    simp only[zBR,z,mS (h.trans F)]
   .have z:(C==k)=lX:=beq_eq_false_iff_ne.mpr h
    simp only[zBR,z,mK (λe:C=f=>h (e.trans F.symm))]
  .rw[mK F]
   by_cases h:C=k
   .have z:(C==k)=B:=beq_iff_eq.mpr h
    simp only[zBR,z,mK (λe:C=f=>F (h.symm.trans e))]
   .have z:(C==k)=lX:=beq_eq_false_iff_ne.mpr h
    simp only[zBR,z];exact L
theorem Ur(f:J)(v:V):∀H:List (J×V),f∈(Cw f v H).map (·.1)/\∀C,C∈H.map (·.1)->C∈(Cw f v H).map (·.1)
 |[]=>[by simp[Cw],λC h=>by simp at h]
 |(k,x)::r=>by
  let[F,L]:=Ur f v r;rw[show Cw f v ((k,x)::r)=(if k=f then(k,v)::r else(k,x)::Cw f v r) from rfl];by_cases z:k=f
  .rw[mS z]
   subst z;exact[zZ,λC h=>by simpa using h]
  .rw[mK z]
   refine[?_,λC h=>?_]
   .rw[zAr]
    exact zAh _ F
   .rw[zAr]at h⊢
    rcases zAg.mp h with e|e
    .exact zAg.mpr (.inl e)
    .exact zAh _ (L C e)
theorem Vk(f:J)(v:V):∀C:List (J×V),(Cw f v C).length<=C.length+1
 |[]=>by simp[Cw]
 |(k,x)::r=>by
  let H:=Vk f v r;rw[show Cw f v ((k,x)::r)=(if k=f then(k,v)::r else(k,x)::Cw f v r) from rfl];by_cases z:k=f
  .rw[mS z,zAd,zAd];lia
  .rw[mK z,zAd,zAd];lia
def jV.some_of{v:V}{o:Option lV}(r:jV (g v) o):∃u,o=g u/\Bq v u:=by
 cases o with
 |none=>exact(show False from r).elim
 |some u=>exact[u,I,r]
def jV.none_of{o:Option lV}(r:jV M o):o=M:=by
 cases o with
 |none=>rfl
 |some u=>exact(show False from r).elim
def Zi{v:V}{u:lV}(r:Bq v u):tI u=B:=by
 cases v with
 |non=>cases (show u=mT from r);rfl
 |bl b=>cases (show u=oW b from r);rfl
 |int i=>let[t,e]:=(show ∃t,u=tV i t from r);cases e;rfl
 |str x=>let[t,e]:=(show ∃t,u=qG x t from r);cases e;rfl
 |byt b=>let[t,e]:=(show ∃t,u=Value.bytes b t from r);cases e;rfl
 |flt b=>let[t,e]:=(show ∃t,u=wS b t from r);cases e;rfl
 |ref a=>cases (show u=mG a from r);rfl
 |ty n=>cases (show u=pU n from r);rfl
section
variable {P:mF} {w:mR} {H:Hp} {h:mX} {a C dx:T} {fs:List (J×V)}
def Wg(F:jR P w H h)(e:H a=g (.ins C dx fs)):∃N,kS h a dx C N/\(∀f,jV (fs.lookup f) (N f))/\v8 N (fs.map (·.1))/\fs.length<=1000/\H dx=g (.own a):=by
 let[d,z,Q,L,N,n,r,q]:=(show Cg P w H h a (.ins C dx fs) from F a _ e);exact[N,[L,n,Q],r,q,z,d]
end
structure kF(K:zAa)(C:T):Prop where
 pg:zCb K C qB=B
 hd:zBH K C=B
 po:sS K C=B
 sa:zAD K (.ref C) "__setattr__"=g (g (.builtin "object.__setattr__"))
def kF.get{K}{C}(c:kF K C)(f:J):zCb K C f=B:=c.pg
def Bk(K:zAa)(C:T)(f:J):Prop:=zAD K (.ref C) f=g M
def Bk.taker{K}{C}{f}(n:Bk K C f):zCi K C f=g M:=by
 unfold zCi;rw[show zAD K (.ref C) f=g M from n];rfl
structure IT(K:zAa)(C:T)(m:J)(f:T):Prop where
 at_:zAD K (.ref C) m=g (g (.ref f))
 fn:zBF K (.ref f)=B
 kp:zAH K (.ref f)=B
section
variable {X:Cx} {pins:List (T×oH)} {σ:St} {H:Hp} {s:lZ} {a C dx:T} {fs:List (J×V)} {f:J} {v:V} {A:mZ} {E:lV->lZ->Prop}
def AJ{b:Bool}{Q:lV->lZ->Prop}(L:Am X pins σ H s)(e:H a=g (.ins C dx fs))(c:kF X.K C)(n:Bk X.K C f)(l:fs.lookup f=g v)
  (h:∀u P,Am X pins σ H P->Bq v u->Q u P):mO (mP X.prog X.w) A (yR (.ref a) f b) Q E s:=by
 let[R,N,r,_,_,_]:=Wg L.hok e;let[u,F,z]:=jV.some_of (v:=v) (o:=R f) (by rw[<- l];exact r f);exact QO L.kIn N (c.get f) c.hd n F (Zi z) (h u _ (L.tok _) z)
def Lw{pl:vH Bool}{Q:lV×List lV->lZ->Prop}(N:Am X pins σ H s)(e:H a=g (.ins C dx fs))(c:kF X.K C)(k:IT X.K C m b)(l:fs.lookup m=M)
  (h:Q (.ref b,#[.ref a]) s):mO (mP X.prog X.w) A (pS (.ref a) m pl) Q E s:=by
 let[P,L,r,_,_,_]:=Wg N.hok e;let R:P m=M:=jV.none_of (by rw[<- l];exact r m);exact JM N.kIn L (c.get m) k.at_ k.fn R h
def AZ{y:V}{u:lV}{Q:Unit->lZ->Prop}(W:Am X pins σ H s)(e:H a=g (.ins C dx fs))(c:kF X.K C)(n:Bk X.K C f)(m:fs.length<1000)(p:Bq y u)
  (h:∀j,Am X pins σ (upd H a (.ins C dx (Cw f y fs))) j->Q () j):mO (mP X.prog X.w) A (setAttr (.ref a) f u) Q E s:=by
 let[d,K,r,S,_,L]:=Wg W.hok e;let R:(fs.map (·.1)).length<=sizeLine:=by rw[zAb,zCy];lia
 refine QG W.kIn K c.sa c.po n.taker c.hd S R λw F P=>h _ ?_;let U:∃o,w.get? dx=g o:=let [o,_,_,k,_]:=F.ns;[o,k]
 refine W.write (x:=a) (e:=dx) (by rw[e];exact oX) (.inr L) (λb q t z=>(P.2 b t).trans z) U ?_;refine[by rw[Ak K.ne];exact L,?_,K.ne,F.obj,_,F.ns,λN=>?_,λN l=>?_]
 .have:=Vk f y fs;lia
 .show jV ((Cw f y fs).lookup N) (if N=f then g u else d N)
  rw[Bo];by_cases q:N=f
  .rw[mS q,mS q];exact p
  .rw[mK q,mK q];exact r N
 .by_cases q:N=f
  .rw[q];exact(Ur f y fs).1
  .refine(Ur f y fs).2 N (S N λz=>l ?_)
   show(if N=f then g u else d N)=M;rw[mK q];exact z
def Am.made(N:Am X pins σ H s):Am X pins σ (upd (upd H ⇑s (.own (⇑s+1))) (⇑s+1) (.ins C ⇑s []))
  { s with heap:=(s.heap.push zAS).push (zAZ C ⇑s) }:=by
 let z:(s.heap.push zAS).get? ⇑s=g zAS:=zAJ s.heap I;let F:((s.heap.push zAS).push (zAZ C ⇑s)).get? (⇑s+1)=g (zAZ C ⇑s):=by
  let:=zAJ (s.heap.push zAS) (o:=zAZ C ⇑s) I
  rwa[zCp]at this
 let P:(s.heap.push zAS).Ns ⇑s (λx=>M):=[zAS,#v[],_,z,I,(λe S=>mC S zZ),λx=>I];let U:=N.laid (a:=⇑s) (o:=.own (⇑s+1)) (h':=s.heap.push zAS) (t':=s.toks) (λb u q=>zAk _ q) (zAm _) [_,z];refine U.laid (a:=⇑s+1) (o:=.ins C ⇑s []) (t':=s.toks) (λb u q=>zAk _ q) (Nat.le_of_eq (zCp _ _)) ?_;let Q:⇑s≠⇑s+1:=zAu (zCc _);refine[by rw[Ak Q,Aa],zAy _,Q,F,λx=>M,(xF P).at λo q=>zAk _ q,λx=>oX,λy L=>mC I L]
def BV{prog:mF}{w:mR}{env:sB}{e:nY}{f:J}{s:lZ}{Q:lV->lZ->Prop}(F:pI e f env (nU e env)=nU e env)
  (h:mO (mP prog w) A (nU e env) (λo z=>mO (mP prog w) A (yR o f B) Q E z) E s):mO (mP prog w) A (nU (.Attribute e f b) env) Q E s:=
 Attribute_any_ h (by rw[arm_eval_Attribute,F])
end
inductive hU(K:zAa)(f:J)(x:V)(H1:Hp)(Q:VK):Prop
 |mk (a C dx:T) (fs:List (J×V)) (v:V) (e:x=.ref a) (h:H1 a=g (.ins C dx fs)) (c:kF K C) (n:Bk K C f) (l:fs.lookup f=g v) (q:Q v H1)
def bO(K:zAa)(L:TE)(f:J):TE:=λC H Q=>L C H λx N=>hU K f x N Q
def eL(K:zAa)(W U:TE)(f:J):TS:=λD L H=>U L H λy R=>W L R λx Q=>∃a C P N,x=.ref a/\Q a=g (.ins C P N)/\kF K C/\Bk K C f/\N.length<1000 /\
 D.nx L (upd Q a (.ins C P (Cw f y N)))
section
variable {X:Cx} {o e value:nY} {f:J} {pos pos':uL} {ta tv:TE}
def Cj(S:PE X e ta)(U:pI e f X.env (nU e X.env)=nU e X.env):PE X (.Attribute e f pos) (bO X.K ta f):=by
 intro A s b H Q W h;refine BV U (Er (S A s b H _ W h) λu j P=>?_);let[x,E,N,F,a,C,k,p,v,K,z,c,n,l,q]:=P;subst K;obtain rfl:u=mG a:=F;exact AJ N z c n l λd r R L=>[v,E,R,L,q]
def Dj(z:PE X o ta)(Q:PE X value tv)(P:tO value (g (.Attribute o f pos')) pos.line X.env=pure lX):PS X (.Assign #[.Attribute o f pos'] value pos) (eL X.K ta tv f):=by
 intro W s A H D R h;refine vE (Er (Q W s A H _ R h) λu p ⟨y,K,E,d,q⟩=>Er (z W p A K _ E q) λS w k=>?_) P;let[x,t,U,L,a,C,v,m,j,F,c,n,l,b]:=k;subst j;obtain rfl:S=mG a:=L;exact AZ U F c n l d λr N=>[A,_,N,b]
def TU{pl:vH Bool}{pins:List (T×oH)}{s:lZ}{σ:St}{H:Hp}{Q:lV->lZ->Prop}(S:PE X e b)(R:Am X pins σ H s)
  (h:b σ H λx A=>∃a C dx E N,x=.ref a/\A a=g (.ins C dx E)/\kF X.K C/\IT X.K C m N/\E.lookup m=M /\
   ∀z,Am X pins σ A z->mO (mP X.prog X.w) X.A (qX pos (.ref N) #[.ref a] (oB pos (mH args X.env)) (qC pos (oQ [] X.env))) Q X.xe z)
  (P:nU (.Call (.Attribute e m apos) args [] pos) X.env=(do
   let K <- nU e X.env
   qP apos.atName
   let (f,first) <- pC #[K] (pS K m pl)
   qX pos f first (oB pos (mH args X.env)) (qC pos (oQ [] X.env)))) :
  mO (mP X.prog X.w) X.A (nU (.Call (.Attribute e m apos) args [] pos) X.env) Q X.xe s:=by
 refine zBv (pl:=pl) (Er (S pins s σ H _ R h) λu z U=>?_) P;let[x,A,F,W,a,C,dx,E,N,d,L,c,k,l,q]:=U;subst d;obtain rfl:u=mG a:=W;exact Lw F L c k l (q z F)
end
section
variable {X:Cx} {pins:List (T×oH)} {σ:St} {H:Hp} {s:lZ} {A:mZ} {E:lV->lZ->Prop} {Q:lV->lZ->Prop} {c:lV} {b:Bool}
inductive Cy(K:zAa)(H:Hp):V->lV->Prop where
 |non:Cy K H .non (.type "NoneType")
 |bl (x:Bool):Cy K H (.bl x) (.type "bool")
 |int (i:Int):Cy K H (.int i) (.type "int")
 |str (x:J):Cy K H (.str x) (.type "str")
 |flt (x:UInt64):Cy K H (.flt x) (.type "float")
 |lst {a:T} {xs:List V} (e:H a=g (.lst xs)):Cy K H (.ref a) (.type "list")
 |frz {a:T} {o:oH} {xs:List V} (e:H a=g (.frz o (.lst xs))):Cy K H (.ref a) (.type "list")
 |tup {a:T} {xs:List V} (e:H a=g (.tup xs)):Cy K H (.ref a) (.type "tuple")
 |dK {a:T} {kvs:List (Rw×V)} (e:H a=g (.dK kvs)):Cy K H (.ref a) (.type "dict")
 |dT {a:T} {kvs:List (List Rw×V)} (e:H a=g (.dT kvs)):Cy K H (.ref a) (.type "dict")
 |ins {a C dx:T} {fs:List (J×V)} (e:H a=g (.ins C dx fs)) (cl:kF K C) (ha:zAD K (.ref C) "__class__"=g (g (.builtin "object.__class__")))
   (hn:zBZ K (.builtin "object.__class__") "__get__"=g (g (.builtin "getset_descriptor.__get__"))) (htk:yI K (.builtin "object.__class__")=g B)
   (hm:uZ K C (.type "object")=g B):Cy K H (.ref a) (.ref C)
def FG{x}{u t}(P:Am X pins σ H s)(R:Bq x u)(v:Cy X.K H x t)(e:zAL X.K t c=g b)(h:∀m,Q (.bool b) { s with toks:=m }) :
  mO (mP X.prog X.w) A (call (.builtin "isinstance") #[u,c]) Q E s:=by
 cases v with
 |non=>cases (show u=mT from R);exact zBj PySem.W.kitx_none P.kIn oX e (λz=>nomatch z) h
 |bl y=>cases (show u=oW y from R);exact zBj PySem.W.kitx_bool P.kIn oX e (λz=>nomatch z) h
 |int i=>let[t,q]:=(show ∃t,u=tV i t from R);cases q;exact zBj PySem.W.kitx_int P.kIn oX e (λz=>nomatch z) h
 |str y=>let[t,q]:=(show ∃t,u=qG y t from R);cases q;exact zBj PySem.W.kitx_str P.kIn oX e (λz=>nomatch z) h
 |flt y=>let[t,q]:=(show ∃t,u=wS y t from R);cases q;exact zBj PySem.W.kitx_float P.kIn oX e (λz=>nomatch z) h
 |@lst a K U=>
  cases (show u=mG a from R)
  let[_,_,n,_,W]:=(show Cg X.prog X.w H s.heap a (.lst K) from P.hok a _ U);exact zBj xI P.kIn [_,W,I] e (λz=>nomatch z) h
 |@frz a w K U=>
  cases (show u=mG a from R)
  let[_,_,_,n,_,W]:=(show Cg X.prog X.w H s.heap a (.frz w (.lst K)) from P.hok a _ U);exact zBj xI P.kIn [_,W,I] e (λz=>nomatch z) h
 |@tup a K U=>
  cases (show u=mG a from R)
  let[_,_,_,p]:=(show Cg X.prog X.w H s.heap a (.tup K) from P.hok a _ U);let[o,W,S,_]:=p;exact zBj PySem.W.kitx_tuple P.kIn [o,W,S] e (λz=>nomatch z) h
 |@dK a F U=>
  cases (show u=mG a from R)
  let[_,_,vs,_,p]:=(show Cg X.prog X.w H s.heap a (.dK F) from P.hok a _ U);let[o,k,r,W,S,_]:=p;exact zBj xJ P.kIn [o,W,S.1] e (λz=>nomatch z) h
 |@dT a F U=>
  cases (show u=mG a from R)
  let[_,_,K,_,o,k,r,W,S,_]:=(show Cg X.prog X.w H s.heap a (.dT F) from P.hok a _ U);exact zBj xJ P.kIn [o,W,S.1] e (λz=>nomatch z) h
 |@ins a C dx fs U f l j d hm=>
  cases (show u=mG a from R)
  let[mA,L,_]:=Wg P.hok U;let[od,N,_]:=L.look;exact zBj (PySem.W.kitx_own (f.get _) f.hd l j d hm) P.kIn N e (λz=>nomatch z) h
end
structure Cc(k:Nat)(A:mZ):Prop where
 hd:A.handled=M
 dp:A.depth+3*k+5<tG
 un:A.units+16*k+200<pQ
def Cc.mono{j k:Nat}{A:mZ}(r:Cc k A)(h:j<=k):Cc j A:=[r.hd,by let:=r.dp;lia,by let:=r.un;lia]
def Cc.deeper{k:Nat}{A:mZ}(r:Cc (k+1) A)(env:sB):Cc k (A.deeper env):=
 [r.hd,by let:=r.dp;show A.depth+1+3*k+5<_;lia,by let:=r.un;show A.units+3+16*k+200<_;lia]
def Xy{A:mZ}{C:T}{us:List lV}{z:List (J×lV)}:(A.under (.builtin "type.__call__" [.ref C::us,z])).depth=A.depth+1:=by
 first|rfl|simp[v4,Code.weight,Code.isCreation,Code.isGuard,Code.isCaller,Code.frames,wJ,guardIds]
def Xk{A:mZ}{C:T}{us:List lV}{z:List (J×lV)}:(A.under (.builtin "type.__call__" [.ref C::us,z])).units=A.units+1:=by
 first|rfl|simp[v4,Code.cUnits,Code.frames,wJ]
def Cc.make{k:Nat}{A}(r:Cc (k+1) A)(C:T)(us:List lV)(z:List (J×lV)):Cc k (A.under (.builtin "type.__call__" [.ref C::us,z])):=
 [r.hd,by let:=r.dp;rw[Xy];lia,by let:=r.un;rw[Xk];lia]
def Cc.depth{k:Nat}{A:mZ}(r:Cc k A):A.depth<tG:=by let:=r.dp;lia
def Cc.units{k:Nat}{A:mZ}(r:Cc k A):A.units+64<pQ:=by let:=r.un;lia
def Cc.units0{k:Nat}{A:mZ}(r:Cc k A):A.units<pQ:=by let:=r.un;lia
def AH:TA:=λx H Q=>Q [] H
def EJ(U:TE)(N:TA):TA:=λC H Q=>U C H λx P=>N C P λL R=>Q (x::L) R
section
variable {X:Cx} {e:nY} {es:List nY} {te:TE} {t:TA} {pos:uL}
def Iw:PA X [] AH:=λx x x x H Q C h=>qU [[],H,C,.nil,h]
def Aw(z:PE X e te)(c:PA X es t)(L:mH (e::es) X.env=(lX,nU e X.env)::mH es X.env:=by rfl):PA X (e::es) (EJ te t):=by
 intro pos W s A H Q P h;rw[L];show mO _ _ (spliced ((lX,nU e X.env)::oB pos (mH es X.env))) _ _ s;refine pV (Er (z W s A H _ P h) λu d C=>?_);let[x,K,U,S,f]:=C;exact Er (c pos W d A K _ U f) λj k ⟨E,b,R,F,N⟩=>[x::E,b,R,.cons S F,N]
inductive eI(xs:List V)(H:Hp)(Q:VK):Prop
 |mk (l:xs.length<=sizeLine) (q:∀p,H p=M->Q (.ref p) (upd H p (.tup xs)))
def fH(t:TA):TE:=λL H Q=>t L H λC N=>eI C N Q
inductive gY(xs:List V)(H:Hp)(Q:VK):Prop
 |mk (l:xs.length<=sizeLine) (q:∀p,H p=M->Q (.ref p) (upd H p (.lst xs)))
def dH(t:TA):TE:=λL H Q=>t L H λC N=>gY C N Q
def Du{S}(h:PA X es t):PE X (.Tuple es S pos) (fH t):=by
 intro P s E H Q C U;refine wpAny_Tuple_spliced (Er (h pos P s E H _ C U) λA F ⟨W,R,L,r,z,q⟩=>[by rw[<- r.length];exact z,?_]);let N:R ⇑F=M:=L.hok.fresh (zAm _);refine[.ref ⇑F,upd R ⇑F (.tup W),L.laid (t':=F.toks) (λb u e=>zAk _ e) (zAm _) ?_,I,q _ N];exact[z,A,r,[_,zAJ _ I,I,_,I]]
def Ca(h:PA X es t):PE X (.List es pos) (dH t):=by
 intro P s A H Q C N;refine wpAny_List_spliced (Er (h pos P s A H _ C N) λW F ⟨U,R,L,r,z,q⟩=>[by rw[<- r.length];exact z,?_]);let S:R ⇑F=M:=L.hok.fresh (zAm _);refine[.ref ⇑F,upd R ⇑F (.lst U),L.laid (t':=F.toks) (λb u e=>zAk _ e) (zAm _) ?_,I,q _ S];exact[z,W,0,r,zAJ _ I]
end
abbrev Sp:=List V->Hp->VK->XK->Prop
abbrev GR:=List sB->Hp->lZ->XK->lV->lZ->Prop
structure kE(P:mF)(w:mR)(K:zAa)(mg:J->Option lV)(base:mX)(A:mZ)(outer:List sB)(s:lZ)(H:Hp):Prop where
 frames:A.frames=g outer
 mod:Mod K mg base
 bs:∀b o,base.get? b=g o->s.heap.get? b=g o/\H b=M
 bsz:base.objs.size<=⇑s
 funs:s.heap.FunFrames base outer
 frf:∀b∈Vz outer,H b=M
 hok:jR P w H s.heap
 bare:qJ s.gens
def CE(outer:List sB)(P:mF)(w:mR)(H:Hp)(s:lZ)(Q:VK)(u:lV)(C:lZ):Prop:=
 ∃v L,C.os=s.os/\qJ C.gens/\Un (Vz outer) [] H L s.heap C.heap/\jR P w L C.heap/\Bq v u/\Q v L
def CR(CX:GR)(outer:List sB)(P:mF)(w:mR)(H:Hp)(s:lZ)(Q:VK)(E:XK)(r:wU)(C:lZ):Prop:=
 match r with
 |.ok (.ret u)=>CE outer P w H s Q u C
 |.ok _=>False
 |.error e=>CX outer H s E e C
structure Ar(P:mF)(w:mR)(K:zAa)(mg:J->Option lV)(base:mX)(CX:GR)(k:Nat)(f:T)(fd:zCA)(ps:List J)(sp:Sp):Prop where
 len:∀vs H Q E,sp vs H Q E->vs.length=ps.length
 run:∀(A:mZ) (outer:List sB) (s:lZ) (H:Hp) (args:Args) (us:List lV) (vs:List V) (Q:VK) (E:XK),Cc k A->kE P w K mg base A outer s H->vD s fd args (ps.zip us)->Bc vs us->sp vs H Q E ->
  pT (mP P w) A (.call (.ref f) args) (CR CX outer P w H s Q E) s
def Ar.mono{P}{w}{K}{N:J->Option lV}{C}{CX}{j k:Nat}{f}{R}{ps}{sp}(F:Ar P w K N C CX j f R ps sp)(h:j<=k) :
  Ar P w K N C CX k f R ps sp:=[F.len,λA L s H z X W Q E U=>F.run A L s H z X W Q E (U.mono h)]
def Ar.imp{P}{w}{K}{X:J->Option lV}{N}{CX}{k:Nat}{f}{b}{ps}{sp W}(F:Ar P w K X N CX k f b ps sp)
  (h:∀vs H Q E,W vs H Q E->sp vs H Q E):Ar P w K X N CX k f b ps W:=
 [λvs H Q E q=>F.len vs H Q E (h _ _ _ _ q),λA R s H z c vs Q E d C U S L=>F.run A R s H z c vs Q E d C U S (h _ _ _ _ L)]
def kE.make{P}{w}{K}{N:J->Option lV}{L}{A}{outer}{s}{H}(e:kE P w K N L A outer s H)(C:T)(us:List lV)(z:List (J×lV)) :
  kE P w K N L (A.under (.builtin "type.__call__" [.ref C::us,z])) outer s H:=[by first|exact e.frames|(simpa[v4,Code.envs,wJ,pushEnvs]using e.frames),e.mod,e.bs,e.bsz,e.funs,e.frf,e.hok,e.bare]
section
variable {X:Cx} {pins:List (T×oH)} {σ:St} {H:Hp} {s s':lZ}
def Am.env0(C:Am X pins σ H s):kE X.prog X.w X.K X.mg X.base X.A X.stack s H:=
 [C.ok.frames,C.ok.mod,C.bs,zAG C.ok.bsz C.sz,C.stack,C.stkFree,C.hok,C.bare]
def Am.after{Q:VK}{u:lV}(N:Am X pins σ H s)(h:CE X.stack X.prog X.w H s Q u s'):EP X pins σ Q u s':=by
 let[v,W,U,F,R,P,r,q]:=h;let[S,C,d,t,L]:=s';obtain rfl:L=s.os:=U;exact[v,W,N.call (h':=S) (g':=C) (d':=d) (t':=t) (ch:=[]) R P F (λb z=>mC z zZ),r,q]
end
def DP(sp:Sp)(C:List V)(E:XK)(t:TA):TE:=λN H Q=>t N H λL P=>sp (L++C) P Q E
inductive bR(C:T)(m:J)(x:V)(H:Hp)(R:Prop):Prop
 |mk (a dx:T) (fs:List (J×V)) (e:x=.ref a) (h:H a=g (.ins C dx fs)) (n:fs.lookup m=M) (q:R)
def SN(C:T)(m:J)(sp:Sp)(L:List V)(E:XK)(U:TE)(t:TA):TE:=λN H Q=>U N H λx P=>bR C m x P (t N P λR W=>sp (x::(R++L)) W Q E)
def TZ(C:T)(sp:Sp)(P:List V)(E:XK)(t:TA):TE:=λR H Q=>t R H λU N=>∀x L,N x=M->N L=M->L≠x ->
 sp (.ref x::(U++P)) (upd (upd N L (.own x)) x (.ins C L [])) (λv W=>v=.non/\Q (.ref x) W) E
def Dc(K:zAa)(H:zCA)(ps:List J)(ds:List lV):Prop:=
 ∀(s:lZ) (C:List lV),K.In s.heap->(C++ds).length=ps.length->vD s H [C,[]] (ps.zip (C++ds))
def Dc.all{K}{H}{ps}(h:∀us:List lV,us.length=ps.length->bindArgs H [us,[]]=pure (ps.zip us)):Dc K H ps []:=λs us x C=>by
 rw[zAA]at C⊢;exact .of_eq (h us C)
def Ub(CX:GR)(X:Cx)(E:XK):Prop:=∀(C:List (T×oH)) (N:St) (H:Hp) (s:lZ) (e:lV) (L:lZ),Am X C N H s->CX X.stack H s E e L->X.xe e L
section
variable {X:Cx} {CX:GR} {k:Nat} {f C:T} {fd:zCA} {ps:List J} {sp:Sp} {dvs:List V} {ds:List lV} {E:XK} {x m:J} {p pos apos:uL} {e o:nY} {es:List nY} {ta:TE} {t:TA}
def L1{pins:List (T×oH)}{σ:St}{H:Hp}{s:lZ}{Q:VK}{us:List lV}{vs:List V}(F:Ar X.prog X.w X.K X.mg X.base CX k f fd ps sp)(W:Cc k X.A)(U:Dc X.K fd ps ds)(R:Bc dvs ds)(S:Ub CX X E)
  (P:Am X pins σ H s) (r:Bc vs us) (h:sp (vs++dvs) H Q E):mO (mP X.prog X.w) X.A (call (.ref f) us) (EP X pins σ Q) X.xe s:=by
 let L:Bc (vs++dvs) (us++ds):=r.append R;let K:(us++ds).length=ps.length:=by rw[<- L.length];exact F.len _ _ _ _ h
 refine oV (oG (F.run X.A X.stack s H [us,[]] (us++ds) (vs++dvs) Q E W P.env0 (U s us P.kIn K) L h) λr A z=>?_);cases r with
 |error e=>exact S pins σ H s e A P z
 |ok N=>
  cases N with
  |ret u=>exact P.after z
  |next=>exact nD z
  |brk=>exact nD z
  |cont=>exact nD z
def QW(F:Ar X.prog X.w X.K X.mg X.base CX k f fd ps sp)(d:Cc k X.A)(b:Gl X x)(U:X.mg x=g (.ref f))(l:zAH X.K (.ref f)=B)(P:Dc X.K fd ps ds)(W:Bc dvs ds)(N:Ub CX X E)
  (S:PA X (e::es) t) (z:(x==("__debug__" : J))=lX:=by lk) (c:mH (e::es) X.env=(lX,nU e X.env)::mH es X.env:=by rfl) (K:(oB pos (mH es X.env)).any (·.1)=lX:=by rfl) :
  PE X (.Call (.Name x p) (e::es) [] pos) (DP sp dvs E t):=by
 intro A s j H Q R h;refine nQ (Fz R b U ?_ z);refine zBk (h₀:=X.base) R.ok.mod.kin l (Er (S pos A s j H _ R h) λv w ⟨y,u,L,r,q⟩=>[L.kIn,?_]) c K;exact L1 F d P W N L r q
def NU{pl:vH Bool}(N:PE X o ta)(c:kF X.K C)(L:IT X.K C m f)(F:Ar X.prog X.w X.K X.mg X.base CX k f fd ps sp)(r:Cc k X.A)(w:Dc X.K fd ps ds)(W:Bc dvs ds)(P:Ub CX X E)
  (d:nU (.Call (.Attribute o m apos) [] [] pos) X.env=(do
   let K <- nU o X.env
   qP apos.atName
   let (f,first) <- pC #[K] (pS K m pl)
   qX pos f first (oB pos (mH [] X.env)) (qC pos (oQ [] X.env))):=by rfl) :
  PE X (.Call (.Attribute o m apos) [] [] pos) (SN C m sp dvs E ta AH):=by
 intro A s v H Q R h;refine zBv (pl:=pl) (Er (N A s v H _ R h) λu n j=>?_) d;let[x,y,z,U,a,i,fs,b,S,l,q]:=j;subst b;obtain rfl:u=mG a:=U;refine Lw z S c L l ?_;exact zCg (first:=#[.ref a]) z.kIn L.kp (L1 (us:=#[.ref a]) (vs:=#[.ref a]) F r w W P z (.cons I .nil) q)
structure Mk(K:zAa)(C f:T):Prop where
 makes:zCj K C=B
 init:zAD K (.ref C) "__init__"=g (g (.ref f))
 fn:zBF K (.ref f)=B
 kp:zAH K (.ref C)=B
def JK{pins:List (T×oH)}{σ:St}{H:Hp}{s:lZ}{Q:VK}{us:List lV}{vs:List V}(M:Mk X.K C f)(F:Ar X.prog X.w X.K X.mg X.base CX k f fd ps sp)(c:Cc (k+1) X.A)(l:Dc X.K fd ps ds)(U:Bc dvs ds)
  (A:Ub CX X E) (R:Am X pins σ H s) (r:Bc vs us)
  (h:∀x dx,H x=lW->H dx=lW->dx≠x->sp (.ref x::(vs++dvs)) (upd (upd H dx (.own x)) x (.ins C dx [])) (λv H2=>v=.non/\Q (.ref x) H2) E) :
  mO (mP X.prog X.w) X.A (call (.ref C) us) (EP X pins σ Q) X.xe s:=by
 let S:=h (⇑s+1) ⇑s (R.hok.fresh (zBW _)) (R.hok.fresh (zAm _)) (zAu (zCc _));let L:=Am.made (C:=C) R;let W:Bc (V.ref (⇑s+1)::(vs++dvs)) (mG (⇑s+1)::(us++ds)):=.cons I (r.append U);let K:(mG (⇑s+1)::us++ds).length=ps.length:=by
  let e:=W.length;rw[F.len _ _ _ _ S]at e;exact e.symm
 refine oV (S0 (f:=f) R.kIn M.makes M.init (beq_iff_eq.mp M.fn) (oG (F.run _ X.stack _ _ [mG (⇑s+1)::us,[]] (mG (⇑s+1)::(us++ds)) _ _ E (c.make C us [])
  (L.env0.make C us []) (l _ (mG (⇑s+1)::us) L.kIn K) W S) λr d z=>?_))
 cases r with
 |error e=>exact A pins σ _ _ e d L z
 |ok N=>
  cases N with
  |ret u=>
   let[v,q,b,w,P,j]:=L.after z;subst P;exact[w,[V.ref (⇑s+1),q,b,I,j]]
  |next=>exact nD z
  |brk=>exact nD z
  |cont=>exact nD z
def OT(M:Mk X.K C f)(F:Ar X.prog X.w X.K X.mg X.base CX k f fd ps sp)(d:Cc (k+1) X.A)(b:Gl X x)(U:X.mg x=g (.ref C))(P:Dc X.K fd ps ds)(W:Bc dvs ds)(N:Ub CX X E)
  (S:PA X (e::es) t) (z:(x==("__debug__" : J))=lX:=by lk) (c:mH (e::es) X.env=(lX,nU e X.env)::mH es X.env:=by rfl) (K:(oB pos (mH es X.env)).any (·.1)=lX:=by rfl) :
  PE X (.Call (.Name x p) (e::es) [] pos) (TZ C sp dvs E t):=by
 intro A s j H Q R h;refine nQ (Fz R b U ?_ z);refine zBk (h₀:=X.base) R.ok.mod.kin M.kp (Er (S pos A s j H _ R h) λu v ⟨w,l,L,r,q⟩=>[L.kIn,?_]) c K;exact JK M F d P W N L r q
end
structure Cb(N P:List J)(sc:rJ):Prop where
 kind:sc.kind=.function
 co:sc.isCoroutine=lX
 gen:sc.isGenerator=lX
 nd:N.Nodup
 pre:N.take P.length=P
 par:∀x∈P,sc.names.lookup x=g .local\/sc.names.lookup x=g .cell
 nofree:∀y∈sc.names,y.2≠.free
theorem A1{z:J->Option pH}{x:J}:∀{C} {m:J->Option lV},(∀v,(x,v)∉C)->wQ z C m x=m x
 |[],_,_=>rfl
 |(n,v)::r,m,h=>by
  unfold wQ;rw[A1 λw F=>h w (zAh _ F)]
  split
  .have:x≠n:=by rintro rfl;exact h v zAl
   simp[this]
  .rfl
theorem B9{z:J->Option pH}{x:J}:∀{C} {m:J->Option lV},(∀v,(x,v)∉C)->wR z C m x=m x
 |[],_,_=>rfl
 |(n,v)::r,m,h=>by
  unfold wR;rw[B9 λw F=>h w (zAh _ F)]
  split
  .rfl
  .have:x≠n:=by rintro rfl;exact h v zAl
   simp[this]
theorem Zt{z:J->Option pH}{x:J}{v:lV}:∀{P:List J} {vs:List lV} {i:Nat} {m:J->Option lV},P.Nodup->P[i]?=g x->vs[i]?=g v->z x=g .local ->
  wQ z (P.zip vs) m x=g v
 |[],_,_,_,_,h,_,_=>by simp at h
 |_::_,[],_,_,_,_,h,_=>by simp at h
 |p::P,w::vs,0,m,C,H,F,L=>by
  simp at H F;subst H;subst F;show wQ z ((p,w)::P.zip vs) m p=_;unfold wQ;rw[A1 λv S=>(zBn.mp C).1 (rR S).1,mS L];simp
 |p::P,w::vs,i+1,m,C,H,F,L=>by
  show wQ z ((p,w)::P.zip vs) m x=_;unfold wQ;exact Zt (i:=i) (zBn.mp C).2 (by simpa using H) (by simpa using F) L
theorem A0{z:J->Option pH}{x:J}{v:lV}:∀{P:List J} {vs:List lV} {i:Nat} {m:J->Option lV},P.Nodup->P[i]?=g x->vs[i]?=g v->z x≠g .local ->
  wR z (P.zip vs) m x=g v
 |[],_,_,_,_,h,_,_=>by simp at h
 |_::_,[],_,_,_,_,h,_=>by simp at h
 |p::P,w::vs,0,m,C,H,F,L=>by
  simp at H F;subst H;subst F;show wR z ((p,w)::P.zip vs) m p=_;unfold wR;rw[B9 λv S=>(zBn.mp C).1 (rR S).1,mK L];simp
 |p::P,w::vs,i+1,m,C,H,F,L=>by
  show wR z ((p,w)::P.zip vs) m x=_;unfold wR;exact A0 (i:=i) (zBn.mp C).2 (by simpa using H) (by simpa using F) L
def Gx(N:List J)(vs:List V):St:=vs.map g++zAe (N.length-vs.length) M
def Mq(CX:GR)(P:mF)(w:mR)(K:zAa)(mg:J->Option lV)(base:mX)(N:List J)(qual:J)(scope:rJ)(f:T)(cd:lV)(A:mZ)(outer:List sB)(s:lZ)(H:Hp)(E:XK):Cx where
 prog:=P
 w:=w
 K:=K
 mg:=mg
 base:=base
 A:=A.deeper (oY qual scope ⇑s f cd)
 N:=N
 s₀:=s
 H₀:=H
 env:=oY qual scope ⇑s f cd
 outer:=outer
 stack:=oY qual scope ⇑s f cd::outer
 ex:=[]
 calm:=B
 fn:=λx=>B
 pn:=[]
 xe:=λe L=>mO (mP P w) (A.deeper (oY qual scope ⇑s f cd)) (uX (oY qual scope ⇑s f cd) e) (λx C=>CX outer H s E e C) (λQ C=>CX outer H s E Q C) L
def P4{C:rJ}{n:Nat}{x:J}(h:C.names.lookup x=g .cell):∃c,(vQ n C.names []).lookup x=g c:=by
 let q:=zCu C.names n [] (.inl h);exact zBG.mp q
def Zv{CX:GR}{P:mF}{w:mR}{K:zAa}{j:J->Option lV}{L:mX}{N ps:List J}{qual:J}{scope:rJ}{f:T}{cd:lV}{A:mZ}{outer:List sB}{s o:lZ}{H:Hp}{E:XK}{us:List lV}{vs:List V}
  (S:Cb N ps scope) (hd:A.handled=M) (Q:kE P w K j L A outer s H) (hl:vs.length=ps.length) (r:Bc vs us)
  (x:InCallC s ⇑s (wQ (oY qual scope ⇑s f cd).kindOf (ps.zip us) λ_=>M) (vQ (⇑s+1) scope.names []) (wR (oY qual scope ⇑s f cd).kindOf (ps.zip us) λ_=>M) o) :
  Am (Mq CX P w K j L N qual scope f cd A outer s H E) [] (Gx N vs) H o:=by
 let a0:ps.length<=N.length:=by let:=nI oJ S.pre;rw[zAq]at this;lia
 let[d,tk,rfl,t]:=x.done;let U:∀b:T,b∉(Mq CX P w K j L N qual scope f cd A outer s H E).ex:=λb z=>mC (show b∈([]:List T) from z) zZ;refine[[Q.mod,S.kind,I,I,zAm _,λy z c d C=>?_,λy R=>?_,λy c _ h=>?_,λ_=>hd,wM Q.frames,.inr [I,I],λb z=>mC z (U b),Q.bs,Q.bsz,λb _ _=>U b,λb z=>mC z (U b),Q.funs,Q.frf],
  I,Q.bare,Un.kept t,[_,x.toInCall.ns,λi y v d C h3=>?_],λy c h=>[_,x.cell y c h],Q.hok.fresh (zAm _),λy c h=>?_,λp X=>mC (show p∈([]:List (T×oH)) from X) zZ,Q.hok.kept t,?_]
 .exact name_of_addr x.apart (nX d) (nX C)
 .have R:scope.names.lookup y=g .cell\/scope.names.lookup y=g .free:=R
  rcases R with R|R
  .exact P4 R
  .exact mC I (S.nofree _ (nX R))
 .exact uG (x.above y c (nX h))
 .have F:i<vs.length:=by
   unfold Gx at C;by_cases F:i<vs.length
   .exact F
   .rw[zBO (by simpa using F)]at C
    rw[zCr]at C
    split at C<;>cases C
  let m:vs[i]?=g v:=by
   unfold Gx at C;rw[zCk (by simpa using F),zAt]at C;cases e:vs[i]? with
   |none=>rw[e]at C;cases C
   |some a=>rw[e]at C;cases C;rfl
  let[u,l,rv]:=r.get m;let X:ps[i]?=g y:=by
   rw[<- S.pre,List.getElem?_take_of_lt Z];exact d
  let W:ps.Nodup:=by rw[<- S.pre];exact S.nd.sublist (tR _ _)
  refine[u,rv,?_];rcases S.par y (zAz X)with k|k
  .exact .inl [k,Zt W X l k]
  .let[c,e]:=P4 (n:=⇑s+1) k
   refine .inr [.inl k,c,e,?_];let q:=x.cell y c e;rw[A0 W X l (by show scope.names.lookup y≠_;rw[k];decide)]at q;exact q
 .exact Q.hok.fresh (uG (x.above y c (nX h)))
 .unfold Gx
  show _=N.length;rw[zAc,zAb,zAC]
  lia
def DQ{CX}{P}{w}{K}{i:J->Option lV}{j}{k:Nat}{f}{m qual}{z}{l}{scope}{dV kV W pm d ct oc}{an od}
  {ad} {N ps} {sp} (lk:K.lookup f=g [oc,od,.func (zAM m qual z l scope dV kV W pm an d ct),ad]) (ab:zAX K d qual=B) (S:Cb N ps scope)
  (h:∀vs H Q E,sp vs H Q E->vs.length=ps.length)
  (L:∀(A:mZ) (outer:List sB) (s:lZ) (H:Hp) (vs:List V) (Q:VK) (E:XK),Cc k (A.deeper (oY qual scope ⇑s f d))->sp vs H Q E ->
   ∃t,PSs (Mq CX P w K i j N qual scope f d A outer s H E) l t/\t { nx:=λ_ H'=>Q .non H',rt:=Q } (Gx N vs) H) :
  Ar P w K i j CX (k+1) f (zAM m qual z l scope dV kV W pm an d ct) ps sp:=by
 refine[h,λA outer s H ae us vs Q E a U hb r C=>?_];let hl:=h _ _ _ _ C;let KX:K.In s.heap:=U.mod.kin.keeps λb o e=>(U.bs b o e).1;let ac:s.heap.NoLimit:=U.mod.nolimit.keeps λb o e=>(U.bs b o e).1;let F:∀y∈ps.zip us,scope.names.lookup y.1=g .local\/(scope.names.lookup y.1=g .cell/\((vQ (⇑s+1) scope.names []).lookup y.1).isSome=B):=λ⟨n,v⟩ hy=>by
  rcases S.par n (rR hy).1 with q|q
  .exact .inl q
  .exact .inr [q,zCu _ _ _ (.inl q)]
 refine yZ a.depth (KX _ _ lk) I S.co S.gen I (wX KX ab) (hb _ _ _ _ ?_);refine wN S.kind F λa0 he s1 x=>?_;subst he;refine[ac.keeps x.toInCall.keep,codeAny_func ?_];let[t,ht,hq]:=L A outer s H vs Q E (a.deeper _) C;let c:Am (Mq CX P w K i j N qual scope f d A outer s H E) [] (Gx N vs) H s1:=Zv S a.hd U hl r x;refine nV (ht [] s1 (Gx N vs) H _ c hq) (λfl s' R=>?_) λe s' R=>R;let aa:∀{p:St} {H':Hp} {v:V} {u:lV},Am (Mq CX P w K i j N qual scope f d A outer s H E) [] p H' s'->Bq v u->Q v H'->CE outer P w H s Q u s':=
  λ{p H' v u} X rv q=>[v,H',X.os,X.bare,X.base,X.hok,rv,q]
 cases fl with
 |ret u=>
  let[v,p,H',X,rv,q]:=R;exact aa X rv q
 |next=>
  let[p,H',X,q]:=R;exact aa (v:=V.non) (u:=mT) X I q
 |brk=>
  let[_,_,_,q]:=R;exact nD q
 |cont=>
  let[_,_,_,q]:=R;exact nD q
section
variable {X:Cx} {x:J} {p pos:uL} {e:nY} {es:List nY} {t:TA} {id a:String} {r:List V->Hp->VK->Prop}
def gD(r:List V->Hp->VK->Prop)(t:TA):TE:=λL H Q=>t L H λC N=>r C N Q
def Hs(C:Mg X (.builtin id) r)(b:Gl X x)(F:X.mg x=M)(R:zCz x=g (.builtin id))(z:PA X (e::es) t)(j:x ≠ "__name__":=by lk)(E:(x==("__debug__" : J))=lX:=by lk)
  (f:mH (e::es) X.env=(lX,nU e X.env)::mH es X.env:=by rfl) (A:(oB pos (mH es X.env)).any (·.1)=lX:=by rfl):PE X (.Call (.Name x p) (e::es) [] pos) (gD r t):=by
 intro W s K H Q P h;refine nQ (Pe P b F R ?_ j E);exact sH (Er (z pos W s K H _ P h) λd N ⟨k,c,S,L,U⟩=>C W N K c k d Q S L U) f A
def Dq(C:Mg X (.type a) r)(b:Gl X x)(F:X.mg x=M)(R:zCz x=g (.type a))(z:PA X (e::es) t)(j:x ≠ "__name__":=by lk)(E:(x==("__debug__" : J))=lX:=by lk)
  (f:mH (e::es) X.env=(lX,nU e X.env)::mH es X.env:=by rfl) (A:(oB pos (mH es X.env)).any (·.1)=lX:=by rfl):PE X (.Call (.Name x p) (e::es) [] pos) (gD r t):=by
 intro W s K H Q P h;refine nQ (Pe P b F R ?_ j E);exact oN (Er (z pos W s K H _ P h) λd N ⟨k,c,S,L,U⟩=>C W N K c k d Q S L U) f A
end
end L2
namespace HT
open PySem PyProof.Rows
section
def sIx(n d:Nat):Option Int->Nat
 |none=>d
 |some v=>if v<0 then(v+(n:Int)).toNat else min v.toNat n
def sIx_none(n d:Nat):sIx n d M=d:=rfl
def sIx_nat(n d k:Nat):sIx n d (g (k:Int))=min k n:=by
 show(if (k:Int)<0 then((k:Int)+(n:Int)).toNat else min (k:Int).toNat n)=min k n;rw[mK Z,zB]
end
end HT
namespace L2
open PySem PySem.Spec PyProof.Rows
abbrev TO:=St->Hp->(Option Int->Hp->Prop)->Prop
def PO(X:Cx)(e:Option nY)(t:TO):Prop:=
 ∀(C:List (T×oH)) (s:lZ) (L:St) (H:Hp) (Q:Option Int->Hp->Prop),Am X C L H s->t L H Q ->
  mO (mP X.prog X.w) X.A (evalPart e X.env) (λu P=>∃o N,Am X C L N P/\IsPart u o/\Q o N) X.xe s
def QJ:TO:=λx H Q=>Q M H
inductive eP(x:V)(H:Hp)(Q:Option Int->Hp->Prop):Prop
 |mk (i:Int) (e:x=.int i) (q:Q (g i) H)
def bG(t:TE):TO:=λC H Q=>t C H λx L=>eP x L Q
def AA{ns:List Int}:∀{us},Bc (ns.map V.int) us->u6 us ns:=by
 induction ns with
 |nil=>intro us r;rw[zBr]at r;cases r;exact .nil
 |cons n ns C=>
  intro us r;rw[zAr]at r;cases r with
  |cons z F=>
   let[t,e]:=z;subst e;exact .cons n t (C F)
section
variable {X:Cx} {e:nY} {te:TE} {lo hi:Option nY} {tl th:TO} {pos p2:uL}
def Lg:PO X M QJ:=by
 intro L s N H Q C h;rw[uJ];exact zCx [M,H,C,.none,h]
def Le(h:PE X e te):PO X (g e) (bG te):=by
 intro P s W H Q C S;rw[uI];refine Er (h P s W H _ C S) λu U L=>?_;let[x,R,F,z,N]:=L;let[i,rfl,q]:=N;let[t,rfl]:=z;exact[g i,R,F,.int i t,q]
def iP(X:Cx)(r:V->Option Int->Option Int->Hp->VK->Prop):Prop:=
 ∀(L:List (T×oH)) (s:lZ) (P:St) (H:Hp) (x:V) (v U R:lV) (lo hi:Option Int) (N:T) (Q:VK),Am X L P H s->Bq x v->s.heap.IsSliceOf N U R .none->IsPart U lo->IsPart R hi->r x lo hi H Q ->
  ∃C W,typeLookup (.type C) "__getitem__"=pure (g (.builtin W))/\s.TypeIs v C/\mO (mP X.prog X.w) X.A (getItem v (.ref N)) (EP X L P Q) X.xe s
def iX(r:V->Option Int->Option Int->Hp->VK->Prop)(te:TE)(tl th:TO):TE:=λC H Q=>te C H λx L=>tl C L λl P=>th C P λu N=>r x l u N Q
def Js{r:V->Option Int->Option Int->Hp->VK->Prop}(w:iP X r)(p:PE X e te)(m:PO X lo tl)(t:PO X hi th):PE X (.Subscript e (.Slice lo hi M p2) pos) (iX r te tl th):=by
 intro A s K H Q W h;refine wT (Er (p A s K H _ W h) λv a L=>?_);let[x,j,f,n,q1]:=L;refine wpAny_Slice (Er (m A a K j _ f q1) λz N ⟨l,i,I2,S,k⟩=>Er (t A N K i _ I2 k) λF E L=>?_);let[u,c,U,pu,C]:=L;rw[uJ];refine zCx ?_;let o:Am X A K c { E with heap:=E.heap.push { cls:=.type "slice",data:=.fields #v[z,F,.none] } }:=U.kept (t':=E.toks) λb ob q=>zAk _ q;let[P,id,d,y,R]:=w A { E with heap:=E.heap.push { cls:=.type "slice",data:=.fields #v[z,F,.none] } } K c x v z F l u ⇑E Q o n (qY ..) S pu C;show mO (mP X.prog X.w) X.A (subscriptTail e (.Slice lo hi M p2) v (.ref ⇑E)) (EP X A K Q) X.xe { E with heap:=E.heap.push { cls:=.type "slice",data:=.fields #v[z,F,.none] } };exact tail_any (ops:=#[.ref ⇑E,v]) y d R (by with_unfolding_all rfl)
def Qs(xs:List V)(lo hi:Option Int):List V:=(xs.drop (HT.sIx xs.length 0 lo)).take (HT.sIx xs.length xs.length hi-HT.sIx xs.length 0 lo)
def M9(xs:List V)(lo hi:Option Int):(Qs xs lo hi).length<=xs.length:=by
 unfold Qs;rw[zAq,zBb]
 lia
end
def IG(n:Nat)(i:Int):Option Nat:=if 0<=i then(if i<n then g i.toNat else M) else if -(n:Int)<=i then g (i+n).toNat else M
def Ob{C:Type}(xs:List C)(i:Int):Option C:=(IG xs.length i).bind λj=>xs[j]?
def BX{n:Nat}{i:Int}{j:Nat}(h:IG n i=g j):seqIndex? i n=g j/\j<n/\-(n:Int)<=i/\i<n:=by
 unfold IG at h;by_cases z:0<=i
 .rw[mS z]at h
  by_cases C:i<n
  .rw[mS C]at h
   let e:i.toNat=j:=mI h;exact[by rw[seqIndex_of z C,e],Z,Z,C]
  .rw[mK C]at h;cases h
 .rw[mK z]at h
  by_cases C : -(n:Int)<=i
  .rw[mS C]at h
   let e:(i+n).toNat=j:=mI h;exact[by rw[yP Z C,e],Z,C,Z]
  .rw[mK C]at h;cases h
def F8{C:Type}{xs:List C}{i:Int}{v:C}(h:Ob xs i=g v):∃j,seqIndex? i xs.length=g j/\xs[j]?=g v/\j<xs.length/\-(xs.length:Int)<=i/\i<xs.length:=by
 unfold Ob at h;cases e:IG xs.length i with
 |none=>rw[e]at h;cases h
 |some j=>
  rw[e]at h;let[H,L,z,F]:=BX e;exact[j,H,h,L,z,F]
def Gk{C:Type}{xs:List C}{j:Nat}{v:C}(h:xs[j]?=g v):Ob xs (j:Int)=g v:=by
 let z:j<xs.length:=(zAs.mp h).1;let e:IG xs.length (j:Int)=g j:=by
  unfold IG;rw[mS Z,mS Z];simp
 unfold Ob;rw[e];exact h
def M0(b:nY):Prop:=∀o i,subscripted b lX o i=operate #[o,i] (getItem o i)
def YR(X:Cx)(r:R2):Prop:=
 ∀(N C:nY) (L:List (T×oH)) (s:lZ) (P:St) (H:Hp) (x y:V) (v u:lV) (Q:VK),Am X L P H s->Bq x v->Bq y u->r x y H Q ->
  subscripted C lX v u=operate #[v,u] (getItem v u)->mO (mP X.prog X.w) X.A (subscriptTail N C v u) (EP X L P Q) X.xe s
def iL(X:Cx)(R:String)(r:V->List V->Hp->VK->Prop):Prop:=
 ∀(C:List (T×oH)) (s:lZ) (N:St) (H:Hp) (x:V) (L:List V) (v:lV) (P:List lV) (Q:VK),Am X C N H s->Bq x v->Bc L P->r x L H Q ->
  mO (mP X.prog X.w) X.A (call (.builtin R) (v::P)) (EP X C N Q) X.xe s
section
variable {X:Cx} {a b:nY} {ta tb:TE} {pos:uL}
def Cr{r:R2}(A:YR X r)(z:PE X a ta)(U:PE X b tb)(L:M0 b):PE X (.Subscript a b pos) (YS r ta tb):=by
 intro W s E H Q P h;exact wT (UO z U P h λv u S x y N R F C q=>A a b W S E N x y v u Q R F C q (L _ _))
inductive XT(K:zAa)(x y:V)(H:Hp)(Q:VK):Prop
 |mk (p:T) (xs:List V) (i:Int) (v:V) (e:x=.ref p) (e':y=.int i) (h:Al K H p xs) (a:Ob xs i=g v) (q:Q v H)
inductive US(K:zAa)(x y:V)(H:Hp)(Q:VK):Prop
 |mk (p:T) (xs:List V) (i:Int) (v:V) (e:x=.ref p) (e':y=.int i) (h:Da K H p xs) (a:Ob xs i=g v) (q:Q v H)
inductive fJ(x y:V)(H:Hp)(Q:VK):Prop
 |mk (z:J) (i:Int) (c:Nat) (e:x=.str z) (e':y=.int i) (l:z.length<=sizeLine) (a:Ob z.cps.toList i=g c) (q:Q (.str [#v[c]]) H)
def By:YR X (XT X.K):=by
 intro W E L s S H x y v u Q C l o h d;let[p,xs,i,z,rfl,rfl,hq,f,q]:=h;cases l;let[t,rfl]:=o;let[U,r,R,hz]:=C.list hq;let[j,P,m,h3,h4,n]:=F8 f;let[w,c,F]:=r.get m;let e:=r.length;let hn:=Rr;let N:EP X L S Q w s:=[z,H,C,F,q];by_cases K:0<=i
 .have A:i.toNat=j:=by
   rw[seqIndex_of K n]at P;exact mI P
  exact item_listR R.isList K Z (by rw[A];simpa using c) N d
 .have A:(i+(U.toArray.size:Int)).toNat=j:=by
   rw[yP Z h4]at P;rw[zAj,<- e];exact mI P
  exact yO (x:=w) R.isList.typeIs slot_list_getitem.lookup
   (wpAny_getItem_list_neg (Q:=λr k=>r=w/\EP X L S Q r k) R.isList Z (by rw[zAj]<;>lia) Z (by rw[A];simpa using c) [I,N]) d
def Kg:YR X (US X.K):=by
 intro N R L s A H x y v u Q C S c h l;let[p,xs,i,z,rfl,rfl,o,F,q]:=h;cases S;let[t,rfl]:=c;let[E,r,W,hz]:=C.tuple o;let[j,m,d,n,h4,h5]:=F8 F;let[w,k,U]:=r.get d;let f:=r.length;let e:=Rr;let P:EP X L A Q w s:=[z,H,C,U,q];exact yO (x:=w) W.typeIs slot_tuple_getitem.lookup
  (getItem_tuple (j:=j) (Q:=λr K=>r=w/\EP X L A Q r K) W Z Z (by rw[zAj,<- f];exact m) (by simpa using k) [I,P]) l
def AE:YR X fJ:=by
 intro W F A s w H x y v u Q R L d h N;let[z,i,c,rfl,rfl,r,P,q]:=h;let[t,rfl]:=L;let[p,rfl]:=d;let[j,E,C,l,U,f]:=F8 P;let k:z.cps.toList.length=z.length:=by simp[Str.length]
 rw[k]at E U f;let o:=Rr;exact tail_any (qL s z t) slot_str_getitem.lookup (getItem_str (c:=c) (by
  let K:decide (i < -(2^63:Int))=lX:=mQ Z;let S:decide (i≥2^63)=lX:=mQ Z;rw[K,S,Bool.or_false]) (by rw[E];simpa using C) [.str [#v[c]],H,R.tok _,[_,I],q]) N
def X6(z:List lV)(n j:Nat)(u:lV):tL (·.setIfInBounds j u) { cls:=.type "list",data:=.seq z.toArray n }={ cls:=.type "list",data:=.seq (z.set j u).toArray n }:=by
 simp[tL]
def Am.lst{pins:List (T×oH)}{σ:St}{H:Hp}{s:lZ}{p:T}{xs:List V}(C:Am X pins σ H s)(h:H p=g (.lst xs)) :
  ∃(F:List lV) (n:Nat),Bc xs F/\s.heap.get? p=g { cls:=.type "list",data:=.seq F.toArray n }/\xs.length<=sizeLine:=by
 let[z,F,n,r,e]:=C.hok p _ h;exact[F,n,r,e,z]
def Am.lstUpd{pins:List (T×oH)}{σ:St}{H:Hp}{s:lZ}{p:T}{xs ys:List V}{z its':List lV}{n F:Nat}{f:oH->oH}(N:Am X pins σ H s)(h:H p=g (.lst xs))
  (L:s.heap.get? p=g { cls:=.type "list",data:=.seq z.toArray n }) (P:f { cls:=.type "list",data:=.seq z.toArray n }={ cls:=.type "list",data:=.seq its'.toArray F }) (r:Bc ys its') (Q:ys.length<=sizeLine) (t:Nat) :
  Am X pins σ (upd H p (.lst ys)) { s with heap:=s.heap.update p f,toks:=t }:=by
 let e:(s.heap.update p f).get? p=g { cls:=.type "list",data:=.seq its'.toArray F }:=by
  rw[zAT f L (by rw[P]<;>rfl),P]
 refine N.write (x:=p) (e:=p) (by rw[h];trivial) (.inl I) (λb u C q=>(zAR _ _ (oC C)).trans q) [_,e] ?_;exact[Q,its',F,r,e]
inductive bN(o i v:V)(H:Hp)(Q:Hp->Prop):Prop
 |mk (p:T) (xs:List V) (k:Int) (j:Nat) (e:o=.ref p) (e':i=.int k) (h:H p=g (.lst xs)) (a:IG xs.length k=g j) (q:Q (upd H p (.lst (xs.set j v))))
def T6:ZP X bN:=by
 intro W s f H o i v m e u Q R P w y h;let[p,c,k,j,rfl,rfl,K,l,q]:=h;cases P;let[t,rfl]:=w;let[z,n,r,F,d]:=R.lst K;let[A,h2,U,S]:=BX l;let E:=r.length;let x:=Rr;let C:Am X W f (upd H p (.lst (c.set j v))) { s with heap:=s.heap.update p (tL (·.setIfInBounds j u)) }:=
  R.lstUpd K F (X6 z n j u) (r.set y j) (by rw[List.length_set];exact d) s.toks
 by_cases N:0<=k
 .have L:k.toNat=j:=by
   rw[seqIndex_of N S]at A;exact mI A
  exact PySem.W.ki_setAt F N Z (by rw[zAj,<- E];exact S) (by rw[L];exact[_,C,q])
 .have L:(k+(z.toArray.size:Int)).toNat=j:=by
   rw[yP Z U]at A;rw[zAj,<- E];exact mI A
  exact PySem.W.ki_setBack F Z (by rw[zAj,<- E];exact U) Z (by rw[L];exact[_,C,q])
def F7(lo C:Option Int)(n:Nat):(nL lo C M n).1=((HT.sIx n 0 lo:Nat):Int)/\(nL lo C M n).2.1=((HT.sIx n n C:Nat):Int)/\(nL lo C M n).2.2=1:=by
 refine[?_,?_,I]
 .cases lo with
  |none=>simp[nL,HT.sIx]
  |some i=>
   simp only[nL,HT.sIx,yJ,show(1:Int)>0 by lk,rY];by_cases h:i<0
   .simp only[h,rY]<;>lia
   .simp only[h,tU]<;>lia
 .cases C with
  |none=>simp[nL,HT.sIx]
  |some i=>
   simp only[nL,HT.sIx,yJ,show(1:Int)>0 by lk,rY];by_cases h:i<0
   .simp only[h,rY]<;>lia
   .simp only[h,tU]<;>lia
def Yt(z:List lV)(lo C:Option Int):yG z.toArray lo C M=((z.drop (HT.sIx z.length 0 lo)).take (HT.sIx z.length z.length C-HT.sIx z.length 0 lo)).toArray:=by
 let[H,L,F]:=F7 lo C z.toArray.size;unfold yG;rw[H,L,F];simp only[sliceRange_one,pick_run,zAj]<;>rfl
inductive dY(K:zAa)(x:V)(lo hi:Option Int)(H:Hp)(Q:VK):Prop
 |mk (a:T) (xs:List V) (e:x=.ref a) (h:Al K H a xs) (q:∀p,H p=M->Q (.ref p) (upd H p (.lst (Qs xs lo hi))))
def Lf:iP X (dY X.K):=by
 intro K s j H x v l f A E d Q P S R N c h;let[a,W,rfl,U,q]:=h;cases S;let[L,r,F,C]:=P.list U;let z:=r.length;refine["list",_,slot_list_getitem.lookup,F.isList.typeIs,?_];refine rO F.isList R N c .none zZ ?_ (by rw[zAj]<;>lia);rw[Yt,<- z];refine[.ref ⇑s,_,P.laid (t':=s.toks) (o:=.lst (Qs W A E)) (λb k q=>zAk _ q) (zAm _) ?_,I,q _ (P.hok.fresh (zAm _))];exact[zAG (M9 W A E) C,_,0,(r.drop (HT.sIx W.length 0 A)).take (HT.sIx W.length W.length E-HT.sIx W.length 0 A),zAJ _ I]
def Hr:V->Bool
 |.non=>B
 |.bl _=>B
 |.int _=>B
 |.str _=>B
 |_=>lX
def Px:V->V->Bool
 |.non,.non=>B
 |.bl a,.bl b=>a==b
 |.bl a,.int b=>(if a then 1 else 0)==b
 |.int a,.bl b=>a==(if b then 1 else 0)
 |.int a,.int b=>a==b
 |.str a,.str b=>a==b
 |_,_=>lX
def AW{A:mZ}{s:lZ}{y x:V}{u v:lV}(C:Bq y u)(z:Bq x v)(S:Hr y=B)(L:Hr x=B):oO A s u v (Px y x):=by
 cases y with
 |non=>
  cases C
  cases x with
  |non=>cases z;exact SeqAt.EqAt.same _
  |bl b=>cases z;exact SeqAt.EqAt.none_bool b
  |int b=>let[t,rfl]:=z;exact SeqAt.EqAt.none_int b t
  |str b=>let[t,rfl]:=z;exact SeqAt.EqAt.none_str b t
  |_=>exact mC (show lX=B from L) zAn
 |bl a=>
  cases C
  cases x with
  |non=>cases z;exact SeqAt.EqAt.bool_none a
  |bl b=>cases z;exact SeqAt.EqAt.bool_bool a b
  |int b=>let[t,rfl]:=z;exact SeqAt.EqAt.bool_int a b t
  |str b=>let[t,rfl]:=z;exact SeqAt.EqAt.bool_str a b t
  |_=>exact mC (show lX=B from L) zAn
 |int a=>
  let[F,rfl]:=C;cases x with
  |non=>cases z;exact SeqAt.EqAt.int_none a F
  |bl b=>cases z;exact SeqAt.EqAt.int_bool a F b
  |int b=>let[t,rfl]:=z;exact SeqAt.EqAt.int_int a F b t
  |str b=>let[t,rfl]:=z;exact vX a F b t
  |_=>exact mC (show lX=B from L) zAn
 |str a=>
  let[F,rfl]:=C;cases x with
  |non=>cases z;exact SeqAt.EqAt.str_none a F
  |bl b=>cases z;exact SeqAt.EqAt.str_bool a F b
  |int b=>let[t,rfl]:=z;exact vW a F b t
  |str b=>let[t,rfl]:=z;exact SeqAt.EqAt.str_str a F b t
  |_=>exact mC (show lX=B from L) zAn
 |_=>exact mC (show lX=B from S) zAn
def Z3(x:V)(u:lV):Bool:=match u with
 |.none=>Px .non x
 |.bool b=>Px (.bl b) x
 |.int i _=>Px (.int i) x
 |.str z _=>Px (.str z) x
 |_=>lX
def MT{x y:V}{u:lV}(r:Bq y u)(f:Hr y=B):Z3 x u=Px y x:=by
 cases y with
 |non=>cases r;rfl
 |bl b=>cases r;rfl
 |int i=>let[t,rfl]:=r;rfl
 |str z=>let[t,rfl]:=r;rfl
 |_=>exact mC (show lX=B from f) zAn
theorem Ti{x:V}:∀{xs} {us},Bc xs us->xs.all Hr=B->us.any (Z3 x)=xs.any λy=>Px y x
 |_,_,.nil,_=>rfl
 |y::xs,u::us,.cons r t,f=>by
  rw[sV,zAO]at f;rw[zBm,zBm,MT r f.1,Ti t f.2]
theorem Pj{A:mZ}{s:lZ}{x:V}{v:lV}(L:Bq x v)(F:Hr x=B):∀{xs} {us},Bc xs us->xs.all Hr=B->∀u∈us,oO A s u v (Z3 x u)
 |_,_,.nil,_=>λu z=>by cases z
 |y::xs,u::us,.cons r t,f=>λC z=>by
  rw[sV,zAO]at f;rcases zAg.mp z with rfl|z
  .rw[MT r f.1];exact AW r L f.1 F
  .exact Pj L F t f.2 C z
def Wb(x:V)(xs:List V):Bool:=xs.any λy=>Px y x
inductive eO(K:zAa)(neg:Bool)(x y:V)(H:Hp)(Q:VK):Prop
 |mk (p:T) (xs:List V) (e:y=.ref p) (h:Al K H p xs\/Da K H p xs) (f:Hr x=B) (m:xs.all Hr=B) (q:Q (.bl (if neg then !Wb x xs else Wb x xs)) H)
def Ng:Qd X (oF .In) (eO X.K lX):=by
 intro A s K H x y v u Q P S N h;let[p,E,rfl,F,U,W,q]:=h;cases N;rcases F with F|F
 .let[z,r,L,C]:=P.list F
  refine SeqAt.in_listAt (Z3 x) L.isList (λw R=>Pj S U r W w (by simpa using R)) [.bl _,H,P,I,?_];rw[show z.toArray.any (Z3 x)=z.any (Z3 x) by simp,Ti r W];exact q
 .let[z,r,L,C]:=P.tuple F
  refine SeqAt.in_tupleAt (Z3 x) L (λw R=>Pj S U r W w (by simpa using R)) [.bl _,H,P,I,?_];rw[show z.toArray.any (Z3 x)=z.any (Z3 x) by simp,Ti r W];exact q
def Lh:Qd X (oF .NotIn) (eO X.K B):=by
 intro A s K H x y v u Q P S N h;let[p,E,rfl,F,U,W,q]:=h;cases N;rcases F with F|F
 .let[z,r,L,C]:=P.list F
  refine SeqAt.notIn_listAt (Z3 x) L.isList (λw R=>Pj S U r W w (by simpa using R)) [.bl _,H,P,I,?_];rw[show z.toArray.any (Z3 x)=z.any (Z3 x) by simp,Ti r W];exact q
 .let[z,r,L,C]:=P.tuple F
  refine SeqAt.notIn_tupleAt (Z3 x) L (λw R=>Pj S U r W w (by simpa using R)) [.bl _,H,P,I,?_];rw[show z.toArray.any (Z3 x)=z.any (Z3 x) by simp,Ti r W];exact q
def F9:Qd X (oF .NotIn) (λx y H Q=>∃i j,x=.str i/\y=.str j/\Q (.bl (!(!(qR j i 0 j.length 1).isEmpty))) H):=by
 intro N s P H x y v u Q C F z h;let[i,j,rfl,rfl,q]:=h;let[t,rfl]:=F;let[L,rfl]:=z;exact notIn_str [.bl _,H,C,I,q]
inductive eG(K:zAa)(xs:List V)(H:Hp)(Q:VK):Prop
 |mk (p:T) (ys:List V) (e:xs=#[.ref p]) (h:Al K H p ys\/Da K H p ys) (q:Q (.int ys.length) H)
def Bg:Mg X (.builtin "len") (eG X.K):=by
 intro R s K H A E Q N r h;let[p,W,rfl,F,q]:=h;let[u,rfl,U]:=Tr r;cases U;let c:=Rr;rcases F with F|F
 .let[L,P,S,C]:=N.list F
  let z:=P.length;exact Calls.call_len_list S.isList (by simp only[zAj]<;>lia) [.int W.length,H,N.tok _,[s.toks+1,by rw[zAj,z]],q]
 .let[L,P,S,C]:=N.tuple F
  let z:=P.length;exact len_tuple S (by simp only[zAj]<;>lia) [.int W.length,H,N.tok _,[s.toks+1,by rw[zAj,z]],q]
def Ji:Mg X (.builtin "len") (λxs H Q=>∃z,xs=#[.str z]/\z.length<=sizeLine/\Q (.int z.length) H):=by
 intro L s N H xs R Q C r h;let[z,rfl,F,q]:=h;let[u,rfl,t,rfl]:=Tr r;let P:=Rr;exact len_str Z [.int z.length,H,C.tok _,[_,I],q]
inductive PC(K:zAa)(xs:List V)(H:Hp)(Q:VK):Prop
 |mk (p:T) (ys:List V) (e:xs=#[.ref p]) (h:Al K H p ys\/Da K H p ys) (q:∀p,H p=M->Q (.ref p) (upd H p (.lst ys)))
def Fm:Mg X (.type "list") (PC X.K):=by
 intro A s l H v t Q R r h;let[p,f,rfl,P,q]:=h;let[u,rfl,k]:=Tr r;cases k;let U:∀(z:List lV),Bc f z->f.length<=sizeLine->∀(W:mX) (L:Nat),(∀b j,s.heap.get? b=g j->W.get? b=g j) ->
   W.get? ⇑s=g { cls:=.type "list",dict:=M,data:=.seq z.toArray L,slots := #v[] }->EP X A l Q (.ref ⇑s) { s with heap:=W }:=λz F N W L C e=>
  [.ref ⇑s,_,R.laid (t':=s.toks) C (zAm _) (show Cg X.prog X.w _ W _ (.lst f) from [N,z,L,F,e]),I,q _ (R.hok.fresh (zAm _))]
 rcases P with P|P
 .let[z,F,E,N]:=R.list P
  let S:=F.length;let[o,c,K,n,d]:=E.isList;exact call_list_seq p (.inl I) c K d (λW L C e=>U z F N W L C e) (by simp only[zAj]<;>lia)
 .let[z,F,E,N]:=R.tuple P
  let S:=F.length;let[o,c,K,n,d]:=E;exact call_list_seq p (.inr I) c K d (λW L C e=>U z F N W L C e) (by simp only[zAj]<;>lia)
def iJ(K:zAa)(T:String)(x:V)(H:Hp):Prop:=match x with
 |.str _=>T="str"
 |.int _=>T="int"
 |.ref p=>(T="list"/\∃L,Al K H p L)\/(T="tuple"/\∃o,K.lookup p=g o/\o.cls=.type "tuple"/\o.dict=M) \/
   (T="dict"/\((∃C,H p=g (.dK C))\/∃C,H p=g (.dT C)))\/(T="set"/\∃S n,H p=g (.set S n))
 |_=>False
def VU{pins:List (lU×oH)}{σ:St}{H:Hp}{s:lZ}{T:String}{x:V}{v:lV}(Q:Am X pins σ H s)(r:Bq x v)(W:iJ X.K T x H) :
  s.TypeIs v T/\∀a,v=.ref a->∃N,s.heap.get? a=g N/\N.dict=M:=by
 cases x with
 |str z=>
  let[t,rfl]:=r;cases (show T="str" from W);exact[qL s z t,λy e=>nomatch e]
 |int i=>
  let[t,rfl]:=r;cases (show T="int" from W);exact[typeIs_int s i t,λy e=>nomatch e]
 |ref p=>
  cases r
  rcases W with ⟨rfl,K,E⟩|⟨rfl,o,F,A,L⟩|⟨rfl,F⟩|⟨rfl,S,n,F⟩
  .let[d,_,C,_]:=Q.list E
   refine[C.isList.typeIs,λa e=>?_];cases e;let[o,n,e,c,L,_]:=C;exact[o,e,L]
  .refine[[o,Q.kIn p o F,A],λa e=>?_]
   cases e
   exact[o,Q.kIn _ o F,L]
  .have z:∃o,s.heap.get? p=g o/\o.ExactDict:=by
    rcases F with ⟨U,F⟩|⟨U,F⟩
    .let[_,_,_,_,o,_,_,e,R,_]:=Q.hok p _ F
     exact[o,e,R]
    .let[_,_,_,_,o,_,_,e,R,_]:=Q.hok p _ F
     exact[o,e,R]
   let[o,e,R]:=z;refine[[o,e,R.1],λa P=>?_];cases P;exact[o,e,R.2.1]
  .let[o,_,_,_,e,R,_]:=Q.hok p _ F
   refine[[o,e,R.1],λa P=>?_];cases P;exact[o,e,R.2.1]
 |_=>exact nD W
def iR(K:zAa)(T:String)(r:V->List V->Hp->VK->Prop)(P:TE)(t:TA):TE:=λC H Q=>P C H λx L=>iJ K T x L/\t C L λN R=>r x N R Q
variable {o e:nY} {es:List nY} {to:TE} {t:TA} {name:J} {apos cpos:uL} {a id:String} {r:V->List V->Hp->VK->Prop}
def Fg(k:PlainAttrs a)(F:Slot a name id)(L:typeOf (.builtin id)=pure (.type "method_descriptor"))(P:iL X id r)(w:PE X o to)(l:PA X (e::es) t)
  (z:pI o name X.env (nU o X.env)=nU o X.env:=by rfl)
  (K:((oB cpos (mH (e::es) X.env)).all (λx => !x.1)&&(qC cpos (oQ [] X.env)).all (λx=>x.1.isSome)
   && decide ((e::es).length+([]:List wI).length+(if ([]:List wI).isEmpty then 0 else 1)<30))=B:=by rfl)
  (E:(apos.endLine==cpos.line)=B:=by rfl) (hs:mH (e::es) X.env=(lX,nU e X.env)::mH es X.env:=by rfl) (A:(oB cpos (mH es X.env)).any (·.1)=lX:=by rfl) :
  PE X (.Call (.Attribute o name apos) (e::es) [] cpos) (iR X.K a r to t):=by
 intro W s c H Q R h;refine wpAny_Call_method_late z K E I (Er (w W s c H _ R h) λv m u=>?_);let[x,d,U,S,q,q1]:=u;let[h1,p]:=VU U S q;refine[a,id,k,F,L,h1,p,?_];let N:=l cpos W m c d _ U q1;rw[hs]at N⊢;refine wA (by show(lX||(oB cpos (mH es X.env)).any (·.1))=lX;rw[A]<;>rfl) (sG ?_);exact Er N λj n ⟨i,y,I2,C,f⟩=>P W n c y x i v j Q I2 S C f
end
def SG(X:Cx)(R:String)(r:V->List V->Hp->VK->Prop):Prop:=
 ∀(C:List (T×oH)) (s:lZ) (N:St) (H:Hp) (x:V) (L:List V) (v:lV) (P:List lV) (Q:VK),Am X C N H s->Bq x v->Bc L P->r x L H Q ->
  mO (mP X.prog X.w) X.A (call (.builtin R) (v::P)) (EP X C N Q) X.xe s
theorem Bc.one:∀{x} {us},Bc #[x] us->∃u,us=#[u]/\Bq x u
 |_,_,.cons r .nil=>[_,I,r]
theorem Bc.rep{xs:List V}{us:List lV}(h:Bc xs us):∀k:Nat,Bc (zAe k xs).flatten (zAe k us).flatten
 |0=>.nil
 |k+1=>by
  rw[zAN,zAN,zBf,zBf];exact Bc.append h (Bc.rep h k)
theorem Zw(z:List lV):∀(k:Nat) (F:List lV),
  yL (λS C=>S++C) F.toArray (zAe k z.toArray)=(F++(zAe k z).flatten).toArray
 |0,F=>by simp
 |k+1,F=>by
  let e:F.toArray++z.toArray=(F++z).toArray:=by simp
  let L:(F++z)++(zAe k z).flatten=F++(zAe (k+1) z).flatten:=by
   rw[zAN,zBf,zAw]
  rw[<- L,<- Zw z k (F++z),<- e,zAN,zBo]
section
variable {X:Cx} {pins:List (T×oH)} {σ:St} {H:Hp} {s:lZ} {l:T} {xs ys:List V}
def Am.lset{z its':List lV}{n:Nat}{f:Array lV->Array lV}{t':Nat}(C:Am X pins σ H s)(L:H l=g (.lst xs))
  (e:s.heap.get? l=g { cls:=.type "list",data:=.seq z.toArray n }) (P:f z.toArray=its'.toArray) (Q:Bc ys its') (R:ys.length<=sizeLine) :
  Am X pins σ (upd H l (.lst ys)) { s with heap:=s.heap.update l (tL f),toks:=t' }:=by
 let q:=PySem.IsL.update e f;rw[P]at q;refine C.write (x:=l) (e:=l) (by rw[L];exact trivial) (.inl I) (λS u F N=>(zAR s.heap (tL f) (oC F)).trans N) [_,q] ?_;exact[R,its',_,Q,q]
def Am.lnew{t':Nat}(C:Am X pins σ H s)(z:Bc ys b)(F:ys.length<=sizeLine) :
  Am X pins σ (upd H ⇑s (.lst ys)) { s with heap:=s.heap.push { cls:=.type "list",data:=.seq b.toArray },toks:=t' }:=
 C.laid (λx x q=>zAk _ q) (zAm _) [F,b,0,z,zAJ _ I]
def Am.fresh(C:Am X pins σ H s):H ⇑s=M:=C.hok.fresh (zAm _)
def Am.lstM(C:Am X pins σ H s)(L:H l=g (.lst xs)):xs.length<=sizeLine/\∃(F:List lV) (n:Nat),Bc xs F/\xs.length=F.length/\s.heap.get? l=g { cls:=.type "list",data:=.seq F.toArray n }:=by
 let[z,F,n,r,e]:=C.hok l _ L;exact[z,F,n,r,r.length,e]
def P5{n:Nat}(h:n<=sizeLine):pD n=lX:=by
 unfold pD;exact mQ Z
end
section
variable {X:Cx}
inductive OJ(x:V)(vs:List V)(H:Hp)(Q:VK):Prop
 |mk (l:T) (xs:List V) (y:V) (e:x=.ref l) (e':vs=#[y]) (h:H l=g (.lst xs)) (s:xs.length<sizeLine) (q:Q .non (upd H l (.lst (xs++#[y]))))
def Dx:SG X "list.append" OJ:=by
 intro W s b H x c v E Q P S C h;let[l,A,y,rfl,rfl,R,N,q]:=h;cases S;let[u,rfl,U]:=C.one;let[z,L,n,r,K,e]:=P.lstM R;refine pP F.slot_list_append [_,e,I] F.entry_list_append (F.args_list_append_2 _ _) (PySem.list_append l L.toArray n u (by rw[zAj];lia)) [e,?_];refine[.non,_,P.lset (its':=L++#[u]) R e zZ (r.append (.cons U .nil)) ?_,I,q];rw[zAc,zBe]
 lia
inductive RS(x:V)(vs:List V)(H:Hp)(Q:VK):Prop
 |mk (l b:T) (xs zs:List V) (e:x=.ref l) (e':vs=#[.ref b]) (h:H l=g (.lst xs)) (h':H b=g (.lst zs)) (s:xs.length+zs.length<=sizeLine) (q:Q .non (upd H l (.lst (xs++zs))))
def Qg:SG X "list.extend" RS:=by
 intro W s m H x i v j Q R P f h;let[l,b,p,t,rfl,rfl,C,E,y,q]:=h;cases P;let[u,rfl,c]:=f.one;cases c;let[z,N,n,r,w,e]:=R.lstM C;let[k,L,A,K,o,d]:=R.lstM E;let U:N.toArray.size+L.toArray.size<=sizeLine:=by rw[zAj,zAj];lia
 let S:¬(!N.toArray.isEmpty&&pD (N.toArray.size+L.toArray.size))=B:=by
  rw[P5 U,sJ];exact zAn
 refine pP F.slot_list_extend [_,e,I] F.entry_list_extend (F.args_list_extend_2 _ _)
  (AutoSeq1.list_extend_list_list_0 l N.toArray n b L.toArray A S (by rw[zAj];lia) Z) [e,d,?_]
 refine[.non,_,R.lset (its':=N++L) C e zZ (r.append K) ?_,I,q];rw[zAc]
 lia
inductive gH(x y:V)(H:Hp)(Q:VK):Prop
 |mk (l b:T) (xs zs:List V) (e:x=.ref l) (e':y=.ref b) (h:H l=g (.lst xs)) (h':H b=g (.lst zs)) (s:xs.length+zs.length<=sizeLine) (q:∀p,H p=M->Q (.ref p) (upd H p (.lst (xs++zs))))
def Ef:Qd X (qI .Add) gH:=by
 intro W s p H x y v u Q R S A h;let[l,b,f,j,rfl,rfl,E,K,o,q]:=h;cases S;cases A;let[z,L,n,r,k,e]:=R.lstM E;let[d,F,c,U,P,C]:=R.lstM K;refine PySem.P.add_list e C ?_ (by rw[zAj,zAj];lia);let N:L.toArray++F.toArray=(L++F).toArray:=by simp
 rw[N];exact[.ref _,_,R.lnew (t':=s.toks) (r.append U) (by rw[zAc];lia),I,q _ R.fresh]
inductive dP(x y:V)(H:Hp)(Q:VK):Prop
 |mk (l:T) (k:Int) (xs:List V) (e:x=.ref l) (e':y=.int k) (h:H l=g (.lst xs)) (a : -(2^63)<=k) (b:k<2^63) (s:xs.length*k.toNat<=sizeLine) (q:∀p,H p=M->Q (.ref p) (upd H p (.lst (zAe k.toNat xs).flatten)))
def BQ{H:Type}(xs:List H)(k:Nat):(zAe k xs).flatten.length=k*xs.length:=by
 induction k with
 |zero=>simp
 |succ k C=>rw[zAN,zBf,zAc,C,Nat.succ_mul,Nat.add_comm]
def AQ:Qd X (qI .Mult) dP:=by
 intro E s σ H x y v u Q R c d h;let[l,k,xs,rfl,rfl,f,w,o,K,q]:=h;cases c;let[t,rfl]:=d;let[z,L,n,r,p,e]:=R.lstM f;let j:L.toArray.size*k.toNat<=sizeLine:=by rw[zAj,<- p];exact K
 let C:¬L.toArray.size*k.toNat>(2^63-1)/8:=by
  let:(sizeLine:Nat)<=(2^63-1)/8:=by lk
  lia
 let S:¬(!Builtin.List.listFitsIndex k)=B:=by
  rw[fitsIndex_both w o];exact zAn
 let N:¬pD (L.toArray.size*k.toNat)=B:=by
  rw[P5 j];exact zAn
 let P:yL (λA W=>A++W) #v[] (zAe (if L.toArray.isEmpty=B then 0 else k.toNat) L.toArray)=(zAe k.toNat L).flatten.toArray:=by
  let f0:∀m:Nat,yL (λA W=>A++W) #v[] (zAe m L.toArray)=(zAe m L).flatten.toArray:=λm=>by
   let:=Zw L m [];rw[rT]at this;exact this
  rw[f0];cases L with
  |nil=>simp
  |cons a i=>rw[mK zZ]
 refine wpAny_binaryOp_repeat_ref (T:="list") (U:="int") Y [_,e,I] (λb=>typeIs_int b k t) noFill_list_mul F.fills_int_mul F.slot_int_rmul repeat_list F.slot_int_index.lookup
  (pP F.slot_int_rmul (typeIs_int s k t) F.entry_int_rmul (F.args_int_rmul_2 _ _) (int___rmul___int_list k t l L.toArray n)
   [e,I,[_,e,I],pP F.slot_list_mul [_,e,I] F.entry_list_mul (F.args_list_mul_2 _ _) (AutoListH.list___mul___list_int_3 l L.toArray n k t S C N) [e,?_]])
 rw[P];exact[.ref _,_,R.lnew (t':=s.toks) (r.rep k.toNat) (by rw[BQ,Nat.mul_comm];exact K),I,q _ R.fresh]
end
end L2
namespace Att
open PySem PySem.W PySem.Calls PyProof.Rows
def Vo{P:Params}{h:mX}:∀(ns:List Int) (vs:List lV),WellAll P h vs (ns.map WData.int)->u6 vs ns:=by
 intro ns
 induction ns with
 |nil=>
  intro vs w;rw[zBr]at w;cases w;exact .nil
 |cons n ns C=>
  intro vs w;rw[zAr]at w;cases w with
  |cons a b=>
   cases a
   exact .cons _ _ (C _ b)
def GU{l:OpenLaw}{n:Nat}(b:l.most=g n){P:Params}{h:mX}{args:List WData}{N:List lV}
  (L:l.row.toRowW.claim.pre args=B) (f:WellAll P h N args) :
  ∃a vs F,N=#[mG a]/\args=#[WData.list (F.map WData.int)]/\h.get? a=g { cls:=.type "list",data:=.seq vs.toArray }/\u6 vs F/\F.length<=n:=by
 let E:WShape.hasAll [] args #[.list .int]=B:=(pre_splitW L).1;let Q:l.pre.holds [] { args:=args }=B:=(pre_splitW L).2;let[d,r,rfl,c,j]:=hasAllW_cons E;obtain rfl:=hasAllW_nil j;let[k,rfl,A]:=hasW_list c;let[F,rfl]:=items_int A;let U:F.length<=n:=by
  unfold OpenLaw.pre at Q;let C:(WTm.not (.lt (.lit (.int (n:Int))) (.len (.arg 0)))).holds [] { args:=#[.list (F.map .int)] }=B:=by
   let C:=(holds_andW Q).1;rw[b]at C;exact C
  let H:=condW_of C (w_not (w_lt w_lit (w_len_list (w_arg I))));rw[zAb]at H;refine Nat.le_of_not_lt λq=>?_;let R:(n:Int)<((F.length:Nat):Int):=by lia
  first
   |(rw[z R]at H;exact mC H Y)
   |(simp at H;lia)
 cases f with
 |cons W X=>
  cases X
  cases W with
  |list K S=>exact[_,_,F,I,I,K,Vo F _ S,U]
def GZ(l:OpenLaw)(args:List WData):l.row.toRowW.claim.post args (.bool B) args=B:=
 postW_of (r:=l.row.toRowW) (X:=(B==B))
  (show WShape.has [] (.bool B) .bool=B by first|rfl|decide|simp[WShape.has,WShape.arms,WShape.armsAll])
  (show(WTm.eq .res (.lit (.bool B))).value [] { args:=args,res:=g (.bool B),after:=args }=g (.bool (B==B)) from w_eq_bool (w_res I) w_lit) I
def attach_call{l:OpenLaw}{n:Nat}{q:mF}{z:List J}{K:(J->Option lV)->mX->Prop}{b:mR->mX->Prop}{d:DefRec}
  (s:l.most=g n) (y:d.params.defaults=[])
  (Q:∀(w:mR) (s₀ F:lZ) (W A:J->Option lV) (S:T) (o:oH) (X cd L:lV) (a:T) (vs:List lV) (ns:List Int),
   Ground q z [] K w s₀ W A F.heap->b w F.heap ->
   F.heap.get? S=g o->o.data=.func (docDef d.name d.params d.body d.scope X cd L)->F.heap.CodeRec cd d.name->W d.name=g (.ref S) ->
   F.heap.get? a=g { cls:=.type "list",data:=.seq vs.toArray }->u6 vs ns->ns.length<=n->F.gens = #v[] ->
   pT (mP l.prog w) uY (.call (.ref S) [#[.ref a],[]]) (λr R=>r=.ok (.ret (.bool B))/\OldK F.heap R.heap/\R.os=F.os/\qJ R.gens) F) :
  WalkO q z K b l.row.toRowW d [] (λf vs=>xW f vs):=by
 intro w s₀ F W A N C S o X cd L i kV h e k E p v af ah as t ag aj c ai;obtain rfl:i=.none:=Dflts.none E y;obtain rfl:kV=.none:=Dflts.noKw E;let[a,vs,ns,rfl,rfl,U,H,P]:=GU s t c;refine enter_call (oG (Q w s₀ F W A S o X cd L a vs ns N C h (fd_plain e) k p U H P v) λr R x=>?_);let[rfl,u,j,m]:=x;exact[.inl [.bool B,.bool B,[],I,λ_=>I,.bool B,GZ l _,λ_=>[rW,λ_ hm=>(nomatch hm)]],u,j,m]
end Att
namespace L2
open PySem PySem.Spec PyProof.Rows
theorem Zu:∀{vs} {ns:List Int},u6 vs ns->Bc (ns.map V.int) vs
 |_,_,.nil=>.nil
 |_,_,.cons n t h=>.cons [t,I] (Zu h)
def VA(H:Hp):Prop:=∀b,H b=M\/∃o C,H b=g (.frz o (.lst C))
def JI{P}{w}{K}{j mb:J->Option lV}{CX}{k:Nat}{t a}{fd}{x}{sp}{R}{vs}{ns:List Int}
  (KX:K.In R.heap) (ad:R.heap.Ns zCB j) (N:R.heap.Ns builtinsNs mb) (ag:∀x:J,x ≠ "__name__"->mb x=zCz x) (aa:R.heap.NoLimit) (hg:R.gens = #v[])
  (l:R.heap.get? a=g { cls:=.type "list",data:=.seq vs.toArray }) (hi:u6 vs ns) (hl:ns.length<=sizeLine) (hr:Cc k uY)
  (F:∀X:mX,K.In X->X.Ns zCB j->Ar P w K j X CX k t fd #[x] sp) (A:∀(s:lZ) (u:lV),vD s fd [#[u],[]] #[(x,u)])
  (a0:∀H:Hp,VA H->Al K H a (ns.map V.int)->sp #[.ref a] H (λv _=>v=.bl B) λ_ _ _=>False)
  (p:∀H e W,CX [] H R (λ_ _ _=>False) e W->False) :
  pT (mP P w) uY (.call (.ref t) [#[.ref a],[]]) (λr W=>r=.ok (.ret (.bool B))/\OldK R.heap W.heap/\W.os=R.os/\qJ W.gens) R:=by
 let rv:=Zu hi;let ac:=hi.length;let U:∀H:Hp,VA H->Al K H a (ns.map V.int)->jR P w H R.heap->(∀b,H b≠M->b=a)->(H a≠M->K.lookup a=M) ->
   pT (mP P w) uY (.call (.ref t) [#[.ref a],[]]) (λr W=>r=.ok (.ret (.bool B))/\OldK R.heap W.heap/\W.os=R.os/\qJ W.gens) R:=by
  intro H hO hS Q hA hK;let L:∀{b:T} {o:oH},R.heap.get? b=g o->H b=M->(E7 R.heap H).get? b=g o:=λe n=>MW e n;let af:∀{b:T} {o:oH} {f:Array DictEntry} {E:Nat},R.heap.get? b=g o->o.data=.dict f E->H b=M:=λ{b o f E} e d=>by
   cases q:H b with
   |none=>rfl
   |some u=>
    let y:b=a:=hA b (by rw[q];simp);subst y;rw[l]at e;cases e;let d':Data.seq vs.toArray _=Data.dict f E:=d;cases d'
  let S:∀{b:T} {m:J->Option lV},R.heap.Ns b m->(E7 R.heap H).Ns b m:=λ{b m} ⟨o,f,E,e,d,r⟩=>[o,f,E,L e (af e d),d,r];let ae:K.In (E7 R.heap H):=λb o e=>L (KX b o e) (by
   cases q:H b with
   |none=>rfl
   |some u=>
    let y:b=a:=hA b (by rw[q];simp);subst y;rw[hK (by rw[q];simp)]at e;cases e)
  let hM:Mod K j (E7 R.heap H):=[ae,S ad,[mb,S N,ag],let [mc,h1,h2]:=aa;[mc,S h1,h2]];let e0:kE P w K j (E7 R.heap H) uY [] R H:=[I,hM,λb o e=>QY e,Nat.le_of_eq (GD _ _),trivial,λb N=>mC (show b∈([]:List T) from N) zZ,Q,.of_eq hg];refine oG ((F _ ae (S ad)).run uY [] R H [#[.ref a],[]] #[.ref a] #[.ref a] _ _ hr e0 (A R (.ref a)) (.cons I .nil) (a0 H hO hS)) λr W h=>?_;cases r with
  |error e=>exact(p H e W h).elim
  |ok fl=>
   cases fl with
   |next=>exact nD h
   |brk=>exact nD h
   |cont=>exact nD h
   |ret u=>
    let[v,H',os,C,un,ab,r',q]:=h;let q':v=.bl B:=q;subst q';obtain rfl:u=oW B:=r';refine[I,OldK.of_keep λb o e=>?_,os,C];cases q:H b with
    |none=>exact un.keep b o e q (by intro z;exact mC (show b∈([]:List T) from z) zZ) zZ
    |some u=>
     rcases hO b with z|⟨ob,xs,z⟩
     .rw[q]at z;cases z
     .have z2:=un.frzs b ob _ z
      let[e1,_]:=Q b _ z;let[e2,_]:=ab b _ z2;rw[e]at e1;cases e1;exact e2
 cases i:K.lookup a with
 |some o=>
  let e:=KX a o i;rw[l]at e;cases e;refine U (λ_=>M) (λ_=>.inl I) (.inr [_,vs.toArray,_,i,I,I,I,by rw[zAj,ac];exact hl,by simpa using rv]) (λb u z=>by let c:(M:Option HO)=g u:=z;cases c) (λb z=>mC I z) λz=>mC I z
 |none=>
  refine U (λb=>if b=a then g (.frz { cls:=.type "list",data:=.seq vs.toArray } (.lst (ns.map V.int))) else M) (λb=>?_) (.inl (.inr [{ cls:=.type "list",data:=.seq vs.toArray },mS I])) (λb u z=>?_) (λb z=>?_) λ_=>i
  .by_cases N:b=a
   .exact .inr [_,_,mS N]
   .exact .inl (mK N)
  .by_cases N:b=a
   .have c:=(mS N).symm.trans z
    cases c
    subst N;exact[l,by rw[zAb];exact hl,vs,_,rv,l]
   .have c:=(mK N).symm.trans z
    cases c
  .by_cases N:b=a
   .exact N
   .exact mC (mK N) z
def walk_of{l:uA}{n k:Nat}{q:mF}{L:List J}{r:(J->Option lV)->mX->Prop}{c:mR->mX->Prop}{d:DefRec}{K:Params->zAa}{CX:mR->GR}{sp:mR->Sp}{x:J}
  (y:l.most=g n) (ad:n<=sizeLine) (ab:d.params.defaults=[]) (t:Cc k uY)
  (hY:∀(w:mR) (h:mX),c w h->(K w.params).In h)
  (F:∀(w:mR) (W:J->Option lV) (U:T) (h:mX),(K w.params).In h->h.Ns zCB W->W d.name=g (.ref U) ->
   ∃E:zCA,(∀(s:lZ) (u:lV),vD s E [#[u],[]] #[(x,u)]) /\
    ∀R:mX,(K w.params).In R->R.Ns zCB W->Ar l.prog w (K w.params) W R (CX w) k U E #[x] (sp w))
  (i:∀(w:mR) (H:Hp) (a:T) (ns:List Int),ns.length<=n->VA H->Al (K w.params) H a (ns.map V.int)->sp w #[.ref a] H (λv _=>v=.bl B) λ_ _ _=>False)
  (Q:∀(w:mR) (H:Hp) (s:lZ) (e:lV) (A:lZ),CX w [] H s (λ_ _ _=>False) e A->False) :
  y8 q L r c l.row.toRowW d [] (λf vs=>xW f vs):=by
 refine Att.attach_call y ab λw b X W mb U o pm cd ae a vs ns P C ho hd af p S N z hg=>?_;let j:=hY w _ C;let[E,hb,m]:=F w W U _ j P.T.g p;exact JI j P.T.g P.T.b P.T.builtins P.T.nolimit hg S N (zAG z ad) t m hb (λH hO hS=>i w H a ns z hO hS) λH e A=>Q w H X e A
def Cu(s:nZ)(j:Nat):nZ:=match s with
 |.ClassDef _ _ _ C _ _ _ _ _ _ _=>C.getD j (.Pass [0,0,0,0])
 |_=>.Pass [0,0,0,0]
def Fa(s:nZ):Arguments:=match s with
 |.FunctionDef _ a _ _ _ _ _ _ _ _=>a
 |_=>{ posonlyargs:=[],args:=[],vararg:=M,kwonlyargs:=[],kw_defaults:=[],kwarg:=M,defaults:=[] }
def Dn(s:nZ):List nZ:=match s with
 |.FunctionDef _ _ b _ _ _ _ _ _ _=>b
 |_=>[]
def Av(s:nZ):rJ:=match s with
 |.FunctionDef _ _ _ _ _ _ C _ _ _=>C
 |_=>{ kind:=.function,names:=[],isGenerator:=lX,isCoroutine:=lX }
abbrev Jv:GR:=λx x x x x x=>False
abbrev E0:XK:=λx x x=>False
def Xo{X:Cx}:Ub Jv X E0:=λx x x x x x x h=>h.elim
structure Fw(K:zAa)(x qual:J)(st:nZ)(f:T)(fd:zCA):Prop where
 ex:∃(oc:lV) (od:Option T) (kV doc pm:lV) (an:Option T) (cdv ct:lV) (osl:Array (Option lV)),
  fd=zAM x qual (Fa st) (Dn st) (Av st) .none kV doc pm an cdv ct/\K.lookup f=g [oc,od,.func fd,osl]/\zAX K cdv qual=B
 kp:zAH K (.ref f)=B
section
variable {P:mF} {w:mR} {K:zAa} {mg:J->Option lV} {base:mX}
def Fw.ok{x qual}{st}{f}{c}{N ps}{k:Nat}{sp}(F:Fw K x qual st f c)(S:Cb N ps (Av st))(b:∀vs H Q E,sp vs H Q E->vs.length=ps.length)
  (z:∀(X:lV) (A:mZ) (outer:List sB) (s:lZ) (H:Hp) (vs:List V) (Q:VK) (E:XK),Cc k (A.deeper (oY qual (Av st) ⇑s f X))->sp vs H Q E ->
   ∃t,PSs (Mq Jv P w K mg base N qual (Av st) f X A outer s H E).nox (Dn st) t/\t { nx:=λy H'=>Q .non H',rt:=Q } (Gx N vs) H):Ar P w K mg base Jv (k+1) f c ps sp:=by
 let[l,o,kV,C,j,r,X,p,R,rfl,U,W]:=F.ex;refine DQ U W S b λA outer s H vs Q E d L=>?_;let[t,h,q]:=z X A outer s H vs Q E d L;exact[t,h.nox,q]
def Fw.binds{x qual}{st}{f}{R}{ps}(F:Fw K x qual st f R)
  (h:∀(kV z N:lV) (S:Option T) (Q L:lV) (us:List lV),us.length=ps.length->bindArgs (zAM x qual (Fa st) (Dn st) (Av st) .none kV z N S Q L) [us,[]]=pure (ps.zip us)):Dc K R ps []:=by
 let[X,W,kV,z,N,S,Q,L,C,rfl,H,U]:=F.ex;exact .all (h kV z N S Q L)
def F1{x qual}{st}{f}{U}{od S}{F}{kV z C H L}(l:K.lookup f=g [U,od,.func (zAM x qual (Fa st) (Dn st) (Av st) .none kV z C S H L),F])
  (c:zAX K H qual=B) (k:zAH K (.ref f)=B):Fw K x qual st f (zAM x qual (Fa st) (Dn st) (Av st) .none kV z C S H L):=[[U,od,kV,z,C,S,H,L,F,I,l,c],k]
end
def YV{A:mZ}{k:Nat}(C:Cc k A):A.units+1<pQ:=zCo (Nat.add_le_add_left (by decide:1<=64) _) C.units
def FW{n:Nat}(h:n<=1000):n<sizeLine:=zCo h Y
section
variable {X:Cx}
def pv(i:Nat){x:J}(z:X.N[i]?=g x:=by rfl)(H:eB X.env.scope x:=by first|exact Or.inl I|exact Or.inr (Or.inl I)|exact Or.inr (Or.inr I))(L:(x==("__debug__" : J))=lX:=by lk)
  (C:(x==("__classdict__" : J))=lX:=by lk):PE X (.Name x b) (aU i):=VL z H L C
end
def Gr{A B:Prop}(h:B):if lX=lY then A else B:=by
 rw[mK zAn];exact h
def Fc{A B:Prop}(h:A):if lY=lY then A else B:=by
 rw[mS I];exact h
def HD{c A B:Prop}[Decidable c](C:c->A)(z:¬c->B):if c then A else B:=by
 by_cases h:c
 .rw[mS h]
  exact C h
 .rw[mK h]
  exact z h
def Ae(H H':Hp):Prop:=∀b o,H b=g o->H' b=g o
def Ae.refl(H:Hp):Ae H H:=λx x h=>h
def Ae.trans{H C H2:Hp}(a:Ae H C)(b:Ae C H2):Ae H H2:=λc o h=>b c o (a c o h)
def Ae.free{H H':Hp}(e:Ae H H'){l:T}(h:H' l=Option.none):H l=Option.none:=by
 cases q:H l with
 |none=>rfl
 |some o=>
  rw[e l o q]at h;cases h
def Ae.seq{K}{H H'}{a}{xs}(e:Ae H H')(h:Al K H a xs):Al K H' a xs:=by
 rcases h with (h|⟨o,h⟩)|h
 .exact .inl (.inl (e _ _ h))
 .exact .inl (.inr [o,e _ _ h])
 .exact .inr h
section
variable {κ:Type} [DecidableEq κ]
def Xt(C:List (κ×V))(k:κ):Option V:=(C.find? λH=>decide (H.1=k)).map (·.2)
def T8(C:List (κ×V))(k:κ)(v:V):List (κ×V):=
 if (C.any λH=>decide (H.1=k))=B then C.map (λH=>if H.1=k then(H.1,v) else H) else C++#[(k,v)]
def Q6{p:κ×V}{r:List (κ×V)}{k:κ}(e:p.1=k):Xt (p::r) k=g p.2:=by simp[Xt,zBU,e]
def V0{p:κ×V}{r:List (κ×V)}{k:κ}(e:¬p.1=k):Xt (p::r) k=Xt r k:=by simp[Xt,zBU,e]
def N5(z:List (κ×V))(k:κ)(v:V):(T8 z k v).length<=z.length+1:=by
 unfold T8
 split
 .rw[zAb];lia
 .rw[zAc,zAd,rV];lia
def jV.getD{o:Option V}{u:Option lV}{d:V}{d':lV}(r:jV o u)(z:Bq d d'):Bq (o.getD d) (u.getD d'):=by
 cases o with
 |none=>cases u with
  |none=>exact z
  |some _=>exact(show False from r).elim
 |some _=>cases u with
  |none=>exact(show False from r).elim
  |some _=>exact r
def KV.val{F:List (κ×V)}{vs:List (κ×lV)}(r:KV F vs)(k:κ):jV (Xt F k) (wB vs k):=by
 unfold KV at r
 induction r with
 |nil=>exact oX
 |@cons p q P C h t N=>
  let[H,S]:=h;by_cases e:p.1=k
  .have L:q.1=k:=H.symm.trans e
   let b:wB (q::C) k=g q.2:=by simp[wB,zBU,L]
   rw[Q6 e,b];exact S
  .have L:¬q.1=k:=λz=>e (H.trans z)
   let b:wB (q::C) k=wB C k:=by simp[wB,zBU,L]
   rw[V0 e,b];exact N
def KV.any{vs:List (κ×lV)}(r:KV b vs)(k:κ):(b.any λz=>decide (z.1=k))=vs.any λz=>decide (z.1=k):=by
 unfold KV at r
 induction r with
 |nil=>rfl
 |cons h t C=>rw[zBm,zBm,C,h.1]
def KV.repl{vs:List (κ×lV)}(r:KV b vs)(k:κ){y:V}{u:lV}(L:Bq y u) :
  KV (b.map λF=>if F.1=k then(F.1,y) else F) (vs.map λF=>if F.1=k then(F.1,u) else F):=by
 unfold KV at r⊢
 induction r with
 |nil=>exact .nil
 |@cons p q P S h t N=>
  rw[zAr,zAr];refine .cons ?_ N;let[H,C]:=h;by_cases e:p.1=k
  .rw[mS e,mS (H.symm.trans e)];exact[H,L]
  .rw[mK e,mK (λz=>e (H.trans z))];exact[H,C]
def KV.put{vs:List (κ×lV)}(r:KV b vs)(k:κ){y:V}{u:lV}(z:Bq y u):KV (T8 b k y) (stored vs k u):=by
 unfold T8 stored;rw[r.any k];by_cases e:(vs.any λF=>decide (F.1=k))=B
 .rw[mS e,mS e];exact r.repl k z
 .rw[mK e,mK e];exact Paired.snoc r [I,z]
end
def NR{P:mF}{w:mR}{k:Rw}{u:lV}(r:Bq (kV k) u):(Fo P w).is k u=B:=by
 cases k with
 |inl i=>let[t,e]:=(show ∃t,u=tV i t from r);subst e;exact S7 P w i t
 |inr x=>let[t,e]:=(show ∃t,u=qG x t from r);subst e;exact U5 P w x t
theorem Zj{P:mF}{w:mR}:∀{ks} {us},Bc (ks.map kV) us->ItemsAre (Fo P w) ks us
 |[],_,r=>by rw[zBr]at r;cases r;exact .nil
 |k::ks,_,r=>by
  rw[zAr]at r;cases r with
  |cons h t=>exact .cons (NR h) (Zj t)
abbrev KT(H:Hp):List (List Rw×V)->List (List Rw×T×lV)->Prop:=qA λp q=>p.1=q.1/\H q.2.1=g (.tup (p.1.map kV))/\Bq p.2 q.2.2
def KT.val{H:Hp}{F:List (List Rw×V)}{xs:List (List Rw×T×lV)}(r:KT H F xs)(k:List Rw):jV (Xt F k) ((atKey xs k).map (·.2)):=by
 induction r with
 |nil=>exact oX
 |@cons p q Q C h t P=>
  let[N,_,S]:=h;by_cases e:p.1=k
  .have L:q.1=k:=N.symm.trans e
   let b:atKey (q::C) k=g q.2:=by simp[atKey,zBU,L]
   rw[Q6 e,b];exact S
  .have L:¬q.1=k:=λz=>e (N.trans z)
   let b:atKey (q::C) k=atKey C k:=by simp[atKey,zBU,L]
   rw[V0 e,b];exact P
section
variable {P:mF} {w:mR} {H:Hp} {h:mX} {a:T}
def SO{u:HO}(C:jR P w H h)(e:Rd H a u):Cg P w H h a u:=e.ok C
def NL(C:jR P w H h)(e:Rd H a (.dK b)):b.length<=sizeLine/\(a==pN)=lX/\∃vs,KV b vs/\h.DictOf (Fo P w) a vs:=
 show Cg P w H h a (.dK b) from SO C e
def bU(C:jR P w H h)(e:H a=g (.dK b)):b.length<=sizeLine/\(a==pN)=lX/\∃vs,KV b vs/\h.DictOf (Fo P w) a vs:=NL C (.inl e)
def IZ{ks:List Rw}(N:jR P w H h)(e:H a=g (.tup (ks.map kV))):(vO (Fo P w)).is h ks a:=by
 let[_,z,r,o,C,L,n,F]:=(show Cg P w H h a (.tup (ks.map kV)) from N a _ e);exact[o,z.toArray,n,C,L,F,by simpa using Zj r]
def UC(W:jR P w H h)(e:Rd H a (.dT b)):b.length<=sizeLine/\(a==pN)=lX /\
  ∃xs,KT H b xs/\h.DictOfH (vO (Fo P w)) a xs:=by
 let[z,y,xs,r,o,A,U,E,S,C,Q,N]:=(show Cg P w H h a (.dT b) from SO W e);refine[z,y,xs,r,o,A,U,E,S,C,Q,λx F=>?_,N];let R:∀{l:List (List Rw×V)} {m:List (List Rw×T×lV)},KT H l m->∀x∈m,(vO (Fo P w)).is h x.1 x.2.1:=by
  intro l m q
  induction q with
  |nil=>intro x F;exact nomatch F
  |@cons p q c K L t X=>
   intro x F;rcases zAg.mp F with e|F
   .subst e
    exact IZ W (by rw[<- L.1];exact L.2.1)
   .exact X x F
 exact R r x F
end
def lF(H:Hp)(a:T)(y:V)(r:Option V):Prop:=
 (∃C k,Rd H a (.dK C)/\y=kV k/\r=Xt C k)\/∃C k b,Rd H a (.dT C)/\y=.ref b/\H b=g (.tup (k.map kV))/\r=Xt C k
def lF.k{H}{a}{z}{k}(e:H a=g (.dK z)):lF H a (kV k) (Xt z k):=.inl [z,k,.inl e,I,I]
section
variable {X:Cx} {pins:List (T×oH)} {σ:St} {H:Hp} {s:lZ} {a:T}
def Am.big(C:Am X pins σ H s):pN<⇑s:=by
 let h:zCB<⇑s:=(C.mod.glob.keeps C.bk).lt;exact w9 Y h
def RC{h':mX}{t':Nat}(N:Am X pins σ H s)(L:YX (H a))(C:zBa a s.heap h')(F:∃q,h'.get? a=g q)(P:Cg X.prog X.w (upd H a c) h' a c) :
  Am X pins σ (upd H a c) { s with heap:=h',toks:=t' }:=
 N.write (x:=a) (e:=a) L (.inl I) (λb q S z=>(C.2 b S).trans z) F P
def UU{P:mF}{w:mR}{H':Hp}{h':mX}{vs:List (Rw×lV)}(z:b.length<=sizeLine)(L:(a==pN)=lX)(F:KV b vs)(dd:h'.DictOf (Fo P w) a vs) :
  Cg P w H' h' a (.dK b):=[z,L,vs,F,dd]
end
def Q0{P:mF}{w:mR}{H:Hp}(h:mX)(z:pN<h.objs.size):Cg P w H (h.push { cls:=.type "dict",data:=.dict #v[] }) h.objs.size (.dK []):=
 [zAy _,beq_eq_false_iff_ne.mpr (oC (zAu z)),[],.nil,Heap.DictOf.new h]
def VP:TE:=λx H Q=>∀p,H p=M->Q (.ref p) (upd H p (.dK []))
section
variable {X:Cx} {pos:uL}
def HS:PE X (.Dict [] [] pos) VP:=λL s N H Q C h=>
 wpAny_Dict_empty [.ref ⇑s,_,C.laid (a:=⇑s) (o:=.dK []) (t':=s.toks) (λx x q=>zAk _ q) (zAm _) (Q0 s.heap C.big),I,h _ (C.hok.fresh (zAm _))]
end
def Z8:List (TE×TE)->St->Hp->(List (V×V)->Hp->Prop)->Prop
 |[],_,H,Q=>Q [] H
 |(tk,tv)::r,σ,H,Q=>tk σ H λx N=>tv σ N λy P=>Z8 r σ P λL C=>Q ((x,y)::L) C
abbrev VV:List (V×V)->List (lV×lV)->Prop:=qA λp q=>Bq p.1 q.1/\Bq p.2 q.2
def dB(X:Cx)(U:uL)(N:List (Option nY))(C:List nY)(R:List (TE×TE)):Prop:=
 ∀(L:List (T×oH)) (s:lZ) (P:St) (H:Hp) (Q:List (V×V)->Hp->Prop),Am X L P H s->Z8 R P H Q ->
  mO (mP X.prog X.w) X.A (evalPairs (pairTrees N C X.env U)) (λF E=>∃W A,Am X L P A E/\VV W F/\Q W A) X.xe s
def QT{X:Cx}:dB X b [] [] []:=λL s N H Q C h=>pairTrees_nil_walk [[],H,C,.nil,h]
def O9{X:Cx}{k v:nY}{ks:List (Option nY)}{vs:List nY}(C:PE X k w)(U:PE X v q)(f:dB X c ks vs b) :
  dB X c (g k::ks) (v::vs) ((w,q)::b):=λW s A H Q P h=>
 pairTrees_cons_walk (Er (C W s A H _ P h) λu j ⟨x,E,N,F,t⟩=>Er (U W j A E _ N t) λe R ⟨y,d,L,o,K⟩=>
  Er (f W R A d _ L K) λn m ⟨l,r,S,z,p⟩=>[(x,y)::l,r,S,.cons [F,o] z,p])
def Rk(H C:List (Rw×V)):List (Rw×V):=C.foldl (λL N=>T8 L N.1 N.2) H
def KV.merge:∀{F} {rs} {z} {vs},KV F rs->KV z vs->KV (Rk z F) (merged vs rs):=by
 intro F rs z vs r;unfold KV at r
 induction r generalizing z vs with
 |nil=>intro q;exact q
 |@cons p q N C h t H=>
  intro L;let e:KV (T8 z p.1 p.2) (stored vs q.1 q.2):=by
   let:=L.put p.1 h.2;rw[<- h.1];exact this
  exact H e
theorem Qy:∀(F z:List (Rw×V)),(Rk z F).length<=z.length+F.length
 |[],z=>by show z.length<=z.length+0;lia
 |p::r,z=>by
  let C:=Qy r (T8 z p.1 p.2);let L:=N5 z p.1 p.2;show(Rk (T8 z p.1 p.2) r).length<=_;rw[zAd];lia
theorem Xz{P:mF}{w:mR}:∀{z} {ws},VV (z.map λL=>(kV L.1,L.2)) ws->∃F,Carries (Fo P w) ws F/\KV z F
 |[],_,r=>by rw[zBr]at r;cases r;exact[[],oX,.nil]
 |p::z,_,r=>by
  rw[zAr]at r;cases r with
  |@cons a b S H h t=>
   let[F,c,q]:=Xz (P:=P) (w:=w) t;let[U,C]:=b;exact[(p.1,C)::F,[NR h.1,I,c],.cons [I,h.2] q]
def bI(L:List (TE×TE)):TE:=λR H Q=>∀p,H p=M->Z8 L R (upd H p (.dK [])) λU P=>P p=g (.dK [])/\∃C:List (Rw×V),U=C.map (λN=>(kV N.1,N.2))/\C.length<=15/\Q (.ref p) (upd P p (.dK (Rk [] C)))
def PV{X:Cx}(h:dB X d keys values b)(L:keys.all (·.isSome)=B)(u:keys.length=values.length)(r:keys≠[])
  (U:keys.length<=15):PE X (.Dict keys values d) (bI b):=by
 intro A s m H Q W q;let p:=W.hok.fresh (zAm ⇑s);let K:=W.laid (a:=⇑s) (o:=.dK []) (h':=s.heap.push { cls:=.type "dict",data:=.dict #v[] }) (t':=s.toks) (λ_ _ q=>zAk _ q) (zAm _) (Q0 s.heap W.big);refine wpAny_Dict_walk (knd:=Fo X.prog X.w) L u r U (Er (h A _ m _ _ K (q _ p)) λws s2 v=>?_);let[ps,H2,C,S,e,N,t,lk,j]:=v;subst t;let[l,c,i]:=Xz (P:=X.prog) (w:=X.w) S;let[z,n,aa,f,E]:=bU C.hok e;cases f;refine[l,c,E,λh' F R=>[.ref ⇑s,_,?_,I,j]];let y:(Rk [] N).length<=sizeLine:=by
  let h1:=Qy N [];rw[rV]at h1;rw[zCy];lia
 let k:∃q,h'.get? ⇑s=g q:=let [q,_,_,x,_]:=F;[q,x]
 exact RC C (by rw[e];exact oX) R k (UU y n (i.merge .nil) F)
structure M2(X:Cx)(o:nY)(m:J)(apos:uL)(e f:nY)(cpos:uL):Prop where
 base:pI o m X.env (nU o X.env)=nU o X.env
 few:((oB cpos (mH #[e,f] X.env)).all (λx => !x.1)&&(qC cpos (oQ [] X.env)).all (λx=>x.1.isSome)
  && decide ((#[e,f]:List nY).length+([]:List wI).length+(if ([]:List wI).isEmpty then 0 else 1)<30))=B
 line:(apos.endLine==cpos.line)=B
 trees:oB cpos (mH #[e,f] X.env)=#[(lX,nU e X.env),(lX,nU f X.env)]
def iD(H:Hp)(a:T):Prop:=(∃C,Rd H a (.dK C))\/∃C,Rd H a (.dT C)
def WV{X:Cx}{pins:List (T×oH)}{σ:St}{H:Hp}{s:lZ}{a:T}(C:Am X pins σ H s)(d:iD H a) :
  s.TypeIs (.ref a) "dict"/\(∀b,mG a=.ref b->∃z,s.heap.get? b=g z/\z.dict=M)/\(a==pN)=lX:=by
 rcases d with ⟨L,e⟩|⟨L,e⟩
 .let[_,F,U,_,P]:=NL C.hok e
  refine[P.typeIs,λb q=>?_,F];cases q;let[z,_,_,Q,N,_]:=P;exact[z,Q,N.2.1]
 .let[_,F,R,_,P]:=UC C.hok e
  refine[P.typeIs,λb q=>?_,F];cases q;let[z,_,_,Q,N,_]:=P;exact[z,Q,N.2.1]
section
variable {X:Cx} {pins:List (T×oH)} {σ:St} {H:Hp} {s:lZ} {a:T} {y d:V} {u r:lV} {o:Option V} {A:mZ} {E:lV->lZ->Prop}
def WF{Q:lV->lZ->Prop}(j:A.units+1<pQ)(R:Am X pins σ H s)(C:lF H a y o)(P:Bq y u)(U:Bq d r)(h:∀N c,Am X pins σ H c->Bq (o.getD d) N->Q N c) :
  mO (mP X.prog X.w) A (call (.builtin "dict.get") #[.ref a,u,r]) Q E s:=by
 rcases C with ⟨S,k,e,W,l⟩|⟨S,k,b,e,W,p,l⟩
 .subst W
  let[z,L,q,F,K]:=NL R.hok e;refine call_meetsIn rC K.typeIs vT (vI _ _ _) (meets_dict_get_default (Fo X.prog X.w) a (NR P) L r) [_,K.mapOf,h _ _ (R.tok _) ?_];rw[l];exact(F.val k).getD U
 .subst W
  cases (show u=mG b from P)
  let[z,L,f,F,K]:=UC R.hok e;refine call_meetsIn rC K.typeIs vT (vI _ _ _) (meetsH_dict_get_default (vO (Fo X.prog X.w)) a b L r) [tupleKind_room_in1 j,k,f,IZ R.hok p,K,h _ _ (R.tok _) ?_];rw[l];exact(F.val k).getD U
end
def WQ(R P tx:TE):TE:=λC H Q=>R C H λx L=>∃a,x=.ref a/\iD L a/\P C L λy U=>tx C U λz N=>∃o,lF N a y o/\Q (o.getD z) N
section
variable {X:Cx} {o e f:nY} {apos cpos:uL} {td ty tx:TE}
def IS(j:X.A.units+1<pQ)(w:PE X o td)(k:PE X e ty)(hf:PE X f tx)(m:M2 X o "get" apos e f cpos):PE X (.Call (.Attribute o "get" apos) #[e,f] [] cpos) (WQ td ty tx):=by
 intro A s E H Q W h;refine wpAny_Call_method m.base m.few m.line PySem.F.plainAttrs_dict rC PySem.F.type_dict_get (Er (w A s E H _ W h) λu i C=>?_);let[x,K,L,l,a,v,d,q1]:=C;subst v;obtain rfl:u=mG a:=l;let[q,U,_]:=WV L d;refine[q,U,?_];rw[m.trees];refine wA I (sG (pV (Er (k A i E K _ L q1) λiv N ⟨y,n,I2,p,b⟩=>
  pV (Er (hf A N E n _ I2 b) λfv s3 ⟨z,r,S,t,ov,P,R⟩=>qU ?_))))
 exact WF j S P p t λw' s4 c F=>[_,r,c,F,R]
end
def W4(C:List (J×T)):List (J×pH)->List (J×T)->List (J×T)
 |[],cs=>cs
 |(n,k)::r,cs=>W4 C r (if k==oS then(match C.lookup n with|some a=>(n,a)::cs|none=>cs) else cs)
theorem P1{env:sB}:∀(names:List (J×pH)) (cs:List (J×T)),(∀y∈names,y.2=.free->∃c,env.cells.lookup y.1=g c) ->
  (forIn names cs λ(x:J×pH) (r:List (J×T))=>if (x.2==oS)=B then(do let a <- cellOf env x.1;pure (pK ((x.1,a)::r))) else(pure (pK r):vH (ForInStep (List (J×T)))))
   = (pure (W4 env.cells names cs):vH (List (J×T)))
 |[],cs,_=>rfl
 |(n,k)::r,cs,h=>by
  let H:=P1 (env:=env) r;rw[List.forIn_cons];unfold W4;cases L:(k==oS)with
  |false=>
   simp only[zBV,tU];show(forIn r cs _:vH _)=_;exact H cs λy F=>h y (zAh _ F)
  |true=>
   let[c,C]:=h (n,k) zAl (by simpa using L);let z:env.cells.lookup n=g c:=C;let e:cellOf env n=pure c:=by unfold cellOf;rw[z]
   simp only[rY,e,z];show(forIn r ((n,c)::cs) _:vH _)=_;exact H _ λy F=>h y (zAh _ F)
def Z4{env:sB}(h:∀y∈scope.names,y.2=.free->∃c,env.cells.lookup y.1=g c):closureFor scope env=pure (W4 env.cells scope.names []):=by
 unfold closureFor;let q:=P1 (env:=env) scope.names [] h;refine Eq.trans ?_ (nI (λz:vH (List (J×T))=>z >>= λF=>pure F) q);rfl
set_option tactic.hygienic true in
theorem CJ:∀(names:List (J×pH)) (cs:List (J×T)),(∀p∈cs,z.lookup p.1=g p.2)->∀p∈W4 z names cs,z.lookup p.1=g p.2
 |[],cs,h,p,hp=>h p hp
 |(n,k)::r,cs,h,p,hp=>by
  unfold W4 at hp;refine CJ r _ (λq F=>?_) p hp
  split at F
  .split at F
   .rename_i a e
    rcases zAg.mp F with rfl|F
    .exact e
    .exact h q F
   .exact h q F
  .exact h q F
def Oi{names:List (J×pH)}{x:J}{c:T}(e:(W4 cells names []).lookup x=g c):cells.lookup x=g c:=
 CJ names [] (λy z=>nomatch z) (x,c) (nX e)
theorem Zh:∀(names:List (J×pH)) (cs:List (J×T)) (p:J×T),p∈cs->p∈W4 cells names cs
 |[],cs,p,hp=>hp
 |(n,k)::r,cs,p,hp=>by
  unfold W4;refine Zh r _ p ?_
  split
  .split
   .exact zAh _ hp
   .exact hp
  .exact hp
theorem G0{x:J}{c:T}(z:cells.lookup x=g c):∀(names:List (J×pH)) (cs:List (J×T)),(x,oS)∈names->(x,c)∈W4 cells names cs
 |[],_,h=>nomatch h
 |(n,k)::r,cs,h=>by
  unfold W4;rcases zAg.mp h with e|h
  .cases e
   refine Zh r _ _ ?_;rw[z];simp
  .exact G0 z r _ h
theorem Ip{x:J}{c:T}:∀{l:List (J×T)},(x,c)∈l->∃d,l.lookup x=g d
 |[],h=>nomatch h
 |(y,d)::r,h=>by
  rw[zBJ];cases e:(x==y)with
  |true=>exact[d,I]
  |false=>
   rcases zAg.mp h with z|z
   .cases z
    simp at e
   .exact Ip z
theorem Oe{env:sB}:∀{names:List (J×pH)} {x:J} {k:pH},
  (names.map λ(n,k)=>if (k==oS&&env.scope.kind == .function&&env.kindOf n==g .cell) then(n,uU) else(n,k)).lookup x=g k ->
   names.lookup x=g k\/(k=.cell/\names.lookup x=g .free)
 |[],_,_,h=>by simp at h
 |(n,k0)::r,x,k,h=>by
  let H:=@Oe env r x k;rw[zAr]at h;rw[zBJ];by_cases c:(k0==oS&&env.scope.kind == .function&&env.kindOf n==g .cell)=B
  .have C:=h
   simp only[c,rY]at C;rw[zBJ]at C;cases e:(x==n)with
   |true=>
    rw[e]at C;let z:k0=.free:=by
     simp only[zAO]at c
     simpa using c.1.1
    refine .inr [(mI C).symm,?_];rw[z]
   |false=>
    rw[e]at C;exact H C
  .have C:=h
   simp only[c,zBV,tU]at C;rw[zBJ]at C;cases e:(x==n)with
   |true=>
    rw[e]at C;exact .inl C
   |false=>
    rw[e]at C;exact H C
theorem Sy{env:sB}:∀{names:List (J×pH)} {x:J},names.lookup x=g .free ->
  (names.map λ(n,k)=>if (k==oS&&env.scope.kind == .function&&env.kindOf n==g .cell) then(n,uU) else(n,k)).lookup x=g .cell \/
  (names.map λ(n,k)=>if (k==oS&&env.scope.kind == .function&&env.kindOf n==g .cell) then(n,uU) else(n,k)).lookup x=g .free
 |[],_,h=>by simp at h
 |(n,k0)::r,x,h=>by
  let C:=@Sy env r x;rw[zAr];rw[zBJ]at h;by_cases c:(k0==oS&&env.scope.kind == .function&&env.kindOf n==g .cell)=B
  .simp only[c,rY,zBJ]
   cases e:(x==n)with
   |true=>exact .inl I
   |false=>
    rw[e]at h;exact C h
  .simp only[c,zBV,tU,zBJ]
   cases e:(x==n)with
   |true=>
    rw[e]at h;exact .inr h
   |false=>
    rw[e]at h;exact C h
def NV(C scope:rJ):Bool:=
 scope.kind == .function&&scope.names.all λy=>y.2 != .cell&&(y.2 != .local||scope.names.lookup y.1==g .local)&&(y.2 != .free||(C.names.lookup y.1==g .cell||C.names.lookup y.1==g .free))
structure Az(sc scope:rJ):Prop where
 kind:scope.kind=.function
 cell:∀y∈scope.names,y.2≠.cell
 own:∀y∈scope.names,y.2=.local->scope.names.lookup y.1=g .local
 free:∀y∈scope.names,y.2=.free->sc.names.lookup y.1=g .cell\/sc.names.lookup y.1=g .free
def Az.of(h:NV b scope=B):Az b scope:=by
 unfold NV at h;rw[zAO,zBE]at h;let[C,L]:=h;let F:∀y∈scope.names,(y.2≠.cell/\(y.2≠.local\/scope.names.lookup y.1=g .local))/\(y.2≠.free\/(b.names.lookup y.1=g .cell\/b.names.lookup y.1=g .free)):=λy z=>by
  let q:=L y z
  simpa[zAO,Bool.or_eq_true]using q
 refine[by simpa using C,λy z=>(F y z).1.1,λy z e=>?_,λy z e=>?_]
 .exact(F y z).1.2.resolve_left λn=>n e
 .exact(F y z).2.resolve_left λn=>n e
def Pg(X:Cx)(NC:List J)(scope:rJ)(C:lZ)(H:Hp)(L:List T):Cx:=
 { X with N:=NC,s₀:=C,H₀:=H,env:=compEnvC scope (W4 X.env.cells scope.names []) ⇑C X.env,outer:=X.stack,ex:=L,fn:=λx=>lX,pn:=[],xe:=λx x=>False }
def GJ(own:Nat)(ix:List Nat)(σ:St):St:=zAe own M++ix.map λj=>(σ[j]?).getD M
def jY(X:Cx)(scope:rJ):List J->List Nat->Prop
 |[],[]=>True
 |x::H,j::C=>(X.N[j]?=g x/\(X.env.kindOf x=g .cell\/X.env.kindOf x=g .free)/\scope.names.lookup x=g .free)/\jY X scope H C
 |_,_=>False
theorem jY.len{X:Cx}:∀{cs} {z:List Nat},jY X scope cs z->cs.length=z.length
 |[],[],_=>rfl
 |_::_,_::_,h=>by rw[zAd,zAd,jY.len h.2]
 |[],_::_,h=>h.elim
 |_::_,[],h=>h.elim
theorem jY.at{X:Cx}:∀{cs} {z:List Nat} {i:Nat} {x},jY X scope cs z->cs[i]?=g x ->
  ∃j,z[i]?=g j/\X.N[j]?=g x/\(X.env.kindOf x=g .cell\/X.env.kindOf x=g .free)/\scope.names.lookup x=g .free
 |[],[],_,_,_,e=>by simp at e
 |x::_,j::_,0,_,h,e=>by simp at e;subst e;exact[j,I,h.1]
 |_::_,_::_,i+1,_,h,e=>by
  let[j,F,r]:=jY.at (i:=i) h.2 (by simpa using e);exact[j,by simpa using F,r]
 |[],_::_,_,_,h,_=>h.elim
 |_::_,[],_,_,h,_=>h.elim
def cJ:TT:=λx H Q=>Q B H
def UK(C:Cx)(P:List nY)(t:TT):Prop:=
 ∀(L:List (T×oH)) (s:lZ) (N:St) (H:Hp) (Q:Bool->Hp->Prop),Am C L N H s->t N H Q ->
  mO (mP C.prog C.w) C.A (forIn P B λc r=>if r=B then do let R <- yQ c C.env (nU c C.env);pure (pK R) else pure (pK r)) (TP C L N Q) C.xe s
def Fh:UK b [] cJ:=λx x x H x C h=>wpAny_tests_nil [H,C,h]
def D8{c:nY}{t:TT}(h:PT b c t):UK b #[c] t:=λL s N H Q C q=>wpAny_tests_one (h L s N H Q C q)
def Xj(C:TG)(f:TT)(c:TE)(own:Nat)(ix:List Nat)(σ:St)(H:It)(p:T)(d:Hp)(QQ:Hp->Prop):Prop:=
 ∃W:Nat->Nat->List V->St->Hp->Prop,(∃m,W 0 m [] (GJ own ix σ) (upd d p (.lst [])))/\∀i m P R Q,W i m P R Q->Q p=g (.lst P) /\
  ((H.stop i Q/\QQ Q)\/(H.go i Q/\P.length<sizeLine/\∀x K,H.yld i Q x K->∃N:List V->St->Hp->Prop,(∀U X S,N U X S->∃E,E<m/\W (i+1) E U X S) /\
   C x R K λL j=>f L j λb F=>if b=B then c L F λy A=>A p=g (.lst P)/\N (P++#[y]) L (upd A p (.lst (P++#[y]))) else N P L F))
def KS(U:TI)(C:TG)(W:TT)(R:TE)(own:Nat)(ix:List Nat):TE:=λN H Q=>U N H λL P=>∀p,P p=M->Xj C W R own ix N L p P (Q (.ref p))
section
variable {X:Cx} {pins:List (T×oH)} {σ:St} {H H':Hp} {s s':lZ}
def V2{NC own cs:List J}{ix:List Nat}{scope:rJ}{fp:List T}{h4:mX}{t4:Nat}(C:Am X pins σ H s)(S:Az X.env.scope scope)(hN:NC=own++cs)(hc:jY X scope cs ix)
  (W:∀b∈fp,Op X pins H b) (hl:∀b∈fp,b<⇑s) (a:h4.Ns ⇑s λ_=>M) (A:∀b o,s.heap.get? b=g o->h4.get? b=g o) :
  Am (Pg X NC scope s H fp) [] (GJ own.length ix σ) H { s with heap:=h4,toks:=t4 }:=by
 let L:∀y∈scope.names,y.2=.free->∃c,X.env.cells.lookup y.1=g c:=λy hy e=>C.ok.has y.1 (S.free y hy e);let f:=hc.len;refine[[C.ok.mod,S.kind,C.ok.glob,C.ok.blt,zAm _,λx y c K P=>C.ok.inj x y c (Oi K) (Oi P),λx hx=>?_,λ_ _ z=>(nomatch z),C.ok.hd,C.ok.frames,.inl I,λb Q=>[zAu (hl b Q),λx c e=>(W b Q).2.2.2.2.1 x c (Oi e)],
   C.bs,zAG C.ok.bsz C.sz,λb o e Q=>?_,λb Q z=>?_,C.stack,C.stkFree],I,C.bare,Un.kept A,[_,a,λi x v K P e3=>?_],λx c e=>?_,C.hok.fresh (zAm _),λx c e=>C.freeC x c (Oi e),λp hp=>?_,C.hok.kept A,?_]
 ·
  let r:(relabel scope X.env).names.lookup x=g .cell\/(relabel scope X.env).names.lookup x=g .free:=hx;let q:scope.names.lookup x=g .free:=by
   rcases r with h|h
   .rcases Oe h with h|⟨_,h⟩
    .exact mC I (S.cell _ (nX h))
    .exact h
   .rcases Oe h with h|⟨z,_⟩
    .exact h
    .cases z
  let[c,t]:=L (x,.free) (nX q) I;exact Ip (G0 t scope.names [] (nX q))
 .rcases (W b Q).2.2.2.1 with z|z
  .exact C.ok.noex b o e z
  .exact mC (zAF (zAo e) (zAG C.ok.bsz z)) (zBN _)
 .rcases zAg.mp (C.stkSub b z)with z|z
  .exact(W b Q).2.1 z
  .exact(W b Q).2.2.1 z
 ·
  let R:(own++cs)[i]?=g x:=hN▸K;let n:own.length<=i:=by
   by_cases n:own.length<=i
   .exact n
   .unfold GJ at P
    rw[zCk (by rw[zAC];omega),zCr,mS zY]at P;cases P
  rw[zBO n]at R;let[j,ej,en,kx,fx]:=hc.at R;let N:(σ[j]?).getD M=g v:=by
   unfold GJ at P;rw[zBO (by rw[zAC];omega),zAC,zAt,ej]at P;exact mI P
  let U:σ[j]?=g (g v):=by
   cases z:σ[j]? with
   |none=>rw[z]at N;cases N
   |some o=>rw[z]at N;exact nI g N
  let[m,_,w]:=C.loc;let[u,ru,l]:=w j x v en U (kx.elim (λz=>.inr (.inl z)) λz=>.inr (.inr z));refine[u,ru,.inr [Sy fx,?_]];rcases l with ⟨k,_⟩|⟨_,c,e,z⟩
  .rcases kx with E|E<;>rw[k]at E<;>cases E
  .let[d,hd]:=Ip (G0 e scope.names [] (nX fx))
   let e':=Oi hd;rw[e]at e';cases e';let[o,ho,F]:=z;exact[c,hd,o,A c o ho,F]
 .let[v,o,ho,F]:=C.cell x c (Oi e)
  exact[v,o,A c o ho,F]
 .exact mC (show p∈([]:List (T×oH)) from hp) zZ
 .show (GJ own.length ix σ).length=NC.length
  rw[hN];unfold GJ;rw[zAc,zAc,zAC,zAb,f]
def Qi{NC:List J}{h':mX}(W:Am X pins σ H s)(R:∀b∈f,Op X pins H b)(Q:Am (Pg X NC scope s H f) [] r H' s')(L:zBa ⇑s s'.heap h'):Am X pins σ H' { s' with heap:=h' }:=by
 let[p,C,d,t,l]:=s';let U:l=s.os:=Q.os;subst U;let K:H' ⇑s=M:=Q.free;let E:Un (Vz X.stack) f H H' s.heap p:=Q.base;let A:∀b o,s.heap.get? b=g o->b≠⇑s:=λb o e=>zAu (zAo e);let N:Un (Vz X.stack) f H H' s.heap h':=[λb o e n z F=>(L.2 b (A b o e)).trans (E.keep b o e n z F),λb o e n z F=>let [j,q]:=E.slot b o e n z F;[j,(L.2 b (A b o e)).trans q],E.free,
  λb o e F=>let [k,q]:=E.there b o e F;[k,(L.2 b (A b o e)).trans q],E.tups,E.frzs,E.tbls]
 let P:jR X.prog X.w H' h':=λb u e=>by
  refine(Q.hok b u e).stay (λc v S q=>(L.2 c ?_).trans q) (λx q=>q) λx x q=>q;rintro rfl;rcases S with rfl|S
  .rw[K]at e;cases e
  .rw[K]at S;cases S
 let q:=Am.call (s:=s) (h':=h') (g':=C) (d':=d) (t':=t) (ch:=f) W N P Q.bare λb z=>[(R b z).2.2.2.1,(R b z).2.1,(R b z).2.2.2.2.1,(R b z).2.2.2.2.2];exact q
end
def ZW(X:Cx)(NC:List J)(scope:rJ)(C:lZ)(H:Hp)(L:List T)(E:lV->lZ->Prop):Cx:={ Pg X NC scope C H L with xe:=E }
section
variable {X:Cx} {NC:List J} {scope:rJ} {s3:lZ} {H3:Hp} {fp:List T} {E:lV->lZ->Prop} {pins:List (T×oH)} {σ:St} {H:Hp} {s:lZ}
def Am.toB(C:Am (Pg X NC scope s3 H3 fp) pins σ H s):Am (ZW X NC scope s3 H3 fp E) pins σ H s:=[[C.ok.mod,C.ok.kind,C.ok.glob,C.ok.blt,C.ok.above,C.ok.inj,C.ok.has,C.ok.cab,C.ok.hd,C.ok.frames,C.ok.stk,C.ok.exf,C.ok.bs,C.ok.bsz,C.ok.noex,C.ok.exfs,C.ok.funs,C.ok.frf],C.os,C.bare,C.base,C.loc,C.cell,C.free,C.freeC,C.pin,C.hok,C.len]
def Am.ofB(C:Am (ZW X NC scope s3 H3 fp E) pins σ H s):Am (Pg X NC scope s3 H3 fp) pins σ H s:=[[C.ok.mod,C.ok.kind,C.ok.glob,C.ok.blt,C.ok.above,C.ok.inj,C.ok.has,C.ok.cab,C.ok.hd,C.ok.frames,C.ok.stk,C.ok.exf,C.ok.bs,C.ok.bsz,C.ok.noex,C.ok.exfs,C.ok.funs,C.ok.frf],C.os,C.bare,C.base,C.loc,C.cell,C.free,C.freeC,C.pin,C.hok,C.len]
end
def Y0{prog:mF}{w:mR}{A:mZ}{R:wU->lZ->Prop}{s:lZ}{it z:lV}{env:sB}{EE:lV->lZ->Prop}(q:∀e W,EE e W->notedBy (mP prog w) A env (λe W=>R (.error e) W) e W)(N:Nat->lZ->Prop)
  (F:∀n s,N n s->mO (mP prog w) A (pyNext it) (λr U=>(r=M/\R (.ok .next) U)\/∃v,r=g v /\
   mO (mP prog w) A (sO target it v) (λy X=>mO (mP prog w) A (uP target env v) (λy H=>
    mO (mP prog w) A (forIn j B λc r=>if r=B then do let K <- yQ c env (nU c env);pure (pK K) else pure (pK r)) (λK S=>
     (K=B/\mO (mP prog w) A (nU b env) (λx Q=>mO (mP prog w) A (call (.builtin "list.append") #[z,x]) (λy C=>∃m,m<n/\N m C) (λy y=>False) Q) EE S) \/
     (K=lX/\∃m,m<n/\N m S)) (λy y=>False) H) (λy y=>False) X) (λy y=>False) U) (λy y=>False) s)
  (n:Nat) (h:N n s):pT (mP prog w) A (.compLoop (.ListComp b #[[target,iter,j,0]] scope p) 0 it z env) R s:=by
 refine codeAny_loop I N (λn s t=>?_) n h;show mO _ A ((compTurn (.ListComp b #[[target,iter,j,0]] scope p) 0 it z env).onRaise (λx=>do sD x env;theTreesLotGoes x)) _ _ s;refine wpAny_noted ?_;rw[compTurn_list];let l:∀(e:lV) (W:lZ),False->notedBy (mP prog w) A env (λe W=>R (.error e) W) e W:=λy y f=>f.elim;refine zCw (oP (zCw (nV (F n s t) (λr U P=>?_) l)));rcases P with ⟨rfl,P⟩|⟨v,rfl,P⟩
 .exact zCx P
 refine zCw (nV P (λy X E=>?_) l);refine zCw (nV E (λy H o=>?_) l);refine zCw (nV o (λK S L=>?_) l);rcases L with ⟨rfl,L⟩|⟨rfl,L⟩
 .refine zCw (zCw (nV L (λx Q k=>?_) q))
  exact zCw (nV k (λy C d=>zCx (zCx [I,d])) l)
 .exact zCx [I,L]
def Wk{X:Cx}{NC own cs:List J}{ix:List Nat}(hc:X.calm=B)(S:Az X.env.scope scope)(hN:NC=own++cs)(ac:jY X scope cs ix)
  (hg:∀R A Q,PG (Pg X NC scope R A Q) tg f) (ht:∀R A Q,UK (Pg X NC scope R A Q) a5 tc)
  {pins:List (lU×oH)} {σ:St} {H2:Hp} {it:lU} {tn:Nat->mX->Prop} (I2:Am X pins σ H2 k) (T:D4 X.prog X.w X.K tg j Q it tn) (al:tn 0 k.heap) (f2:∀b∈Q,Op X pins H2 b) {QQ:lU->Hp->Prop} {E:lV->lZ->Prop}
  {RR:lV->lU->wU->lZ->Prop} {EE:lZ->Hp->lV->lZ->Prop} (he:∀R A,PE (ZW X NC scope R A Q (EE R A)) a6 te)
  (hE:∀R A H e v,Am X pins σ A R->(∀b∈Q,Op X pins A b)->EE R A e v->notedBy (mP X.prog X.w) X.A (compEnvC scope (W4 X.env.cells scope.names []) ⇑R X.env) (λe v=>RR H ⇑R (.error e) v) e v)
  (h2:∀p,H2 p=M->Xj f tc te own.length ix σ j p H2 (QQ p))
  (ay:∀R A K H5 s6,Am X pins σ A R->(∀b∈Q,Op X pins A b)->Am (Pg X NC scope R A Q) [] K H5 s6->QQ ⇑k H5->RR (.ref ⇑k) ⇑R (.ok .next) s6) :
  mO (mP X.prog X.w) X.A (newList []) (λH R=>mO (mP X.prog X.w) X.A (newFunctionEnv scope X.env.globals (W4 X.env.cells scope.names []) [] X.env.qual M .none (g X.env)) (λU s4=>
   pT (mP X.prog X.w) X.A (.compStart (.ListComp a6 #[[tg,iter,a5,0]] scope a7) 0 (.ref it) H { U with scope:=relabel scope X.env }) (RR H U.locals) s4) E R) E k:=by
 let ae:∀b∈Q,b<⇑k:=λb F=>let [_,e,_]:=T.obj _ _ al b F;zAo e
 let[W,[m0,w0],ab]:=h2 _ I2.fresh;refine uV ?_;let I3:Am X pins σ (upd H2 ⇑k (.lst [])) { k with heap:=k.heap.push { cls:=.type "list",dict:=M,data:=.seq ([]:List lV).toArray } }:=I2.lnew (t':=k.toks) .nil (zAy _);let a:∀b∈Q,Op X pins (upd H2 ⇑k (.lst [])) b:=λb F=>[by rw[Ak (zAu (ae b F))];exact(f2 b F).1,(f2 b F).2];let az:tn 0 (k.heap.push { cls:=.type "list",dict:=M,data:=.seq ([]:List lV).toArray }):=T.keep _ _ _ al λb F o e=>zAk _ e;let ag:∀b∈Q,b<(k.heap.push { cls:=.type "list",dict:=M,data:=.seq ([]:List lV).toArray }).objs.size:=λb F=>by rw[zCp];exact uD (ae b F)
 refine wpAny_newFunctionEnv S.cell (λ_ z=>nomatch z) (λh4 aj ap=>?_) S.kind
 dsimp only at aj ap⊢
 let ad:∀b o,(k.heap.push { cls:=.type "list",dict:=M,data:=.seq ([]:List lV).toArray }).get? b=g o->h4.get? b=g o:=λb o e=>
  ap.extBut b o (zAu (zAo e)) (zAk _ e)
 let J0:=V2 (t4:=k.toks+([]:List (J×lV)).length) I3 S hN ac a ag aj ad;let ah:tn 0 h4:=T.keep _ _ _ az λb F o e=>ad b o e;let fB:∀{q:Hp},(∀b∈Q,q b=M)->∀b∈Q,Op (Pg X NC scope { k with heap:=k.heap.push { cls:=.type "list",dict:=M,data:=.seq ([]:List lV).toArray } } (upd H2 ⇑k (.lst [])) Q) [] q b:=λhn b F=>by
  refine[hn b F,zAu (ag b F),λz=>?_,.inl F,λx c e=>(a b F).2.2.2.2.1 x c (Oi e),λp hp=>mC (show p∈([]:List (lU×oH)) from hp) zZ];rcases zAg.mp (I3.stkSub b z)with z|z
  .exact(a b F).2.1 z
  .exact(a b F).2.2.1 z
 let C:∀s4:lZ,s4={ k with heap:=h4,toks:=k.toks+([]:List (J×lV)).length } ->
   pT (mP X.prog X.w) X.A (.compLoop (.ListComp a6 #[[tg,iter,a5,0]] scope a7) 0 (.ref it) (.ref ⇑k) (compEnvC scope (W4 X.env.cells scope.names []) (k.heap.push { cls:=.type "list",dict:=M,data:=.seq ([]:List lV).toArray }).objs.size X.env))
    (RR (.ref ⇑k) (k.heap.push { cls:=.type "list",dict:=M,data:=.seq ([]:List lV).toArray }).objs.size) s4:=by
  rintro s4 rfl;refine Y0 (EE:=EE { k with heap:=k.heap.push { cls:=.type "list",dict:=M,data:=.seq ([]:List lV).toArray } } (upd H2 ⇑k (.lst []))) (λe v z=>hE _ _ _ e v I3 a z) (λn v=>∃i w l q,Am (Pg X NC scope { k with heap:=k.heap.push { cls:=.type "list",dict:=M,data:=.seq ([]:List lV).toArray } } (upd H2 ⇑k (.lst [])) Q) [] l q v/\tn i v.heap/\(∀b∈Q,q b=M)/\W i n w l q) ?_ m0
   [0,[],_,_,J0,ah,λb F=>(a b F).1,w0]
  rintro n s5 ⟨i,w,K,H5,J5,an,ao,w5⟩;let[a1,ar]:=ab i n w K H5 w5;rcases ar with ⟨ai,qn⟩|⟨go,hz,a4⟩
  .refine Er (T.done (Pg X NC scope _ _ Q) I I I hc i [] s5 K H5 _ J5 (fB ao) an ai) λr s6 ⟨hr,J6⟩=>.inl [hr,?_]
   exact ay _ _ _ _ _ I3 a J6 qn
  .refine Er (T.item (Pg X NC scope _ _ Q) I I I hc i [] s5 K H5 _ J5 (fB ao) an go) λr s6 ⟨u,hr,h6⟩=>.inr [u,hr,?_]
   refine Er h6 λ_ s7 h=>?_;let[x,H7,J7,r7,y7,P,av]:=h;let a0:=J7.pinned (fB av) (T.obj _ _ P);let[N,ak,q7]:=a4 x H7 y7;refine Er (hg _ _ Q _ s7 K H7 x u _ a0 r7 q7) λ_ s8 h=>?_;let[t,H8,J8,q8]:=h;refine Er (ht _ _ Q _ s8 t H8 _ J8 q8) λok s9 ⟨H9,J9,q9⟩=>?_;let L:∀{s:St} {Ha:Hp} {sa:lZ} {ya:List V} {ma:Nat},Am (Pg X NC scope { k with heap:=k.heap.push { cls:=.type "list",dict:=M,data:=.seq ([]:List lV).toArray } } (upd H2 ⇑k (.lst [])) Q) ([]++Wp Q s7.heap) s Ha sa->ma<n->W (i+1) ma ya s Ha ->
     ∃m,m<n/\∃i w l q,Am (Pg X NC scope { k with heap:=k.heap.push { cls:=.type "list",dict:=M,data:=.seq ([]:List lV).toArray } } (upd H2 ⇑k (.lst [])) Q) [] l q sa/\tn i sa.heap/\(∀b∈Q,q b=M)/\W i m w l q:=λ{s Ha sa ya ma} Ja hm wa=>by
    refine[ma,hm,i+1,ya,s,Ha,Ja.unpinned,T.keep _ _ _ P λb F o e=>(Ja.pin (b,o) (zAP _ (zAP _ (Nv F e)))).1,λb F=>?_,wa];let[o,e,d]:=T.obj _ _ P b F;exact(Ja.pin (b,o) (zAP _ (zAP _ (Nv F e)))).2.1
   cases ok with
   |false=>
    let[m',hm,w']:=ak _ _ _ (show N w t H9 from q9);exact .inr [I,L J9 hm w']
   |true=>
    refine .inl [I,Er (he _ _ _ s9 t H9 _ J9.toB q9) λyv as h=>?_];let[y,af,aa,au,am,aq]:=h;let aa:=aa.ofB;let[m',hm,w']:=ak _ _ _ aq;refine Er (Dx _ as t af (.ref ⇑k) #[y] (.ref ⇑k) #[yv] (λ_ Hz=>Hz=upd af ⇑k (.lst (w++#[y]))) aa I (.cons au .nil) [_,w,y,I,I,am,hz,I]) λ_ a2 h=>?_;let[_,a3,ax,_,aw]:=h;subst aw;exact L ax hm w'
 exact codeAny_compStart_list (C _ I) (T.self X.A 0 _ _ _ ah (C _ I))
def A2{X:Cx}{NC own cs:List J}{ix:List Nat}(q:X.calm=B)(S:Az X.env.scope scope)(w:NC=own++cs)(F:jY X scope cs ix)
  (r:∀P Q R,PG (Pg X NC scope P Q R) l c) (u:∀P Q R,UK (Pg X NC scope P Q R) j s) (v:∀P Q R,PE (Pg X NC scope P Q R) k o)
  {pins:List (lU×oH)} {σ:St} {H2:Hp} {it:lU} {H:Nat->mX->Prop} (m:Am X pins σ H2 f) (T:D4 X.prog X.w X.K l d R it H) (U:H 0 f.heap) (t:∀b∈R,Op X pins H2 b) {QQ:lU->Hp->Prop} {E:lV->lZ->Prop}
  {RR:lV->lU->wU->lZ->Prop}
  (n:∀p,H2 p=M->Xj c s o own.length ix σ d p H2 (QQ p))
  (N:∀P Q W C A,Am X pins σ Q P->(∀b∈R,Op X pins Q b)->Am (Pg X NC scope P Q R) [] W C A->QQ ⇑f C->RR (.ref ⇑f) ⇑P (.ok .next) A) :
  mO (mP X.prog X.w) X.A (newList []) (λL P=>mO (mP X.prog X.w) X.A (newFunctionEnv scope X.env.globals (W4 X.env.cells scope.names []) [] X.env.qual M .none (g X.env)) (λz K=>
   pT (mP X.prog X.w) X.A (.compStart (.ListComp k #[[l,iter,j,0]] scope y) 0 (.ref it) L { z with scope:=relabel scope X.env }) (RR L z.locals) K) E P) E f:=
 Wk q S w F r u m T U t (EE:=λx x x x=>False) (λP Q=>v P Q R) (λx x x x x x x h=>h.elim) n N
def Hv{X:Cx}{NC own cs:List J}{ix:List Nat}(hc:X.calm=B)(S:Az X.env.scope scope)(w:NC=own++cs)(z:jY X scope cs ix)
  (hi:PI X r iter n) (hg:∀f d j,PG (Pg X NC scope f d j) r b) (ht:∀f d j,UK (Pg X NC scope f d j) k tc) (u:∀f d j,PE (Pg X NC scope f d j) l te)
  (hs:∀x,rE iter X.env x=pure x:=by intro _;rfl):PE X (.ListComp l #[[r,iter,k,0]] scope m) (KS n b tc te own.length ix):=by
 intro K s q H Q E h;rw[eval_ListComp];let N:∀y∈scope.names,y.2=.free->∃c,X.env.cells.lookup y.1=g c:=λy i e=>E.ok.has y.1 (S.free y i e);refine rP (use:=M) I hs (Z4 N) S.kind S.own (Er (hi K s q H _ E h) λv s1 h1=>Er h1 λaa s2 W=>?_);let[it,j,tn,A,H2,e,I2,P,L,f2,W]:=W;subst e;refine A2 hc S w z hg ht u I2 P L f2 (QQ:=λp=>Q (.ref p)) (RR:=λR C=>compPost (mP X.prog X.w) X.A X.xe M (EP X K q Q) R C) W λf d a H5 s6 t f3 o qn=>?_;let[m6,U,_]:=o.loc;exact[m6,U,λh7 F=>[.ref ⇑s2,H5,Qi t f3 o F,I,qn]]
def Nk{X:Cx}{NC own cs:List J}{ix:List Nat}{y:J}{j:Nat}(ad:X.N.Nodup)(hj:X.N[j]?=g y)(U:X.env.scope.names.lookup y=g .local)(hc:X.calm=B)(S:Az X.env.scope scope)(hN:NC=own++cs)(L:jY X scope cs ix)
  (hi:PI X n iter wi) (hg:∀f r t,PG (Pg X NC scope f r t) n d) (ht:∀f r t,UK (Pg X NC scope f r t) k tc) (he:∀f r t,PE (Pg X NC scope f r t) l te)
  (ac:tO (.ListComp l #[[n,iter,k,0]] scope w) (g (.Name y u)) spos.line X.env=pure B:=by rfl) (hs:∀x,rE iter X.env x=pure x:=by intro _;rfl) :
  PS X (.Assign #[.Name y u] (.ListComp l #[[n,iter,k,0]] scope w) spos) (QH (KS wi d tc te own.length ix) (Hy j)):=by
 intro K s σ H D R h;rw[exec_Assign_Name_used _ _ _ _ ac];refine zCw (oP (zCw ?_));show mO _ X.A (comprehension (.ListComp l #[[n,iter,k,0]] scope w) scope X.env _ (newList []) lX (nU iter X.env) (g (uP (.Name y u) X.env)) >>= λ_=>_) _ _ s;let ah:∀y∈scope.names,y.2=.free->∃c,X.env.cells.lookup y.1=g c:=λy U e=>R.ok.has y.1 (S.free y U e);refine zCw (Er (rP (use:=g (uP (.Name y u) X.env)) (Q:=λ_ m=>SP X K D .next m) I hs (Z4 ah) S.kind S.own (Er (hi K s σ H _ R h) λv s1 h1=>Er h1 λaj N i=>?_)) λ_ m hq=>zCx (zCx hq));let[it,t,tn,E,H2,e,I2,W,ab,f2,i]:=i;subst e;refine A2 hc S hN L hg ht he I2 W ab f2 (QQ:=λp H'=>D.nx (σ.set j (g (.ref p))) H') (RR:=λaf C=>compPost (mP X.prog X.w) X.A X.xe (g (uP (.Name y u) X.env)) (λ_ m=>SP X K D .next m) af C) i λf r a0 A s6 F f3 J6 qn=>?_;let[m6,ag,_]:=J6.loc;let I6:=Qi F f3 J6 (zBa.refl ..);show mO _ X.A (uP (.Name y u) X.env (.ref ⇑N)) _ _ s6;refine wpAny_assign_Name (B7 (v:=.ref ⇑N) I6 ad hj (.inl U) I (λs7 I7 ⟨a,aa,P⟩=>?_) (.inr U));let ae:⇑f≠a:=by
  rcases P with P|P
  .rw[P];exact oC (zAu F.lt)
  .let[v,q]:=F.cell y a P
   exact oC (zAu q.lt)
 refine[m6,ag.sameBut aa ae,λh8 ai=>?_];let nC:A ⇑f=M:=J6.free;let I8:Am X K (σ.set j (g (.ref ⇑N))) A { s7 with heap:=h8,toks:=s7.toks }:=by
  refine I7.turned (it:=⇑f) (λb o hb e=>(ai.2 b hb).trans e) nC (oC (zAu F.lt)) (.inr F.sz) (λx c e z=>?_) (λp hp z=>?_)
  .let[v,q]:=F.cell x c e
   exact mC (z▸q.lt) (zBN _)
  .exact mC (z▸zAo (F.pin p hp).1) (zBN _)
 exact[_,A,I8,qn]
inductive YZ(K:zAa)(xs:List V)(H:Hp)(Q:VK):Prop
 |mk (x c:V) (cv t:lV) (b:Bool) (e:xs=#[x,c]) (r:∀u,Bq c u->u=cv) (t':Cy K H x t) (k:zAL K t cv=g b) (q:Q (.bl b) H)
def Ec{X:Cx}:Mg X (.builtin "isinstance") (YZ X.K):=by
 intro P s E H W A Q C r h;let[x,c,S,t,b,rfl,F,R,e,q]:=h;let[u,z,rfl,L,N]:=HL r;cases F z N;exact FG C L R e λU=>[.bl b,H,C.tok U,I,q]
def Ie{n:String}:∀u,Bq (.ty n) u->u=.type n:=λx h=>h
def Re{a:T}:∀u,Bq (.ref a) u->u=.ref a:=λx h=>h
inductive dC(K:zAa)(xs:List V)(H:Hp)(Q:VK):Prop
 |mk (p:T) (ns:List Int) (e:xs=#[.ref p]) (h:Al K H p (ns.map V.int)) (q:Q (.int ns.sum) H)
def Pb{X:Cx}(d:X.calm=B):Mg X (.builtin "sum") (dC X.K):=by
 intro E s t H l k Q R r h;let[p,W,rfl,b,q]:=h;let[u,rfl,N]:=Tr r;cases N;let[z,j,C,o]:=R.list b;let K:u6 z W:=AA j;let[A,F]:=K.allInts.items;let f:s.heap.IsList p (intItems A):=F▸C.isList;let c:preSum (numAt A) A.size=W.sum:=by
  let S:=K.numsOf;let L:numsOf (intItems A).toList=W:=by rw[<- F];exact S
  rw[nums_intItems]at L;rw[preSum_eq,zBX zZ,L]
 refine sum_intListG (R.ok.hd d) f λw v U P=>?_;exact[.int W.sum,H,R.kept P,[U,by rw[c]],q]
def R0:List V->List V->Bool
 |[],[]=>B
 |x::C,y::H=>Px x y&&R0 C H
 |_,_=>lX
theorem G9:∀{xs ys},xs.length≠ys.length->R0 xs ys=lX
 |[],[],h=>mC I h
 |[],_::_,_=>rfl
 |_::_,[],_=>rfl
 |x::xs,y::ys,h=>by
  unfold R0;rw[G9 (xs:=xs) (ys:=ys) λe=>h (by rw[zAd,zAd,e]),sJ]
theorem F3:∀{xs ys},xs.length=ys.length->∀e:Nat->Bool,(∀j x y,xs[j]?=g x->ys[j]?=g y->e j=Px x y)->(zAU xs.length).all e=R0 xs ys
 |[],[],_,_,_=>rfl
 |[],_::_,h,_,_=>by simp at h
 |_::_,[],h,_,_=>by simp at h
 |x::xs,y::ys,h,e,z=>by
  let C:=F3 (xs:=xs) (ys:=ys) (by simpa using h) (λj=>e (j+1)) λj a b F L=>z (j+1) a b (by simpa using F) (by simpa using L);unfold R0;rw[zAd,wF,sV,rM,z 0 x y I I,<- C];rfl
theorem DK:∀(ns z:List Int),R0 (ns.map V.int) (z.map V.int)=decide (ns=z)
 |[],[]=>rfl
 |[],_::_=>rfl
 |_::_,[]=>rfl
 |n::ns,m::z=>by
  rw[zAr,zAr];unfold R0;rw[DK ns z];show((n==m)&&_)=_;by_cases e:n=m
  .by_cases F:ns=z
   .simp[e,F]
   .simp[e,F]
  .simp[e]
def DS(C H:List lV)(xs ys:List V)(j:Nat):Bool:=match xs[j]?,ys[j]? with
 |some x,g y=>Px x y
 |_,_=>B
def R7{X:Cx}{pins:List (T×oH)}{s:lZ}{σ:St}{H:Hp}{A:mZ}{xs ys:List V}(L:Bc xs b)(F:Bc ys c)(f1:xs.all Hr=B)(W:ys.all Hr=B)(f:xs.length=ys.length) :
  ∀j (Q:j<b.toArray.size) (P:j<c.toArray.size),oO A s b.toArray[j] c.toArray[j] (DS b c xs ys j):=λj Q P=>by
 let d:=L.length;let k:=F.length;rw[zAj]at Q P;let S:xs[j]?=g xs[j]:=zAi zY;let z:ys[j]?=g ys[j]:=zAi zY;let[u,E,R]:=L.get S;let[v,N,K]:=F.get z;let U:b.toArray[j]=u:=by rw[zCd];exact(zAs.mp E).2
 let C:c.toArray[j]=v:=by rw[zCd];exact(zAs.mp N).2
 rw[U,C];unfold DS;rw[S,z];exact AW R K (zBE.mp f1 _ (zBp _)) (zBE.mp W _ (zBp _))
inductive bY(K:zAa)(neg:Bool)(x y:V)(H:Hp)(Q:VK):Prop
 |mk (a b:T) (xs ys:List V) (e:x=.ref a) (e':y=.ref b) (h:Al K H a xs) (h':Al K H b ys) (f:xs.all Hr=B) (m:ys.all Hr=B) (q:Q (.bl (if neg then !R0 xs ys else R0 xs ys)) H)
def dJ{X}(R:X.A.units<pQ):Qd X (oF .Eq) (bY X.K lX):=by
 intro pins s σ H x y v u Q C c d h;let[a,b,L,P,rfl,rfl,o,f,f1,k,q]:=h;cases c;cases d;let[K,E,A,p]:=C.list o;let[w,W,U,r]:=C.list f;let F:=E.length;let t:=W.length;by_cases N:L.length=P.length
 .refine SeqAt.eq_listAt A.isList U.isList (by rw[zAj,zAj];lia) R (R7 (X:=X) (pins:=pins) (σ:=σ) (H:=H) E W f1 k N) ?_
  refine[.bl (R0 L P),H,C,?_,q];show oW _=oW _;rw[zAj,<- F,F3 N];intro j x y S l;unfold DS;rw[S,l]
 .refine SeqAt.eq_list_lengthsAt A.isList U.isList (by simp only[zAj,bne_iff_ne,ne_eq];lia) R ?_
  exact[.bl (R0 L P),H,C,by rw[G9 N];rfl,q]
def IK{X}(R:X.A.units<pQ):Qd X (oF .NotEq) (bY X.K B):=by
 intro pins s σ H x y v u Q C c d h;let[a,b,L,P,rfl,rfl,o,f,f1,k,q]:=h;cases c;cases d;let[K,E,A,p]:=C.list o;let[w,W,U,r]:=C.list f;let F:=E.length;let t:=W.length;by_cases N:L.length=P.length
 .refine(vG A.isList U.isList (by rw[zAj,zAj];lia) R (R7 (X:=X) (pins:=pins) (σ:=σ) (H:=H) E W f1 k N):rB X.A s _ _ _) X.prog X.w _ _ ?_
  refine[.bl (!R0 L P),H,C,?_,q];show oW _=oW _;rw[zAj,<- F,F3 N];intro j x y S l;unfold DS;rw[S,l]
 .refine(sX A.isList U.isList (by simp only[zAj,bne_iff_ne,ne_eq];lia) R:rB X.A s _ _ _) X.prog X.w _ _ ?_
  exact[.bl (!R0 L P),H,C,by rw[G9 N];rfl,q]
abbrev Ih(ix:List Nat)(σ:St):St:=ix.map λj=>(σ[j]?).getD M
def Ro{lo:Int}{n:Nat}{σ:St}{ix:List Nat}{QQ:Hp->Prop}{p:T}(z:Nat->List V->Hp->Prop)(A:z 0 [] (upd d p (.lst [])))
  (K:∀i ys H,i<=n->z i ys H->H p=g (.lst ys)/\ys.length<=i) (j:n<=sizeLine)
  (E:∀i ys H,i<n->z i ys H->f (g (.int (lo+i))::Ih ix σ) H λb U=>if b=B then c (g (.int (lo+i))::Ih ix σ) U λy N=>N p=g (.lst ys) /\
   (g (.int (lo+i))::Ih ix σ)=(g (.int (lo+i))::Ih ix σ)/\z (i+1) (ys++#[y]) (upd N p (.lst (ys++#[y]))) else(g (.int (lo+i))::Ih ix σ)=(g (.int (lo+i))::Ih ix σ)/\z (i+1) ys U)
  (X:∀ys H,z n ys H->QQ H) :
  Xj (Hy 0) f c 1 ix σ (WZ lo n) p d QQ:=by
 refine[λi m ys C P=>m=n-i/\i<=n/\(∃o,C=o::Ih ix σ)/\z i ys P,[n,zZ,zAy _,[M,I],A],?_];rintro i m ys C P ⟨rfl,W,⟨o,rfl⟩,pv⟩;let[S,l]:=K i ys P W pv;refine[S,?_];by_cases F:i<n
 .refine .inr [F,Z,λx k y=>?_]
  let[e,y]:=y;subst e y;exact[λL Q R=>Q=(g (.int (lo+i))::Ih ix σ)/\z (i+1) L R,λL Q R ⟨e,q⟩=>[n-(i+1),Z,I,F,[_,e],q],E i ys _ F pv]
 .have e:i=n:=by lia
  subst e;exact .inl [zAm _,X ys P pv]
def Ez{K}{a}{xs}{A}{R}{σ}{ix:List Nat}{QQ:Hp->Prop}{X}{p}(z:Nat->List V->Hp->Prop)(f:z 0 [] (upd X p (.lst [])))
  (k:∀i ys H,i<=xs.length->z i ys H->H p=g (.lst ys)/\ys.length<=i/\Al K H a xs) (l:xs.length<=sizeLine)
  (j:∀i x ys H,xs[i]?=g x->z i ys H->A (g x::Ih ix σ) H λb C=>if b=B then R (g x::Ih ix σ) C λy W=>W p=g (.lst ys) /\
   (g x::Ih ix σ)=(g x::Ih ix σ)/\z (i+1) (ys++#[y]) (upd W p (.lst (ys++#[y]))) else(g x::Ih ix σ)=(g x::Ih ix σ)/\z (i+1) ys C)
  (d:∀ys H,z xs.length ys H->QQ H) :
  Xj (Hy 0) A R 1 ix σ (WP K a) p X QQ:=by
 refine[λi m ys N S=>m=xs.length-i/\i<=xs.length/\(∃o,N=o::Ih ix σ)/\z i ys S,[xs.length,zZ,zAy _,[M,I],f],?_];rintro i m ys N S ⟨rfl,c,⟨o,rfl⟩,pv⟩;let[U,s,F]:=k i ys S c pv;refine[U,?_];by_cases P:i<xs.length
 .refine .inr [[xs,xs[i],F,by simp[P]],Z,λx r y=>?_]
  let[e,y]:=y;subst e;exact[λL Q E=>Q=(g x::Ih ix σ)/\z (i+1) L E,λL Q E ⟨e,q⟩=>[xs.length-(i+1),Z,I,P,[_,e],q],j i x ys _ (y xs F) pv]
 .have e:i=xs.length:=by lia
  subst e;exact .inl [[xs,F,zAm _],d ys S pv]
structure Y4(P:mF)(w:mR)(K:zAa)(mg:J->Option lV)(base:mX)(k:Nat)(x:J)(ps:List J)(sp:Sp):Prop where
 ex:∃f fd,Ar P w K mg base Jv k f fd ps sp/\Dc K fd ps []/\zAH K (.ref f)=B/\mg x=g (.ref f)
def Gd{X:Cx}{k:Nat}{x:J}{ps:List J}{sp:Sp}{e:nY}{es:List nY}{p N:uL}{t:TA}(C:Y4 X.prog X.w X.K X.mg X.base k x ps sp)(Q:Cc k X.A)(U:Gl X x)(L:PA X (e::es) t)
  (z:(x==("__debug__" : J))=lX:=by lk) (R:mH (e::es) X.env=(lX,nU e X.env)::mH es X.env:=by rfl) (P:(oB N (mH es X.env)).any (·.1)=lX:=by rfl) :
  PE X (.Call (.Name x p) (e::es) [] N) (DP sp [] E0 t):=by
 let[f,W,F,b,S,H]:=C.ex;exact QW F Q U H S b .nil Xo L z R P
structure lK(K:zAa)(mg:J->Option lV)(x:J)(st:nZ)(ps:List J):Prop where
 ex:∃f fd,Fw K x x st f fd/\Dc K fd ps []/\mg x=g (.ref f)
def lK.cal{P}{w}{K}{L:J->Option lV}{C}{k:Nat}{x}{st}{ps}{sp}(D:lK K L x st ps)(h:∀f H,Fw K x x st f H->Ar P w K L C Jv k f H ps sp):Y4 P w K L C k x ps sp:=by
 let[f,H,F,b,m]:=D.ex;exact[f,H,h f H F,b,F.kp,m]
def cM(C:J->Option lV)(x:J)(i:Int):Prop:=∃t,C x=g (.int i t)
def ZT(C:J->Option lV)(x:J)(z:J):Prop:=∃t,C x=g (.str z t)
def OD{X:Cx}{x:J}{i:Int}(h:cM X.mg x i)(F:Gl X x)(z:(x==("__debug__" : J))=lX:=by lk):PE X (.Name x b) (tC (.int i)):=by
 let[t,e]:=h;exact F4 F e [t,I] z
def E4{X:Cx}{x:J}{i:J}(h:ZT X.mg x i)(F:Gl X x)(z:(x==("__debug__" : J))=lX:=by lk):PE X (.Name x b) (tC (.str i)):=by
 let[t,e]:=h;exact F4 F e [t,I] z
def La{X:Cx}{x:J}(T:String)(z:Gl X x)(L:X.mg x=M)(F:zCz x=g (.type T))(H:x ≠ "__name__":=by lk)(C:(x==("__debug__" : J))=lX:=by lk):PE X (.Name x b) (tC (.ty T)):=
 RP (v:=.ty T) z L F I H C
def MK{X}{K}(h:X.K=K):YR X (XT K):=h▸By
def Ad{H:Hp}{p:T}(h:H p=M)(o:HO):Ae H (upd H p o):=λb u q=>by rw[Ak (Ai q h)];exact q
def Ck{n:Nat}(h:n<=1000):n<=sizeLine:=uG (FW h)
def JA{ns:List Int}{i:Nat}{n:Int}(h:ns[i]?=g n):Ob (ns.map V.int) (i:Int)=g (.int n):=Gk (by rw[zAt,h];rfl)
def Ml{ns:List Int}{i:Int}(z:0<=i)(h:i<ns.length):Ob (ns.map V.int) i=g (.int (ns.getD i.toNat 0)):=by
 let e:((i.toNat:Nat):Int)=i:=by lia
 let q:=JA (ns:=ns) (i:=i.toNat) (n:=ns.getD i.toNat 0) (by rw[zAi Z,zBh,zAi Z];rfl);rw[e]at q;exact q
def U4{ns:List Int}{i:Nat}{y:V}(h:(ns.map V.int)[i]?=g y):∃n,ns[i]?=g n/\y=.int n:=by
 rw[zAt]at h;cases e:ns[i]? with
 |none=>rw[e]at h;cases h
 |some n=>rw[e]at h;exact[n,I,(mI h).symm]
def cI{n:Nat}{k:Int}(F:0<=k)(h:k<n):IG n k=g k.toNat:=by
 unfold IG
 first
  |(rw[z F,z h];done)
  |(simp[F,h];done)
  |(simp[F,h];lia)
def UZ{k:Nat}{A:mZ}(C:Cc k A):A.units<pQ:=C.units0
example:zCz "int"=g (.type "int"):=by rfl
def bB(K:zAa)(a:T):It:=
 [λi H=>∃C x,Al K H a C/\C[i]?=g x,
   λi H x L=>∃t y,x=.ref t/\H t=M/\(∀C,Al K H a C->C[i]?=g y)/\L=upd H t (.tup #[.int i,y]),
   λi H=>∃C,Al K H a C/\C.length<=i]
def FV{P}{w}{K}{ae}{k:Nat}{tp}(a e it:T)(ag:e≠it) :
  D4 P w K (.Tuple ae k tp) (bB K a) #[e,it] e (λi h=>(∃L,IsEnum h e it i L)/\h.IsListIter it a i) where
 mem:=by simp
 obj:=λi h W b F=>by
  let[[L,R],o,ho,c,d]:=W;rcases zAg.mp F with rfl|F
  .exact[_,R,λv z=>by
    let z':xQ _=uN v:=z;cases z']
  .have j:b=it:=by simpa using F
   subst j;exact[o,ho,λv z=>by rw[d]at z;cases z]
 keep:=λi h h' W kk=>by
  let[[L,R],U]:=W;exact[[L,kk e zZ _ R],U.at λo x=>kk it zZ o x]
 item:=by
  intro X hP hw hK hc i f s σ H E Q t W hg;subst hP hw hK;let[[L,R],U]:=W;let[xs,x,hq,hx]:=hg;let[al,rv,p,hz]:=Q.list hq;let[u,hu,ru]:=rv.get hx;let[e0,e1,e2,e3,e4,e5]:=t e zZ;let[i0,i1,i2,i3,i4,i5]:=t it zZ;refine wpAny_pyNext_enum_item R U p.isList (x:=u) (by simpa using hu) ag λh1 ho af hT am hk=>[_,I,?_];refine wpAny_letOwnedTupleGo_enum ho λh2 ah ai=>?_;let C:zBa e h1 h2:=ai;let ac:e<⇑s:=zAo R;let N:H ⇑s=M:=Q.hok.fresh (zAm _);let l:∀b o,b≠e->b≠it->s.heap.get? b=g o->h2.get? b=g o:=λb o h3 h4 q=>(C.2 b h3).trans (hk b o h3 h4 q);let S:∀b,b∉#[e,it]->b≠e/\b≠it:=λb F=>[λz=>F (by simp[z]),λz=>F (by simp[z])];let aa:∀b o,H b=g o->b≠e/\b≠it:=λb o q=>[λz=>by(rw[z,e0]at q;cases q),λz=>by(rw[z,i0]at q;cases q)];let ad:h2.get? ⇑s=g { cls:=.type "tuple",data:=.seq #v[.int i s.toks,u] }:=(C.2 _ (zBB ac)).trans hT;let I1:Am X f σ (upd H ⇑s (.tup #[.int i,x])) { s with heap:=h2,gens:=s.gens,drawn:=s.drawn,toks:=s.toks+1 }:=by
   refine Q.step (ch:=#[e,it]) (λb F=>?_) (λb o _ _ F q _=>l b o (S b F).1 (S b F).2 q) (λb o _ _ F q _=>[o.slots,l b o (S b F).1 (S b F).2 q]) (λb o _ q n=>by rw[Ak (zAu (zAo q))];exact n)
    (λb o F q=>[o,l b o (S b F).1 (S b F).2 q]) (λb xs q=>by rw[Ak (Ai q N)];exact q) (λb o u q=>by rw[Ak (Ai q N)];exact q) (λb ps q=>[#v[],by rw[Ak (Ai q N),q];simp])
    (λm hm=>?_) (λb o q=>?_) Q.bare
   .rcases zAg.mp F with rfl|F
    .exact[e3,e1,e4,e5]
    .have j:b=it:=by simpa using F
     subst j;exact[i3,i1,i4,i5]
   .let[o,es,ep,aj,r]:=hm
    exact[o,es,ep,l _ o (oC e1) (oC i1) aj,r]
   .by_cases F:b=⇑s
    .subst F
     rw[Aa]at q;cases q;exact[Ck (by show 2<=1000;decide),#[.int i s.toks,u],.cons [_,I] (.cons ru .nil),_,ad,I,_,I]
    .rw[Ak F]at q
     refine(Q.hok b o q).stay (λc v y A=>?_) (λc A=>by rw[Ak (Ai A N)];exact A) (λc xs A=>by rw[Ak (Ai A N)];exact A);rcases y with rfl|y
     .exact l _ v (aa _ _ q).1 (aa _ _ q).2 A
     .exact l _ v (aa _ _ y).1 (aa _ _ y).2 A
  refine[.ref ⇑s,_,I1,I,[_,x,I,N,λys hy=>by rw[Q.list_inj hy hq];exact hx,I],[[u,?_],?_],λb F=>?_]
  .have ei:((i+1:Nat):Int)=(i:Int)+1:=by lia
   rw[ei];exact ah
  .exact af.at λo q=>(C.2 it ag.symm).trans q
  .have ak:b<⇑s:=by
    rcases zAg.mp F with rfl|F
    .exact ac
    .have j:b=it:=by simpa using F
     subst j;let[o,q,_]:=U;exact zAo q
   rw[Ak (zAu ak)];exact(t b F).1
 done:=by
  intro X hP hw hK hc i f s σ H E Q t W hg;subst hP hw hK;let[[L,R],U]:=W;let[xs,hq,hx]:=hg;let[al,rv,p,hz]:=Q.list hq;let[i0,i1,i2,i3,i4,i5]:=t it zZ;let hl:=rv.length;exact wpAny_pyNext_enum_end (Q.ok.hd hc) R U p.isList (by simp;lia) λh' j=>[I,Q.turned (t':=s.toks) (λb o F q=>j b o F q) i0 i1 i3 i4 i5]
 self:=λ_ _ _ _ _ W h=>by
  let[[L,R],_]:=W;exact wpAny_pyIter_enum R h
def ZY(K:zAa)(Q:TA):TI:=λN H R=>Q N H λP C=>∃a,P=#[.ref a]/\(∃L,Al K C a L)/\R (bB K a) C
def Wa{X}{a}{K}{p A d}{F}{k:Nat}(r:Gl X "enumerate")(P:X.mg "enumerate"=M)(o:PA X #[a] K)(C:mH #[a] X.env=#[(lX,nU a X.env)]:=by rfl) :
  PI X (.Tuple F k d) (.Call (.Name "enumerate" p) #[a] [] A) (ZY X.K K):=by
 intro W s c H R Q h;refine Call_ (Pe Q r P (show zCz "enumerate"=g (.type "enumerate") from rfl) (oN (Er (o A W s c H _ Q h) λx L v=>?_) C I));let[vs,E,z,t,y]:=v;let[a,j,[xs,m],q]:=y;subst j;let[u,rfl,l]:=Tr t;cases l;let[aa,rv,f,hz]:=z.list m;refine call_enumerate_list f.isList λe U S ab i=>?_;refine wpAny_pyIter_enum U ?_;let n:Am X W c E { L with heap:=e }:=z.kept (t':=L.toks) i;refine[_,#[⇑L+1,⇑L],_,_,E,I,n,FV a _ _ (Nat.succ_ne_self _),[[_,U],S],λb N=>?_,q];rcases zAg.mp N with rfl|N
 .exact z.fpOk (zBW _) (z.hok.fresh (zBW _))
 .have w:b=⇑L:=by simpa using N
  subst w;exact z.fpOk (zAm _) (z.hok.fresh (zAm _))
def DT{X}{K}{es}{k:Nat}{t}{n:Nat}{C}(z:X.K=K)(F:X.calm=B)(h:cG X es t)
  (L:(qN es X.env).length=n:=by rfl) (H:(qN es X.env).findIdx? (·.1)=M:=by rfl):PG X (.Tuple es k C) (FR K n t):=z▸Oc F h L H
structure FF(P:mF)(w:mR)(K:zAa)(mg:J->Option lV)(base:mX)(k:Nat)(C:T)(m:J)(ps:List J)(sp:Sp):Prop where
 ex:∃f fd,Ar P w K mg base Jv k f fd ps sp/\Dc K fd ps []/\IT K C m f
 cl:kF K C
structure HB(P:mF)(w:mR)(K:zAa)(mg:J->Option lV)(base:mX)(k:Nat)(x:J)(C:T)(ps:List J)(sp:Sp):Prop where
 ex:∃f fd,Mk K C f/\Ar P w K mg base Jv k f fd ps sp/\Dc K fd ps []/\mg x=g (.ref C)
def Fp{X:Cx}{k:Nat}{x:J}{C:T}{ps:List J}{sp:Sp}{e:nY}{es:List nY}{p N:uL}{t:TA}(M:HB X.prog X.w X.K X.mg X.base k x C ps sp)(Q:Cc (k+1) X.A)(H:Gl X x)(L:PA X (e::es) t)
  (z:(x==("__debug__" : J))=lX:=by lk) (U:mH (e::es) X.env=(lX,nU e X.env)::mH es X.env:=by rfl) (P:(oB N (mH es X.env)).any (·.1)=lX:=by rfl) :
  PE X (.Call (.Name x p) (e::es) [] N) (TZ C sp [] E0 t):=by
 let[f,W,R,F,b,S]:=M.ex;exact OT R F Q H S b .nil Xo L z U P
def Nm{X}{K}{o e}{es}{c}{t}{Q}{W P}{T b}{r:V->List V->Hp->VK->Prop}(N:X.K=K)(H:PlainAttrs T)(F:Slot T Q b)(L:typeOf (.builtin b)=pure (.type "method_descriptor"))(U:iL X b r)(C:PE X o c)(S:PA X (e::es) t)
  (z:pI o Q X.env (nU o X.env)=nU o X.env:=by rfl)
  (E:((oB P (mH (e::es) X.env)).all (λx => !x.1)&&(qC P (oQ [] X.env)).all (λx=>x.1.isSome)
   && decide ((e::es).length+([]:List wI).length+(if ([]:List wI).isEmpty then 0 else 1)<30))=B:=by rfl)
  (A:(W.endLine==P.line)=B:=by rfl) (d:mH (e::es) X.env=(lX,nU e X.env)::mH es X.env:=by rfl) (R:(oB P (mH es X.env)).any (·.1)=lX:=by rfl) :
  PE X (.Call (.Attribute o Q W) (e::es) [] P) (iR K T r c t):=N▸Fg H F L U C S z E A d R
def Cg.is{P:mF}{w:mR}{H:Hp}{h:mX}{a:T}{o:HO}(x:Cg P w H h a o):∃L,h.get? a=g L:=by
 cases o with
 |lst N=>let[_,_,_,_,e]:=x;exact[_,e]
 |tup N=>let[_,_,_,_,e,_]:=x;exact[_,e]
 |dK z=>let[_,_,_,_,_,_,_,e,_]:=x;exact[_,e]
 |dT z=>let[_,_,_,_,_,_,_,e,_]:=x;exact[_,e]
 |set S n=>let[_,_,_,_,e,_]:=x;exact[_,e]
 |ins C W Q=>let[_,_,_,e,_]:=x;exact[_,e]
 |own y=>exact x
 |xd Q=>let[_,[_,_,_,e,_],_]:=x;exact[_,e]
 |rng A R=>let[_,_,_,e]:=x;exact[_,e]
 |frz L u=>exact[_,x.1]
 |tbl U=>exact[_,x]
 |met f y=>exact[_,x]
 |ext X=>exact x.2.1
def kO(h:mX)(e:T)(c:lV)(d:Option T)(N:lV)(Q:T->Prop):Prop:=
 ∃L H,h.get? e=g L/\L.cls=c/\L.dict=d/\L.data=.fields H/\1<H.size/\H[2]?=g N/\Q e /\
  (H[1]?=g .none\/∃C P R,H[1]?=g (.ref C)/\C≠e/\h.get? C=g P/\P.data=.fields R/\R[3]?=g .none/\Q C)
def kO.imp{h:mX}{e:T}{c:lV}{d:Option T}{N R:T->Prop}(x:kO h e c d j N)(f:∀b,N b->R b):kO h e c d j R:=by
 let[A,q,C,X,F,S,H,U,k,K]:=x;refine[A,q,C,X,F,S,H,U,f _ k,?_];rcases K with Q|⟨P,E,o,Q,z,W,L,l,p⟩
 .exact .inl Q
 .exact .inr [P,E,o,Q,z,W,L,l,f _ p]
def kO.there{h:mX}{e:T}{c:lV}{d:Option T}{z:T->Prop}(x:kO h e c d b z):∃oe vs,h.get? e=g oe/\oe.cls=c/\oe.dict=d/\oe.data=.fields vs:=
 let [oe,vs,N,H,C,L,_]:=x
 [oe,vs,N,H,C,L]
def Gh(X:Cx)(pins:List (T×oH))(H:Hp)(b:T):Prop:=
 H b=M/\b≠X.env.locals/\b∉X.fs/\(b∈X.ex\/X.s₀.heap.get? b=M)/\(∀x c,X.env.cells.lookup x=g c->c≠b)/\∀p∈X.pn++pins,p.1≠b
section
variable {X:Cx} {pins:List (T×oH)} {σ:St} {H H':Hp} {s:lZ} {h':mX}
def Am.fxOk{b:T}(N:Am X pins σ H s)(S:s.heap.get? b=M)(W:H' b=M):Gh X pins H' b:=by
 let Q:∀{a:T} {o:oH},s.heap.get? a=g o->a≠b:=λ{a o} q z=>by rw[z,S]at q;cases q
 refine[W,λz=>?_,λz=>?_,?_,λx c e=>?_,λp A=>Q (N.pin p A).1]
 .let[m,[o,E,C,F,_],_]:=N.loc
  exact Q F z.symm
 .let[_,o,F,_]:=N.ok.funs.mem z
  let U:b∉X.ex:=λy=>N.ok.exfs b y z;let[R,L]:=N.base.there b o F U;exact Q L I
 .by_cases P:b∈X.ex
  .exact .inl P
  .refine .inr ?_
   cases q:X.s₀.heap.get? b with
   |none=>rfl
   |some o=>
    let[R,L]:=N.base.there b o q P;exact mC I (Q L)
 .let[v,o,F,_]:=N.cell x c e
  exact Q F
def Am.stepN{g':Array tM}{t':Nat}{d':Drawn}{ch:List T}(Q:Am X pins σ H s)
  (L:∀b∈ch,(b∈X.ex\/X.s₀.heap.get? b=M)/\b≠X.env.locals/\(∀x c,X.env.cells.lookup x=g c->c≠b)/\∀p∈X.pn++pins,p.1≠b)
  (W:∀b o,b≠X.env.locals->b∉X.fs->b∉ch->s.heap.get? b=g o->H b=M->h'.get? b=g o)
  (P:∀b o,b≠X.env.locals->b∈X.fs->b∉ch->s.heap.get? b=g o->H b=M->∃h,h'.get? b=g { o with slots:=h }) (R:∀b o,b∉ch->s.heap.get? b=g o->H b=M->H' b=M)
  (A:∀b o,b∉ch->s.heap.get? b=g o->∃w,h'.get? b=g w)
  (t:∀b xs,H b=g (.tup xs)->H' b=g (.tup xs)) (f:∀b o u,H b=g (.frz o u)->H' b=g (.frz o u)) (j:∀b ps,H b=g (.tbl ps)->∃aa,H' b=g (.tbl (ps++aa)))
  (ns:∀m,s.heap.Ns X.env.locals m->h'.Ns X.env.locals m) (a0:jR X.prog X.w H' h') (hg:qJ g') :
  Am X pins σ H' { s with heap:=h',gens:=g',drawn:=d',toks:=t' }:=by
 let ab:∀b o,X.s₀.heap.get? b=g o->b≠X.env.locals:=λb o e=>zAu (zAF (zAo e) Q.ok.above);let U:∀b o,X.s₀.heap.get? b=g o->b∉X.ex->b∉ch:=λb o e F E=>by
  rcases (L b E).1 with z|z
  .exact F z
  .rw[e]at z;cases z
 let S:∀x c,X.env.cells.lookup x=g c->∀v,s.heap.IsCell c v->h'.IsCell c v:=λx c e v ⟨o,K,a⟩=>by
  let N:c∉ch:=λz=>(L c z).2.2.1 x c e I;by_cases hc:c∈X.fs
  .let[h,q]:=P c o (Q.cne x c e) hc N K (Q.freeC x c e)
   exact[_,q,a]
  .exact[o,W c o (Q.cne x c e) hc N K (Q.freeC x c e),a]
 refine[Q.ok,Q.os,hg,[λb o e n E F=>?_,λb o e n E F=>?_,λb o e n F=>?_,λb o e F=>?_,λb xs e=>t b xs (Q.base.tups b xs e),λb o xs e=>f b o xs (Q.base.frzs b o xs e),λb ps e=>?_],?_,λx c e=>?_,?_,λx c e=>?_,λp hp=>?_,a0,Q.len]
 .exact W b o (ab b o e) E (U b o e F) (Q.base.keep b o e n E F) (Q.base.free b o e n F)
 .let[h,C]:=Q.base.slot b o e n E F
  let[ac,y]:=P b _ (ab b o e) E (U b o e F) C (Q.base.free b o e n F);exact[ac,y]
 .let[w,C]:=Q.base.there b o e F
  exact R b w (U b o e F) C (Q.base.free b o e n F)
 .let[w,C]:=Q.base.there b o e F
  exact A b w (U b o e F) C
 .let[m1,C]:=Q.base.tbls b ps e
  let[m2,y]:=j b _ C;exact[m1++m2,by rw[y,sW]]
 .let[m,hn,hl]:=Q.loc
  refine[m,ns m hn,λi x v C y e3=>?_];let[u,r,l]:=hl i x v C y e3;refine[u,r,?_];rcases l with l|⟨k,c,e,z⟩
  .exact .inl l
  .exact .inr [k,c,e,S x c e _ z]
 .let[v,z]:=Q.cell x c e
  exact[v,S x c e v z]
 .let[m,[o,_,_,K,_],_]:=Q.loc
  exact R _ o (λz=>(L _ z).2.1 I) K Q.free
 .let[v,o,K,a]:=Q.cell x c e
  exact R c o (λz=>(L c z).2.2.1 x c e I) K (Q.freeC x c e)
 .let[e,n,ne,nf,d]:=Q.pin p hp
  let N:p.1∉ch:=λz=>(L p.1 z).2.2.2 p hp I;exact[W p.1 p.2 ne nf N e n,R p.1 p.2 N e n,ne,nf,d]
def Am.callN{g':Array tM}{t':Nat}{d':Drawn}{ch:List T}(P:Am X pins σ H s)(u:Un (Vz X.stack) ch H H' s.heap h')(N:jR X.prog X.w H' h')(W:qJ g')
  (Q:∀b∈ch,(b∈X.ex\/X.s₀.heap.get? b=M)/\b≠X.env.locals/\(∀x c,X.env.cells.lookup x=g c->c≠b)/\∀p∈X.pn++pins,p.1≠b) :
  Am X pins σ H' { s with heap:=h',gens:=g',drawn:=d',toks:=t' }:=by
 let[m,[o,l,d,R,r],_]:=id P.loc;let[f,U]:=u.any R P.free λz=>(Q _ z).2.1 I;exact P.stepN (ch:=ch) Q (λb o U E F e n=>u.keep b o e n (λz=>(zAg.mp (P.stkSub b z)).elim U E) F) (λb o y y F e n=>u.any e n F) (λb o F e n=>u.free b o e n F) (λb o F e=>u.there b o e F) u.tups u.frzs u.tbls (λk K=>by
  let[j,C,S,L,A]:=K;rw[R]at L;cases L;exact[_,C,S,U,A]) N W
def A6{M:u4}{e:T}{oe:oH}{vs:Array lV}{F:Bool}{E E':lV->lZ->Prop}{K:Unit->lZ->Prop}(Q:Am X pins σ H s)(L:X.stack=X.env::X.outer)(ao:X.env.frame=g X.env.locals)
  (he:s.heap.get? e=g oe) (hd:oe.data=.fields vs) (k:1<vs.size) (h2:vs[2]?=g a0) (C:Gh X pins H e)
  (h:∀h',Am X pins σ H { s with heap:=h' }->kO h' e oe.cls oe.dict a0 (Gh X pins H)->K () { s with heap:=h' }) :
  mO M X.A (do let a <- frameOf X.env;let pl <- entryPlaceOf X.env.locals F;let b <- qH head a .none (pX X.env.locals) .none pl;setField (.ref e) 1 b)
   (λ_ s2=>mO M A' (qV (.ref e) lW) K E' s2) E s:=by
 let hl:s.heap.FunFrames X.base (X.env::X.outer):=by rw[<- L];exact Q.stack
 let ak:X.A.frames=g (X.env::X.outer):=by rw[<- L];exact Q.ok.frames
 let ap:e∉(X.env::X.outer).filterMap (·.frame):=λS=>by
  let an:e∈Vz X.stack:=by rw[L];exact S
  rcases zAg.mp (Q.stkSub e an)with z|z
  .exact C.2.1 z
  .exact C.2.2.1 z
 refine zCw (wpAny_frameOf_fun ak hl ao λR d=>?_);refine zCw (wpAny_entryPlaceOf λpl place=>?_);unfold qH;unfold newFields;refine zCw (uV ?_ (place.sizeOk5 _ _ _ _ _));let af:R.get? e=g oe:=(d.2.1 e ap).trans he;generalize hO:({ cls:=.type "traceback",dict:=lW,data:=.fields (#[head,.ref X.env.locals,.none,pX X.env.locals,.none]++(if pl.isEmpty then zAe 6 mT else pl)).toArray }:oH)=N;let dO:∃l,N.data=.fields l/\3<l.size:=by
  refine[_,by rw[<- hO],?_];rw[zAj,zAc,zAd,zAd,zAd,zAd,zAd]
  lia
 let[l,ag,U]:=dO;let ab:=zAk (h:=R) N af;refine oU ab hd k ?_;let t:R.objs.size≠e:=zBB (zAo af);let P:=o0 hd (λz=>z.setIfInBounds 1 (mG R.objs.size));let ac:=zAT (mW λz=>z.setIfInBounds 1 (mG R.objs.size)) ab (oR P);let ae:((R.push N).update e (mW λz=>z.setIfInBounds 1 (mG R.objs.size))).get? R.objs.size=g N:=
  (zAR _ _ (oC t)).trans (zAJ R (by rw[<- hO];rfl))
 unfold qV;refine zCw (oM ac P (x:=.ref R.objs.size) (by simp[k]) ?_);rw[mS (show(mG R.objs.size != .none)=B by simp)];refine oU ae ag U ?_;generalize p:((R.push N).update e (mW λz=>z.setIfInBounds 1 (mG R.objs.size))).update R.objs.size (mW λz=>z.setIfInBounds 3 ((lW:Option T).elim mT λf=>pX f))=A;let W:∀b o,b≠e->R.get? b=g o->A.get? b=g o:=λb o ah S=>by
  let aj:R.objs.size≠b:=zBB (zAo S);rw[<- p,zAR _ _ aj,zAR _ _ (oC ah)];exact zAk _ S
 let am:A.get? e=g (mW (λz=>z.setIfInBounds 1 (mG R.objs.size)) oe):=by
  rw[<- p,zAR _ _ t];exact ac
 let ad:=o0 ag (λz=>z.setIfInBounds 3 ((lW:Option T).elim mT λf=>pX f));let al:A.get? R.objs.size=g (mW (λz=>z.setIfInBounds 3 ((lW:Option T).elim mT λf=>pX f)) N):=by
  rw[<- p];exact zAT _ ae (oR ad)
 let u:Un (Vz X.stack) #[e] H H s.heap A:=by
  refine[λb o q _ S j=>W b o (by simpa using j) ((d.2.1 b ?_).trans q),λb o q _ _ j=>?_,λ_ _ _ n _=>n,λb o q j=>?_,λ_ _ q=>q,λ_ _ _ q=>q,λb ps q=>[#v[],by rw[q];simp]]
  .rw[L]at S
   exact S
  .let[m,z]:=d.2.2 b o q
   exact[m,W b _ (by simpa using j) z]
  .let[m,z]:=d.2.2 b o q
   exact[_,W b _ (by simpa using j) z]
 let ai:jR X.prog X.w H A:=λb o z=>(Q.hok b o z).stay (λc v hc q=>by
  let hs:∃w,H c=g w:=by
   rcases hc with r|r
   .exact[o,by rw[r];exact z]
   .exact[_,r]
  let[w,i]:=hs;refine W c v (λy=>?_) ((d.2.1 c λy=>?_).trans q)
  .rw[y,C.1]at i;cases i
  .have n:=Q.stkFree c (by rw[L];exact y)
   rw[i]at n;cases n) (λ_ q=>q) λ_ _ q=>q
 let I4:Am X pins σ H { s with heap:=A }:=Q.callN (g':=s.gens) (d':=s.drawn) (t':=s.toks) (ch:=#[e]) u ai Q.bare λb S=>by
  let z:b=e:=by simpa using S
  subst z;exact[C.2.2.2.1,C.2.1,C.2.2.2.2.1,C.2.2.2.2.2]
 let gT:s.heap.get? R.objs.size=lW:=zBy (by rw[d.1];exact zAm _);let nT:H R.objs.size=lW:=Q.hok.fresh (by rw[d.1];exact zAm _);refine h A I4 [_,_,am,uB _ _,?_,P,by simpa using k,?_,C,.inr [R.objs.size,_,_,by simp[k],t,al,ad,?_,Q.fxOk gT nT]]
 .let[c0,d0,dt,m]:=oe
  cases dt<;>rfl
 .rw[zBT Y]
  exact h2
 .rw[zBI U]
  rfl
def Ni{M:u4}{e:T}{c L:lV}{d:Option T}{E r:lV->lZ->Prop}{K:Unit->lZ->Prop}(P:Am X pins σ H s)(Q:X.stack=X.env::X.outer)(F:X.env.frame=g X.env.locals)
  (x:kO s.heap e c d L (Gh X pins H)) (h:∀h',Am X pins σ H { s with heap:=h' }->kO h' e c d L (Gh X pins H)->K () { s with heap:=h' }) :
  mO M X.A (sD (.ref e) X.env) (λa q=>mO M t (qV (.ref e) lW) K r q) E s:=by
 let[u,w,U,k,N,S,f,j,b,o]:=x;subst k N;unfold sD;simp only[F];rcases o with A|⟨R,l,p,A,y,W,z,C,v⟩
 .refine zCw (oM U S A ?_)
  rw[mK (show ¬(mT != .none)=B by lk)];exact A6 P Q F U S f j b h
 .refine zCw (oM U S A ?_)
  rw[mS (show(mG R != .none)=B by simp)];refine zCw (oM W z C ?_);rw[mK (show ¬(mT==pX X.env.locals)=B by simp[pX])];refine zCw (oU W z (zBC.mp C).1 ?_);rw[zCl s.heap R l p 3 .none W z C];exact A6 P Q F U S f j b h
def Sb{M:u4}{e:T}{c L:lV}{d:Option T}{b:lV->lZ->Prop}{K:Unit->lZ->Prop}{f:T->Prop}(x:kO s.heap e c d L f)(h:K () s):mO M k (qV (.ref e) lW) K b s:=by
 let[l,r,S,j,t,P,p,u,o,A]:=x;unfold qV;rcases A with R|⟨Q,W,E,R,N,C,F,U,q⟩
 .refine zCw (oM S P R ?_)
  rw[mK (show ¬(mT != .none)=B by lk)];exact zCx h
 .refine zCw (oM S P R ?_)
  rw[mS (show(mG Q != .none)=B by simp)];refine oU C F (zBC.mp U).1 ?_;show K () { s with heap:=s.heap.update Q (mW λz=>z.setIfInBounds 3 .none) };rw[zCl s.heap Q W E 3 .none C F U];exact h
end
def Nt(P:mF)(w:mR):GR:=λC H s E v L=>∃e c d N,v=.ref e/\L.os=s.os/\qJ L.gens/\Un (Vz C) [] H N s.heap L.heap/\jR P w N L.heap /\
 kO L.heap e c d mT (λb=>s.heap.get? b=M/\N b=M)/\E c d N
def jU(X:Cx)(W:St->XK):Prop:=∀(C:List (T×oH)) (L:St) (H:Hp) (s:lZ) (e:T) (c:lV) (d:Option T),Am X C L H s->kO s.heap e c d mT (Gh X C H)->W L c d H->X.xe (.ref e) s
def jU.pass{X:Cx}{W:St->XK}{pins:List (T×oH)}{σ:St}{H:Hp}{s P:lZ}{v:lV}(S:jU X W)(C:Am X pins σ H s)(h:Nt X.prog X.w X.stack H s (W σ) v P):X.xe v P:=by
 let[e,c,d,U,rfl,R,F,Q,L,x,N]:=h;exact S pins σ U P e c d (C.call' R Q L F λb z=>mC z zZ) (x.imp λb q=>C.fxOk q.1 q.2) N
def Bt{P}{w}{K}{j:J->Option lV}{W}{N}{qual}{scope}{f}{cd}{A}{outer}{U}{S}{E} :
  jU (Mq (Nt P w) P w K j W N qual scope f cd A outer U S E) (λy=>E):=by
 intro X k H s e c d R x C;show mO _ _ (uX _ (.ref e)) _ _ s;unfold uX;refine zCw (Ni R I I x λl F Q=>?_);refine[e,c,d,H,I,F.os,F.bare,F.base,F.hok,Q.imp λb L=>[?_,L.1],C];rcases L.2.2.2.1 with z|z
 .exact nomatch (show b∈([]:List T) from z)
 .exact z
def LU(P:mF)(w:mR):GR:=λC H s E v L=>∃e c d Q N,v=.ref e/\L.os=s.os/\qJ L.gens/\Un (Vz C) [] H N s.heap L.heap/\jR P w N L.heap /\
 kO L.heap e c d Q (λb=>s.heap.get? b=M/\N b=M)/\E c d N
def V1(X:Cx)(W:St->XK):Prop:=∀(C:List (T×oH)) (N:St) (H:Hp) (s:lZ) (e:T) (c:lV) (d:Option T) (L:lV),Am X C N H s->kO s.heap e c d L (Gh X C H)->W N c d H->X.xe (.ref e) s
def V1.pass{X:Cx}{W:St->XK}{pins:List (T×oH)}{σ:St}{H:Hp}{s P:lZ}{v:lV}(S:V1 X W)(C:Am X pins σ H s)(h:LU X.prog X.w X.stack H s (W σ) v P):X.xe v P:=by
 let[e,c,d,L,A,rfl,R,F,Q,N,x,U]:=h;exact S pins σ A P e c d L (C.call' R Q N F λb z=>mC z zZ) (x.imp λb q=>C.fxOk q.1 q.2) U
def Tl{P:mF}{w:mR}{K:zAa}{W:J->Option lV}{N:List J}{qual:J}{f:T}{cd:lV}{A:mZ}{E:XK} :
  V1 (Mq (LU P w) P w K W j N qual scope f cd A outer k l E) (λy=>E):=by
 intro R X H s e c d L Q x U;show mO _ _ (uX _ (.ref e)) _ _ s;unfold uX;refine zCw (Ni Q I I x λo F S=>?_);refine[e,c,d,L,H,I,F.os,F.bare,F.base,F.hok,S.imp λb C=>[?_,C.1],U];rcases C.2.2.2.1 with z|z
 .exact nomatch (show b∈([]:List T) from z)
 .exact z
def V1.n{X:Cx}{W:St->XK}(h:V1 X W):jU X W:=λL N H s e c d C x z=>h L N H s e c d _ C x z
def X1(sp:Sp)(W:St->XK)(t:TA):TE:=λC H Q=>t C H λL N=>sp L N Q (W C)
structure Qr(P:mF)(w:mR)(K:zAa)(mg:J->Option lV)(base:mX)(k:Nat)(x:J)(ps:List J)(sp:Sp):Prop where
 ex:∃f fd,Ar P w K mg base (Nt P w) k f fd ps sp/\Dc K fd ps []/\zAH K (.ref f)=B/\mg x=g (.ref f)
def lK.calX{P}{w}{K}{L:J->Option lV}{C}{k:Nat}{x}{st}{ps}{sp}(D:lK K L x st ps)(h:∀f H,Fw K x x st f H->Ar P w K L C (Nt P w) k f H ps sp):Qr P w K L C k x ps sp:=by
 let[f,H,F,b,m]:=D.ex;exact[f,H,h f H F,b,F.kp,m]
section
variable {X:Cx} {k:Nat} {f:T} {fd:zCA} {ps:List J} {sp:Sp} {x:J} {p pos:uL} {e:nY} {es:List nY} {t:TA} {W:St->XK}
def Wc{pins:List (T×oH)}{σ:St}{H:Hp}{s:lZ}{Q:VK}{us:List lV}{vs:List V}(F:Ar X.prog X.w X.K X.mg X.base (Nt X.prog X.w) k f fd ps sp)(P:Cc k X.A)(S:Dc X.K fd ps [])(N:jU X W)
  (C:Am X pins σ H s) (r:Bc vs us) (h:sp vs H Q (W σ)):mO (mP X.prog X.w) X.A (call (.ref f) us) (EP X pins σ Q) X.xe s:=by
 let R:(us++[]).length=ps.length:=by rw[zAA,<- r.length];exact F.len _ _ _ _ h
 let b:=S s us C.kIn R;rw[zAA]at b;refine oV (oG (F.run X.A X.stack s H [us,[]] us vs Q (W σ) P C.env0 b r h) λq U z=>?_);cases q with
 |error v=>exact N.pass C z
 |ok L=>
  cases L with
  |ret u=>exact C.after z
  |next=>exact nD z
  |brk=>exact nD z
  |cont=>exact nD z
def Eu(C:Qr X.prog X.w X.K X.mg X.base k x ps sp)(d:Cc k X.A)(N:jU X W)(P:Gl X x)(A:PA X (e::es) t)
  (z:(x==("__debug__" : J))=lX:=by lk) (c:mH (e::es) X.env=(lX,nU e X.env)::mH es X.env:=by rfl) (K:(oB pos (mH es X.env)).any (·.1)=lX:=by rfl) :
  PE X (.Call (.Name x p) (e::es) [] pos) (X1 sp W t):=by
 intro E s j H Q R h;let[f,fd,F,b,U,S]:=C.ex;refine nQ (Fz R P S ?_ z);refine zBk (h₀:=X.base) R.ok.mod.kin U (Er (A pos E s j H _ R h) λo u ⟨v,l,L,r,q⟩=>[L.kIn,?_]) c K;exact Wc F d b N L r q
end
def Fw.okX{P}{w}{K}{d:J->Option lV}{b}{x qual}{st}{f}{j}{N ps}{k:Nat}{sp}(F:Fw K x qual st f j)(S:Cb N ps (Av st))(c:∀vs H Q E,sp vs H Q E->vs.length=ps.length)
  (z:∀(X:lV) (A:mZ) (outer:List sB) (s:lZ) (H:Hp) (vs:List V) (Q:VK) (E:XK),Cc k (A.deeper (oY qual (Av st) ⇑s f X))->sp vs H Q E ->
   ∃t,PSs (Mq (Nt P w) P w K d b N qual (Av st) f X A outer s H E) (Dn st) t/\t { nx:=λy H'=>Q .non H',rt:=Q } (Gx N vs) H):Ar P w K d b (Nt P w) (k+1) f j ps sp:=by
 let[p,q,kV,C,o,u,X,r,R,rfl,U,W]:=F.ex;exact DQ U W S c λA outer s H vs Q E l L=>z X A outer s H vs Q E l L
structure UQ(P:mF)(w:mR)(K:zAa)(mg:J->Option lV)(base:mX)(k:Nat)(x:J)(ps:List J)(sp:Sp):Prop where
 ex:∃f fd,Ar P w K mg base (LU P w) k f fd ps sp/\Dc K fd ps []/\zAH K (.ref f)=B/\mg x=g (.ref f)
def lK.calW{P:mF}{w:mR}{K:zAa}{H:J->Option lV}{k:Nat}{x:J}{st:nZ}{ps:List J}{sp:Sp}(D:lK K H x st ps)(h:∀f C,Fw K x x st f C->Ar P w K H c (LU P w) k f C ps sp):UQ P w K H c k x ps sp:=by
 let[f,C,F,b,m]:=D.ex;exact[f,C,h f C F,b,F.kp,m]
section
variable {X:Cx} {k:Nat} {f:T} {fd:zCA} {ps:List J} {sp:Sp} {x:J} {p pos:uL} {e:nY} {es:List nY} {t:TA} {W:St->XK}
def PK{pins:List (T×oH)}{σ:St}{H:Hp}{s:lZ}{Q:VK}{us:List lV}{vs:List V}(F:Ar X.prog X.w X.K X.mg X.base (LU X.prog X.w) k f fd ps sp)(P:Cc k X.A)(S:Dc X.K fd ps [])(N:V1 X W)
  (C:Am X pins σ H s) (r:Bc vs us) (h:sp vs H Q (W σ)):mO (mP X.prog X.w) X.A (call (.ref f) us) (EP X pins σ Q) X.xe s:=by
 let R:(us++[]).length=ps.length:=by rw[zAA,<- r.length];exact F.len _ _ _ _ h
 let b:=S s us C.kIn R;rw[zAA]at b;refine oV (oG (F.run X.A X.stack s H [us,[]] us vs Q (W σ) P C.env0 b r h) λq U z=>?_);cases q with
 |error v=>exact N.pass C z
 |ok L=>
  cases L with
  |ret u=>exact C.after z
  |next=>exact nD z
  |brk=>exact nD z
  |cont=>exact nD z
def LR(C:UQ X.prog X.w X.K X.mg X.base k x ps sp)(d:Cc k X.A)(N:V1 X W)(P:Gl X x)(A:PA X (e::es) t)
  (z:(x==("__debug__" : J))=lX:=by lk) (c:mH (e::es) X.env=(lX,nU e X.env)::mH es X.env:=by rfl) (K:(oB pos (mH es X.env)).any (·.1)=lX:=by rfl) :
  PE X (.Call (.Name x p) (e::es) [] pos) (X1 sp W t):=by
 intro E s j H Q R h;let[f,fd,F,b,U,S]:=C.ex;refine nQ (Fz R P S ?_ z);refine zBk (h₀:=X.base) R.ok.mod.kin U (Er (A pos E s j H _ R h) λo u ⟨v,l,L,r,q⟩=>[L.kIn,?_]) c K;exact PK F d b N L r q
end
def Fw.okW{P:mF}{w:mR}{K:zAa}{d:J->Option lV}{x qual:J}{st:nZ}{f:T}{N ps:List J}{k:Nat}{sp:Sp}(F:Fw K x qual st f j)(S:Cb N ps (Av st))(c:∀vs H Q E,sp vs H Q E->vs.length=ps.length)
  (z:∀(X:lV) (A:mZ) (outer:List sB) (s:lZ) (H:Hp) (vs:List V) (Q:VK) (E:XK),Cc k (A.deeper (oY qual (Av st) ⇑s f X))->sp vs H Q E ->
   ∃t,PSs (Mq (LU P w) P w K d b N qual (Av st) f X A outer s H E) (Dn st) t/\t { nx:=λy H'=>Q .non H',rt:=Q } (Gx N vs) H):Ar P w K d b (LU P w) (k+1) f j ps sp:=by
 let[p,q,kV,C,o,u,X,r,R,rfl,U,W]:=F.ex;exact DQ U W S c λA outer s H vs Q E l L=>z X A outer s H vs Q E l L
structure cC(K:zAa)(x:J)(mg:J->Option lV)(C:T):Prop where
 at_:mg x=g (.ref C)
 ex:∃bm newId initId B,zBD K C bm newId=lY/\vA B newId initId bm
set_option tactic.hygienic true in
def PZ{K}{h}{C}{A}{R}(X:K.In h)(q:zBD K C A R=B) :
  ∃bm N nm Q bs hdct sn sub ab col dd k0 k1 k2 k3 k5 mN,h.get? C=g (qF nm Q C N bs bm hdct sn sub ab col dd k0 k1 k2 k3 k5 R)/\h.Ns N mN/\mN "__init__"=M/\OwnTail h A bm:=by
 unfold zBD at q
 split at q
 .rename_i dd f b lk
  split at q
  .rename_i j bm k0 k1 k2 k3 n k5 E W
   simp only[zAO,beq_iff_eq,yY]at q;let[[[[[P,H],z],c],F],L]:=q;subst P H;let[nm,bs,U,d,Q,S,sn,sub,ab,col,k]:=f;simp only at E z F L;subst E z;obtain⟨l⟩:=b;simp only at W;subst W;exact[bm,d,nm,Q,bs,S,sn,sub,ab,col,dd,k0,k1,k2,k3,k5,_,X _ _ lk,.of_isNs (sK X F),PySem.W.nsMap_none_of_in X F L,wV X c]
  .cases q
 .cases q
def WC(C:T)(W:St->XK)(t:TA):TS:=λx L H=>t L H λN P=>N.length<=sizeLine/\W L (.ref C) M P
def Eh{X}{x}{C}{W:St->XK}{t}{e}{es}{np b k}(m:jU X W)(hc:X.calm=B)(P:cC X.K x X.mg C)(hg:Gl X x)(ha:PA X (e::es) t)
  (S:(x==("__debug__" : J))=lX:=by lk) (u:mH (e::es) X.env=(lX,nU e X.env)::mH es X.env:=by rfl) (l:(oB b (mH es X.env)).any (·.1)=lX:=by rfl) :
  PS X (.Raise (g (.Call (.Name x np) (e::es) [] b)) M k) (WC C W t):=by
 intro c s y H D K h;let[a0,p,f,Q,q,v]:=P.ex;let[bm,N,nm,a,bs,hdct,sn,sub,ab,col,dd,k0,k1,k2,k3,k5,mN,hC,i,U,A]:=PZ K.mod.kin q;refine wpAny_Raise_call_subT (C:=C) (nm:=nm) (q:=a) (N:=N) (bs:=bs) (bm:=bm) (hdct:=hdct) (sn:=sn) (sub:=sub) (ab:=ab) (col:=col) (dd:=dd) (k0:=k0) (k1:=k1) (k2:=k2) (k3:=k3) (k5:=k5) v (mN:=mN)
  (A.hasType v.hasBase) (K.ok.hd hc) ?_ U (Fz K hg P.at_ [I,?_] S)
 .rw[u]
  show(lX||(oB b (mH es X.env)).any (·.1))=lX;rw[l];rfl
 let L:=ha b c s y H _ K h;rw[u]at L⊢;refine sG (Er L λus E ⟨vs,j,F,r,hl,hw⟩=>[I,by rw[<- r.length];exact hl,F.bk _ _ hC,i.keeps F.bk,A.keeps F.bk,λh' d R=>?_]);let[t0,ht,aa,_]:=R.there;let n:j d=M:=by
  cases z:j d with
  |none=>rfl
  |some o=>
   let[ob,w]:=(F.hok d o z).is;rw[R.new]at w;cases w
 exact m c y j { E with heap:=h' } d (.ref C) M (F.kept (t':=E.toks) R.keeps) [_,_,ht,rfl,rfl,rfl,(show(1:Nat)<6 from by lk),rfl,F.fxOk R.new n,.inl rfl] hw
abbrev Cx.tr(X:Cx)(pn:List (T×oH))(E:lV->lZ->Prop):Cx:={ X with pn:=pn,xe:=E }
abbrev Cx.sup(X:Cx)(e:T):Cx:={ X with A:=X.A.mark (g (.ref e)),calm:=lX,xe:=λx x=>False }
section
variable {X:Cx} {pins pins' pn:List (T×oH)} {σ:St} {H:Hp} {s:lZ} {E:lV->lZ->Prop} {e:T}
def Cx.Ok.tr(C:X.Ok):(X.tr pn E).Ok:=[C.mod,C.kind,C.glob,C.blt,C.above,C.inj,C.has,C.cab,C.hd,C.frames,C.stk,C.exf,C.bs,C.bsz,C.noex,C.exfs,C.funs,C.frf]
def Cx.Ok.untr(C:(X.tr pn E).Ok):X.Ok:=[C.mod,C.kind,C.glob,C.blt,C.above,C.inj,C.has,C.cab,C.hd,C.frames,C.stk,C.exf,C.bs,C.bsz,C.noex,C.exfs,C.funs,C.frf]
def Am.tr(C:Am X pins σ H s):Am (X.tr (X.pn++pins) E) [] σ H s:=[C.ok.tr,C.os,C.bare,C.base,C.loc,C.cell,C.free,C.freeC,λp L=>C.pin p (by simpa using L),C.hok,C.len]
def Am.untr(C:Am (X.tr (X.pn++pins) E) pins' σ H s):Am X pins σ H s:=[C.ok.untr,C.os,C.bare,C.base,C.loc,C.cell,C.free,C.freeC,λp L=>C.pin p (zBi _ L),C.hok,C.len]
def Gh.untr{b:T}(f:Gh (X.tr (X.pn++pins) E) pins' H b):Gh X pins H b:=[f.1,f.2.1,f.2.2.1,f.2.2.2.1,f.2.2.2.2.1,λp C=>f.2.2.2.2.2 p (zBi _ C)]
def SP.untr{D:Uh}{f:Flow}(h:SP (X.tr (X.pn++pins) E) pins' D f s):SP X pins D f s:=by
 cases f with
 |next=>let[z,L,C,q]:=h;exact[z,L,C.untr,q]
 |brk=>let[z,L,C,q]:=h;exact[z,L,C.untr,q]
 |cont=>let[z,L,C,q]:=h;exact[z,L,C.untr,q]
 |ret u=>let[v,z,L,C,r,q]:=h;exact[v,z,L,C.untr,r,q]
def Cx.Ok.sup(C:X.Ok):(X.sup e).Ok:=[C.mod,C.kind,C.glob,C.blt,C.above,C.inj,C.has,C.cab,(λz=>nomatch z),C.frames,C.stk,C.exf,C.bs,C.bsz,C.noex,C.exfs,C.funs,C.frf]
def Am.sup(C:Am X pins σ H s):Am (X.sup e) pins σ H s:=[C.ok.sup,C.os,C.bare,C.base,C.loc,C.cell,C.free,C.freeC,C.pin,C.hok,C.len]
def Am.unsup(C:Am (X.sup e) pins σ H s)(L:X.Ok):Am X pins σ H s:=[L,C.os,C.bare,C.base,C.loc,C.cell,C.free,C.freeC,C.pin,C.hok,C.len]
def SP.unsup{D:Uh}{f:Flow}(h:SP (X.sup e) pins D f s)(N:X.Ok):SP X pins D f s:=by
 cases f with
 |next=>let[z,L,C,q]:=h;exact[z,L,C.unsup N,q]
 |brk=>let[z,L,C,q]:=h;exact[z,L,C.unsup N,q]
 |cont=>let[z,L,C,q]:=h;exact[z,L,C.unsup N,q]
 |ret u=>let[v,z,L,C,r,q]:=h;exact[v,z,L,C.unsup N,r,q]
def LF(e:T)(c:lV)(d:Option T):HO:=.ext λh=>∃C L,h.get? e=g C/\C.cls=c/\C.dict=d/\C.data=.fields L
def Am.track{c:lV}{d:Option T}{oe:oH}{vs:Array lV}(Q:Am X pins σ H s)(F:Gh X pins H e)(N:s.heap.get? e=g oe)(t:oe.cls=c)(L:oe.dict=d)(U:oe.data=.fields vs) :
  Am X pins σ (upd H e (LF e c d)) s:=by
 let R:∀b u,H b=g u->b≠e:=λb u q=>Ai q F.1;refine[Q.ok,Q.os,Q.bare,[Q.base.keep,Q.base.slot,λb o q n S=>?_,Q.base.there,λb A q=>?_,λb o u q=>?_,λb l q=>?_],Q.loc,Q.cell,?_,λx c q=>?_,λp W=>?_,λb u q=>?_,Q.len]
 .rw[Ak]
  .exact Q.base.free b o q n S
  .rintro rfl
   rcases F.2.2.2.1 with z|z
   .exact S z
   .rw[q]at z;cases z
 .have z:=Q.base.tups b A q
  rw[Ak (R _ _ z)];exact z
 .have z:=Q.base.frzs b o u q
  rw[Ak (R _ _ z)];exact z
 .let[m,z]:=Q.base.tbls b l q
  exact[m,by rw[Ak (R _ _ z)];exact z]
 .rw[Ak (oC F.2.1)];exact Q.free
 .rw[Ak (F.2.2.2.2.1 x c q)];exact Q.freeC x c q
 .let[C,w,K,j,h]:=Q.pin p W
  exact[C,by rw[Ak (F.2.2.2.2.2 p W)];exact w,K,j,h]
 .by_cases z:b=e
  .subst z
   rw[Aa]at q;cases q;refine[[oe,vs,N,t,L,U],[oe,N],λa i p k=>?_];let[r,P,v,f]:=p;exact[r,P,k _ v,f]
  .rw[Ak z]at q
   exact(Q.hok b u q).stay (λ_ _ _ y=>y) (λc y=>by rw[Ak (R _ _ y)];exact y) λc A y=>by rw[Ak (R _ _ y)];exact y
def Am.forget{h':mX}{C:J->Option lV}{t':Nat}(P:Am X pins σ H s)(k:h'.Ns X.env.locals C)(L:zBa X.env.locals s.heap h'):Am X pins (σ.map λa=>M) H { s with heap:=h',toks:=t' }:=by
 let F:∀b o,X.s₀.heap.get? b=g o->b≠X.env.locals:=λb o q=>zAu (zAF (zAo q) P.ok.above);refine[P.ok,P.os,P.bare,[λb o q n U S=>?_,λb o q n U S=>?_,P.base.free,λb o q S=>?_,P.base.tups,P.base.frzs,P.base.tbls],[C,k,λi x v a Q a=>?_],λx c q=>?_,P.free,P.freeC,λp l=>?_,λb u q=>?_,by simpa using P.len]
 .exact(L.2 b (F b o q)).trans (P.base.keep b o q n U S)
 .let[R,z]:=P.base.slot b o q n U S
  exact[R,(L.2 b (F b o q)).trans z]
 .let[K,z]:=P.base.there b o q S
  exact[K,(L.2 b (F b o q)).trans z]
 .rw[zAt]at Q
  cases z:σ[i]? with
  |none=>rw[z]at Q;cases Q
  |some y=>rw[z]at Q;cases Q
 .let[v,z]:=P.cell x c q
  exact[v,z.sameBut L (P.cne x c q)]
 .let[A,f,N,d,j]:=P.pin p l
  exact[(L.2 p.1 N).trans A,f,N,d,j]
 .refine(P.hok b u q).stay (λc v W y=>(L.2 c λz=>?_).trans y) (λa y=>y) λa a y=>y
  rcases W with r|r
  .rw[<- r,z,P.free]at q;cases q
  .rw[z,P.free]at r;cases r
end
def XZ(K:zAa)(Q:T)(P:(St->XK)->TS)(ts:TS):TS:=λD N H=>P (λL c x R=>∃C,c=.ref C/\zAY K (.ref C) (.ref Q)=g B/\ts D L R) D N H
def aN(K:zAa)(Q:T)(i:Nat)(R:(St->XK)->TS)(ts:TS):TS:=λD L H=>R (λN c d P=>∃C,c=.ref C/\zAY K (.ref C) (.ref Q)=g B /\
 ∀e,P e=M->ts { nx:=λL H=>D.nx (L.map λx=>M) H,rt:=D.rt,bk:=λL H=>D.bk (L.map λx=>M) H,ct:=λL H=>D.ct (L.map λx=>M) H } (N.set i (g (.ref e))) (upd P e (LF e c d))) D L H
section
variable {X:Cx} {x n:J} {Ch:T} {i:Nat} {body suite:List nZ} {b₀:nZ} {tb:(St->XK)->TS} {ts:TS} {np hpos pos:uL}
def Sr{M:u4}{h:mX}{e:T}{c:lV}{oe:oH}(z:h.get? e=g oe)(F:oe.cls=c):zCf M h (typeOf (.ref e)) c:=F▸(zCf.ld z).andThen .now
def PM(S:X.stack=X.env::X.outer)(U:X.env.frame=g X.env.locals)(y:Gl X x)(hm:X.mg x=g (.ref Ch))
  (hb:∀pn E W,V1 (X.tr pn E) W->tP (mP X.prog X.w) X.A X.env E->PSs (X.tr pn E) body (tb W)) (hs:∀e,PSs (X.sup e) (b₀ :: suite) ts) (P:(x==("__debug__" : J))=lX:=by lk) :
  PS X (.Try body #[.ExceptHandler (g (.Name x np)) M (b₀ :: suite) hpos] [] [] pos) (XZ X.K Ch tb ts):=by
 intro A s σ H D R h;refine vN ?_;refine nV (hb (X.pn++A) _ _ ?_ ?_ [] s σ H D R.tr h) (λf a q=>?_) λe a q=>q
 .intro K Q j r e c d aa v t m
  let[C,rfl,k,hq]:=m;let l:Am X A Q j r:=v.untr;refine Ni l S U (t.imp λb p=>p.untr) λh2 L N=>?_;let[oe,vs,o,w,_,_]:=N.there;refine tT (sR (Fz (L.sup (e:=e)) y hm ?_ P)) (by intro q;cases q);refine(tZ L.kIn (Sr o w) k).here ?_;refine yS (Sb N ?_);exact nV (hs e A _ Q j D (L.sup (e:=e)) hq) (λf s3 q=>q.unsup L.ok) λ_ _ z=>nD z
 .exact sL
 .have F:=q.untr
  cases f with
  |next=>exact pG F
  |brk=>exact F
  |cont=>exact F
  |ret u=>exact F
def JU(af:X.stack=X.env::X.outer)(ag:X.env.frame=g X.env.locals)(hg:Gl X x)(hm:X.mg x=g (.ref Ch))(hN:X.N.Nodup)(hi:X.N[i]?=g n)(o:X.env.kindOf n=g .local)
  (hb:∀pn E W,V1 (X.tr pn E) W->tP (mP X.prog X.w) X.A X.env E->PSs (X.tr pn E) body (tb W)) (hs:∀e,PSs (X.sup e) (b₀ :: suite) ts) (aa:(x==("__debug__" : J))=lX:=by lk) :
  PS X (.Try body #[.ExceptHandler (g (.Name x np)) (g n) (b₀ :: suite) hpos] [] [] pos) (aN X.K Ch i tb ts):=by
 intro K s σ H D Q h;refine vN ?_;refine nV (hb (X.pn++K) _ _ ?_ ?_ [] s σ H D Q.tr h) (λf s1 q=>?_) λe s1 q=>q
 .intro l p H' s' e c d ah I' x' hw
  let[C,rfl,hx,hq]:=hw;let I1:Am X K p H' s':=I'.untr;refine Ni I1 af ag (x'.imp λb fb=>fb.untr) λh2 N a=>?_;let[oe,vs,y,m,ad,hd,_,_,t,_]:=id a;refine tT (sR (Fz (N.sup (e:=e)) hg hm ?_ aa)) (by intro q;cases q);refine(tZ N.kIn (Sr y m) hx).here ?_;refine codeAny_handlers_suite_as (Sb a ?_);let I3:=(N.track t y m ad hd).sup (e:=e);refine Xp (X:=X.sup e) I3 hN hi (.inl o) (v:=.ref e) I (λs4 I4=>?_) (.inr o);refine nV (hs e K s4 _ _ _ I4 (hq e t.1)) (λf w k=>?_) λ_ _ z=>nD z;let j:∀{S:St} {P:Hp} {R:Unit->lZ->Prop} {r:lV->lZ->Prop},Am (X.sup e) K S P w->(∀U,Am X K (S.map λ_=>M) P U->R () U) ->
    mO (mP X.prog X.w) X.A (do bindName X.env n .none;unbindBehindTheSuite X.env n hpos) R r w:=λ{S P R r} F hR=>by
   let[m5,ab,_]:=F.loc;refine wpAny_nameGoes o ab ?_ λh6 m6 ae ac=>hR _ ((F.unsup N.ok).forget ae ac);rw[N.ok.kind];rfl
  cases f with
  |next=>let[S,P,F,q]:=k;exact j F λU L=>[_,_,L,q]
  |brk=>let[S,P,F,q]:=k;exact j F λU L=>[_,_,L,q]
  |cont=>let[S,P,F,q]:=k;exact j F λU L=>[_,_,L,q]
  |ret u=>let[v5,S,P,F,r5,q]:=k;exact j F λU L=>[v5,_,_,L,r5,q]
 .exact sL
 .have A:=q.untr
  cases f with
  |next=>exact pG A
  |brk=>exact A
  |cont=>exact A
  |ret u=>exact A
def UY(F:X.stack=X.env::X.outer)(z:X.env.frame=g X.env.locals)(N:Gl X x)(S:X.mg x=g (.ref Ch))
  (U:∀pn E W,jU (X.tr pn E) W->tP (mP X.prog X.w) X.A X.env E->PSs (X.tr pn E) body (tb W)) (C:∀e,PSs (X.sup e) (b₀ :: suite) ts) (L:(x==("__debug__" : J))=lX:=by lk) :
  PS X (.Try body #[.ExceptHandler (g (.Name x np)) M (b₀ :: suite) hpos] [] [] pos) (XZ X.K Ch tb ts):=PM F z N S (λpn E W H P=>U pn E W H.n P) C L
end
structure jS(k:Nat)(A:mZ):Prop where
 dp:A.depth+3*k+5<tG
 un:A.units+16*k+200<pQ
def Cc.sup{k:Nat}{A:mZ}(r:Cc k A)(v:Option lV):jS k (A.mark v):=[r.dp,r.un]
def jS.deeper{k:Nat}{A:mZ}(r:jS (k+1) A)(env:sB):jS k (A.deeper env):=
 [by let:=r.dp;show A.depth+1+3*k+5<_;lia,by let:=r.un;show A.units+3+16*k+200<_;lia]
structure S1(P:mF)(w:mR)(K:zAa)(mg:J->Option lV)(base:mX)(k:Nat)(f:T)(fd:zCA)(ps:List J)(sp:Sp):Prop where
 len:∀vs H Q E,sp vs H Q E->vs.length=ps.length
 run:∀(A:mZ) (outer:List sB) (s:lZ) (H:Hp) (args:Args) (us:List lV) (vs:List V) (Q:VK) (E:XK),jS k A->kE P w K mg base A outer s H->vD s fd args (ps.zip us)->Bc vs us->sp vs H Q E ->
  pT (mP P w) A (.call (.ref f) args) (CR Jv outer P w H s Q E) s
abbrev aD(P:mF)(w:mR)(K:zAa)(L:J->Option lV)(C:mX)(N:List J)(qual:J)(scope:rJ)(f:T)(cd:lV)(A:mZ)(outer:List sB)(s:lZ)(H:Hp):Cx:=
 { Mq Jv P w K L C N qual scope f cd A outer s H E0 with calm:=lX,xe:=λx x=>False }
def Z1{P}{w}{K}{R:J->Option lV}{Q}{N ps}{qual}{scope}{f}{cd}{A}{outer}{s U}{H}{us}{vs}
  (S:Cb N ps scope) (F:kE P w K R Q A outer s H) (W:vs.length=ps.length) (r:Bc vs us)
  (x:InCallC s ⇑s (wQ (oY qual scope ⇑s f cd).kindOf (ps.zip us) λy=>M) (vQ (⇑s+1) scope.names []) (wR (oY qual scope ⇑s f cd).kindOf (ps.zip us) λy=>M) U) :
  Am (aD P w K R Q N qual scope f cd A outer s H) [] (Gx N vs) H U:=by
 let L:kE P w K R Q { A with handled:=M } outer s H:=[F.frames,F.mod,F.bs,F.bsz,F.funs,F.frf,F.hok,F.bare];let C:=Zv (CX:=Jv) (E:=E0) (A:={ A with handled:=M }) S rfl L W r x;exact[[C.ok.mod,C.ok.kind,C.ok.glob,C.ok.blt,C.ok.above,C.ok.inj,C.ok.has,C.ok.cab,(λz=>nomatch z),wM F.frames,C.ok.stk,C.ok.exf,C.ok.bs,C.ok.bsz,C.ok.noex,C.ok.exfs,C.ok.funs,C.ok.frf],C.os,C.bare,C.base,C.loc,C.cell,C.free,C.freeC,C.pin,C.hok,C.len]
def UP{P}{w}{K}{i:J->Option lV}{j}{k:Nat}{f}{m qual}{z}{l}{scope}{dV kV W pm d ct oc}{an od}
  {ae} {N ps} {sp} (lk:K.lookup f=g [oc,od,.func (zAM m qual z l scope dV kV W pm an d ct),ae]) (ab:zAX K d qual=B) (S:Cb N ps scope)
  (h:∀vs H Q E,sp vs H Q E->vs.length=ps.length)
  (L:∀(A:mZ) (outer:List sB) (s:lZ) (H:Hp) (vs:List V) (Q:VK) (E:XK),jS k (A.deeper (oY qual scope ⇑s f d))->sp vs H Q E ->
   ∃t,PSs (aD P w K i j N qual scope f d A outer s H) l t/\t { nx:=λ_ H'=>Q .non H',rt:=Q } (Gx N vs) H) :
  S1 P w K i j (k+1) f (zAM m qual z l scope dV kV W pm an d ct) ps sp:=by
 refine[h,λA outer s H af us vs Q E hr U hb r C=>?_];let hl:=h _ _ _ _ C;let KX:K.In s.heap:=U.mod.kin.keeps λb o e=>(U.bs b o e).1;let ac:s.heap.NoLimit:=U.mod.nolimit.keeps λb o e=>(U.bs b o e).1;let F:∀y∈ps.zip us,scope.names.lookup y.1=g .local\/(scope.names.lookup y.1=g .cell/\((vQ (⇑s+1) scope.names []).lookup y.1).isSome=B):=λ⟨n,v⟩ hy=>by
  rcases S.par n (rR hy).1 with q|q
  .exact .inl q
  .exact .inr [q,zCu _ _ _ (.inl q)]
 let ad:A.depth<tG:=by let:=hr.dp;lia
 refine yZ ad (KX _ _ lk) I S.co S.gen I (wX KX ab) (hb _ _ _ _ ?_);refine wN S.kind F λa0 he s1 x=>?_;subst he;refine[ac.keeps x.toInCall.keep,codeAny_func ?_];let[t,ht,hq]:=L A outer s H vs Q E (hr.deeper _) C;let c:Am (aD P w K i j N qual scope f d A outer s H) [] (Gx N vs) H s1:=Z1 S U hl r x;refine nV (ht [] s1 (Gx N vs) H _ c hq) (λfl a R=>?_) λe a R=>nD R;let aa:∀{p:St} {H':Hp} {v:V} {u:lV},Am (aD P w K i j N qual scope f d A outer s H) [] p H' a->Bq v u->Q v H'->CE outer P w H s Q u a:=
  λ{p H' v u} X rv q=>[v,H',X.os,X.bare,X.base,X.hok,rv,q]
 cases fl with
 |ret u=>
  let[v,p,H',X,rv,q]:=R;exact aa X rv q
 |next=>
  let[p,H',X,q]:=R;exact aa (v:=V.non) (u:=mT) X I q
 |brk=>
  let[_,_,_,q]:=R;exact nD q
 |cont=>
  let[_,_,_,q]:=R;exact nD q
def Fw.okH{P}{w}{K}{d:J->Option lV}{b}{x qual}{st}{f}{j}{N ps}{k:Nat}{sp}(F:Fw K x qual st f j)(S:Cb N ps (Av st))(c:∀vs H Q E,sp vs H Q E->vs.length=ps.length)
  (z:∀(X:lV) (A:mZ) (outer:List sB) (s:lZ) (H:Hp) (vs:List V) (Q:VK) (E:XK),jS k (A.deeper (oY qual (Av st) ⇑s f X))->sp vs H Q E ->
   ∃t,PSs (aD P w K d b N qual (Av st) f X A outer s H) (Dn st) t/\t { nx:=λy H'=>Q .non H',rt:=Q } (Gx N vs) H):S1 P w K d b (k+1) f j ps sp:=by
 let[p,q,kV,C,o,u,X,r,R,rfl,U,W]:=F.ex;exact UP U W S c λA outer s H vs Q E l L=>z X A outer s H vs Q E l L
def tx(l:List Nat):J:=[l.toArray]
def HW(l:List Nat):(tx l).cps.toList=l:=rfl
def Dg(l:List Nat):(tx l).length=l.length:=by simp[tx,Str.length]
def Hq(x:J):tx x.cps.toList=x:=by cases x;rfl
def WT{l m:List Nat}(h:tx l=tx m):l=m:=by
 let e:=nI (λz:J=>z.cps.toList) h;exact e
def En(l m:List Nat):tx l++tx m=tx (l++m):=by
 show([l.toArray++m.toArray]:J)=[(l++m).toArray];rw[yC]
def Di(n:Nat):List Nat:=(uC 10 n).map Char.toNat
def Jo(n:Nat):((toString (n:Int):String):J)=tx (Di n):=by
 let e:=PySem.W.KIN.signs_num n;rw[<- Hq (O (toString ((n:Nat):Int))),e];rfl
def Td(n:Nat):nA (Di n)=n:=PySem.W.KIN.val_back n
def Lr(n:Nat):nR (Di n):=λc F=>by
 let[L,z,e]:=zAv.mp F;rw[<- e];exact PyProof.Rows.digit_range (Nat.isDigit_of_mem_toDigits Y Y z)
def Gm{n:Nat}(h:n<10):Di n=#[48+n]:=by
 unfold Di;rw[Nat.toDigits_of_lt_base h];let:n=0\/n=1\/n=2\/n=3\/n=4\/n=5\/n=6\/n=7\/n=8\/n=9:=by lia
 rcases this with rfl|rfl|rfl|rfl|rfl|rfl|rfl|rfl|rfl|rfl<;>rfl
def Qc{n:Nat}(h:10<=n):Di n=Di (n/10)++Di (n%10):=by
 let z:n%10<10:=zBK n Y;let t:uC 10 (n/10)++uC 10 (n%10)=uC 10 (10*(n/10)+n%10):=Nat.toDigits_append_toDigits Y Z z;rw[Nat.div_add_mod]at t;unfold Di;rw[<- t,zAf]
def E6(n:Nat):Di n≠[]:=by
 by_cases h:n<10
 .rw[Gm h];simp
 .rw[Qc Z,Gm (zBK n Y)];simp
def Es{n k:Nat}(L:1<=k)(h:n<10^k):(Di n).length<=k:=by
 induction k generalizing n with
 |zero=>lia
 |succ k H=>
  by_cases N:n<10
  .rw[Gm N];simp
  .have C:n/10<10^k:=by rw[Nat.pow_succ]at h;lia
   let F:1<=k:=by
    rcases Nat.eq_zero_or_pos k with z|z
    .rw[z]at C;simp at C;lia
    .exact z
   let:=H F C;rw[Qc Z,zAc,Gm (zBK n Y)];simp
   lia
def GC(n:Nat):(Di n).head?=g 48->Di n=#[48]:=by
 induction n using Nat.strongRecOn with
 |_ n N=>
  intro h;by_cases H:n<10
  .rw[Gm H]at h⊢
   simpa using h
  .exfalso
   let e:=Qc (n:=n) Z;let P:(Di (n/10)).head?=g 48:=by
    rw[e]at h;cases z:Di (n/10)with
    |nil=>exact mC z (E6 _)
    |cons a r=>rw[z]at h;simpa using h
   let L:=N (n/10) Z P;let F:=Td (n/10);rw[L]at F;let C:n/10=0:=F.symm
   lia
def Ge{n:Int}(F:0<=n)(h:n<10^70):n.natAbs.log2<1920:=by
 let C:n.natAbs<2^240:=by
  let L:(10:Int)^70<2^240:=by lk
  lia
 by_cases z:n.natAbs=0
 .rw[z];decide
 .have:=(Nat.log2_lt z).2 C
  lia
def Fj(c:Nat):List Nat->List (List Nat)
 |[]=>#[[]]
 |x::l=>if x=c then []::Fj c l else match Fj c l with
  |[]=>#[#[x]]
  |p::r=>(x::p)::r
theorem U7(c:Nat):∀l,Fj c l≠[]
 |[]=>by simp[Fj]
 |x::l=>by
  unfold Fj
  split
  .simp
  .cases Fj c l<;>simp
theorem Nj{c:Nat}:∀{l:List Nat},c∉l->Fj c l=#[l]
 |[],_=>rfl
 |x::l,h=>by
  let C:x≠c:=λe=>h (by rw[e];exact zAl);unfold Fj;rw[mK C,Nj λz=>h (zAh _ z)]
theorem Qh{c:Nat}:∀{p:List Nat} (l:List Nat),c∉p->Fj c (p++c::l)=p::Fj c l
 |[],l,_=>by
  show Fj c (c::l)=_;rw[Fj,mS I]
 |x::p,l,h=>by
  let C:x≠c:=λe=>h (by rw[e];exact zAl);show Fj c (x::(p++c::l))=_;rw[Fj,mK C,Qh l λz=>h (zAh _ z)]
theorem O7{c:Nat}:∀{ps},ps≠[]->(∀p∈ps,c∉p.cps.toList)->Fj c (mE (tx #[c]) ps).cps.toList=ps.map λp=>p.cps.toList
 |[],h,_=>mC I h
 |#[p],_,h=>Nj (h p zAl)
 |p::q::r,_,h=>by
  let C:=O7 (ps:=q::r) zZ λz F=>h z (zAh _ F);let e:(mE (tx #[c]) (p::q::r)).cps.toList=p.cps.toList++c::(mE (tx #[c]) (q::r)).cps.toList:=by
   show(p++tx #[c]++mE (tx #[c]) (q::r)).cps.toList=_;show(p.cps++(tx #[c]).cps++(mE (tx #[c]) (q::r)).cps).toList=_;simp[tx]
  rw[e,Qh _ (h p zAl),C];rfl
def Zn(l:List Nat)(c:Nat):rA (tx l) (tx #[c])=(Fj c l).map tx:=by
 let P:=StrLaws.join_split (tx l) (tx #[c]);let C:=StrLaws.split_free (tx l) c;let L:rA (tx l) (tx #[c])≠[]:=λz=>by
  let:=split_pos (tx l) (tx #[c]);rw[z]at this;simp at this
 let F:=O7 L C;rw[P,HW]at F;rw[F,zBw]
 symm
 let:∀H:List J,H.map (tx ∘ λp=>p.cps.toList)=H:=λH=>by
  induction H with
  |nil=>rfl
  |cons p r N=>rw[zAr,N];show tx p.cps.toList::r=_;rw[Hq]
 exact this _
section
variable {X:Cx}
def IQ:SG X "str.zfill" (λx vs H Q=>∃z i,x=.str z/\vs=#[.int i]/\PadOk i=B/\Q (.str (wC z i)) H):=by
 intro P s W H x vs v U Q C S N h;let[z,i,rfl,rfl,R,q]:=h;let[t,rfl]:=S;let[w,rfl,F]:=N.one;let[u,rfl]:=F;exact SC.zfill R λL k=>[.str _,H,C.tok k,[L,I],q]
theorem B8:∀(ps:List J) (n:Nat),Bc (ps.map V.str) (strsFrom n ps)
 |[],_=>.nil
 |p::r,n=>.cons [n,I] (B8 r (n+1))
inductive XD(x:V)(vs:List V)(H:Hp)(Q:VK):Prop
 |mk (z y:J) (e:x=.str z) (e':vs=#[.str y]) (n:(y.length==0)=lX) (l:z.length+2<=sizeLine) (q:∀p,H p=M->Q (.ref p) (upd H p (.lst ((rA z y).map V.str))))
def Tn:SG X "str.split" XD:=by
 intro A s b H x c v F Q P C E h;let[z,y,rfl,rfl,U,K,q]:=h;let[t,rfl]:=C;let[w,rfl,N]:=E.one;let[u,rfl]:=N;let R:=split_le z y;let L:=q ⇑s P.fresh;unfold rA at L R;cases W:(decide (z.length<y.length)||decide (vL z<vL y))with
 |false=>
  rw[W]at L R;cases S:(qR z y 0 z.length (z.length+1)).isEmpty with
  |false=>
   rw[S]at L R;simp only[zBV,tU]at L R;refine pP u8 (qL _ _ _) uS (uH _ _) (meets_str_split_sep z y t u W U S Z Z) ?_;exact[.ref _,_,P.lnew (B8 _ _) (by rw[zAb];lia),I,L]
  |true=>
   rw[S]at L;simp only[zBV,tU,rY]at L;refine pP u8 (qL _ _ _) uS (uH _ _) (meets_str_split_not_found z y t u W U S) ?_;exact[.ref _,_,P.lnew (t':=s.toks) (ys:=#[V.str z]) (.cons [t,I] .nil) (by show 1<=sizeLine;exact Ck Y),I,L]
 |true=>
  rw[W]at L;simp only[rY]at L;refine pP u8 (qL _ _ _) uS (uH _ _) (meets_str_split_cannot_occur z y t u W) ?_;exact[.ref _,_,P.lnew (t':=s.toks) (ys:=#[V.str z]) (.cons [t,I] .nil) (by show 1<=sizeLine;exact Ck Y),I,L]
inductive ZI(xs:List V)(H:Hp)(Q:VK):Prop
 |mk (z:J) (n:Int) (e:xs=#[.str z]) (t:intText? z=g n) (l:z.length<=640) (q:Q (.int n) H)
def Kn:Mg X (.type "int") ZI:=by
 intro L s W H R U Q C r h;let[z,n,rfl,P,N,q]:=h;let[u,rfl,F]:=Tr r;let[t,rfl]:=F;exact PySem.W.KIN.call_text P N [.int n,H,C.tok _,[_,I],q]
inductive QZ(x y:V)(H:Hp)(Q:VK):Prop
 |mk (c:Nat) (z:J) (e:x=.str (tx #[c])) (e':y=.str z) (q:Q (.bl (!decide (c∈z.cps.toList))) H)
def Zb:Qd X (oF .NotIn) QZ:=by
 intro N s P H x y v u Q C L F h;let[c,z,rfl,rfl,q]:=h;refine F9 N s P H _ _ v u Q C L F [tx #[c],z,I,I,?_];rw[show(!(qR z (tx #[c]) 0 z.length 1).isEmpty)=decide (c∈z.cps.toList) from StrLaws.found_one z c];exact q
def YQ(x:J):It:=[λi y=>i<x.cps.size,λi H v C=>C=H/\∃c,x.cps[i]?=g c/\v=.str (tx #[c]),λi y=>x.cps.size<=i]
def FE{P}{w}{K}{tg}(x:J)(t:Tok)(it:T):D4 P w K tg (YQ x) #[it] it (λi h=>h.IsStrIter it "str_ascii_iterator" x t i) where
 mem:=by simp
 obj:=λi h W b F=>by
  let e:b=it:=by simpa using F
  subst e;let[o,e,c,d]:=W;exact[o,e,λv z=>by rw[d]at z;cases z]
 keep:=λi h f W k=>by
  let[o,e,c,d]:=W;exact[o,k it zZ o e,c,d]
 item:=by
  intro X q p S r i A s u H E R N W j;subst q p S;let[f0,f1,m,Q,C,U]:=N it zZ;let l:i<x.cps.size:=j;refine wpAny_pyNext_ascii_item W (c:=x.cps[i]) (by simp[l]) λf L n=>?_;let y:Am X A u H { s with heap:=f,toks:=s.toks+1 }:=R.turned (λb o F e=>(n.2 b F).trans e) f0 f1 Q C U;let[o,e,c,d]:=id L;exact[_,I,EM (s:={ s with heap:=f,toks:=s.toks+1 }) e c d Y [.str (tx #[x.cps[i]]),H,y,[_,rfl],[rfl,_,by simp[l],rfl],L,λb F=>(N b F).1]]
 done:=by
  intro X q p S r i A s u H E R N W j;subst q p S;let[f0,f1,m,Q,C,U]:=N it zZ;let l:x.cps.size<=i:=j;exact wpAny_pyNext_ascii_end (R.ok.hd r) W (by simp;lia) λf a=>[I,R.turned (t':=s.toks) (λb o F e=>a b o F e) f0 f1 Q C U]
 self:=λ_ _ _ _ _ W h=>wpAny_pyIter_striter_ascii W h
def FD{P}{w}{K}{tg}(x:J)(t:Tok)(it:T):D4 P w K tg (YQ x) #[it] it (λi h=>h.IsStrIter it "str_iterator" x t i) where
 mem:=by simp
 obj:=λi h W b F=>by
  let e:b=it:=by simpa using F
  subst e;let[o,e,c,d]:=W;exact[o,e,λv z=>by rw[d]at z;cases z]
 keep:=λi h f W k=>by
  let[o,e,c,d]:=W;exact[o,k it zZ o e,c,d]
 item:=by
  intro X q p S r i A s u H E R N W j;subst q p S;let[f0,f1,m,Q,C,U]:=N it zZ;let l:i<x.cps.size:=j;refine wpAny_pyNext_wide_item W (c:=x.cps[i]) (by simp[l]) λf L n=>?_;let y:Am X A u H { s with heap:=f,toks:=s.toks+1 }:=R.turned (λb o F e=>(n.2 b F).trans e) f0 f1 Q C U;let[o,e,c,d]:=id L;exact[_,I,EM (s:={ s with heap:=f,toks:=s.toks+1 }) e c d Y [.str (tx #[x.cps[i]]),H,y,[_,rfl],[rfl,_,by simp[l],rfl],L,λb F=>(N b F).1]]
 done:=by
  intro X q p S r i A s u H E R N W j;subst q p S;let[f0,f1,m,Q,C,U]:=N it zZ;let l:x.cps.size<=i:=j;exact wpAny_pyNext_wide_end (R.ok.hd r) W (by simp;lia) λf a=>[I,R.turned (t':=s.toks) (λb o F e=>a b o F e) f0 f1 Q C U]
 self:=λ_ _ _ _ _ W h=>wpAny_pyIter_striter_wide W h
def dZ(C:TE):TI:=λL H R=>C L H λx N=>∃z,x=.str z/\R (YQ z) N
def HU{f l}{E}(c:PE X l E):PI X f l (dZ E):=by
 intro W s d H R P h;refine Er (c W s d H _ P h) λv F C=>?_;let[x,A,L,S,N]:=C;let[z,e,q]:=N;subst e;let[t,rfl]:=S;let K:∀b∈#[⇑F],Op X W A b:=λb U=>by
  let e:b=⇑F:=by simpa using U
  subst e;exact L.fpOk (zAm _) (L.hok.fresh (zAm _))
 cases Q:z.cps.all (· < 128)with
 |true=>exact wpAny_pyIter_ascii Q [⇑F,#[⇑F],_,_,A,I,L.kept (t':=F.toks) λb o e=>zAk _ e,FE z t _,[_,zAJ _ I,I,I],K,q]
 |false=>exact wpAny_pyIter_wide Q [⇑F,#[⇑F],_,_,A,I,L.kept (t':=F.toks) λb o e=>zAk _ e,FD z t _,[_,zAJ _ I,I,I],K,q]
def DI{l:List Nat}{C:TG}{A:TS}{D:Uh}{σ:St}{H:Hp}(z:Nat->St->Hp->Prop)(P:z 0 σ H)
  (Q:∀i c σ H,l[i]?=g c->z i σ H->C (.str (tx #[c])) σ H λF S=>A { D with nx:=z (i+1),ct:=z (i+1),bk:=D.nx } F S) (b:∀σ H,z l.length σ H->D.nx σ H) :
  ∃W:Nat->Nat->St->Hp->Prop,(∃m,W 0 m σ H)/\∀i m σ H,W i m σ H ->
   ((YQ (tx l)).stop i H/\D.nx σ H)\/((YQ (tx l)).go i H/\∃N:St->Hp->Prop,(∀L H',N L H'->∃U,U<m/\W (i+1) U L H')/\∀x H',(YQ (tx l)).yld i H x H'->C x σ H' λF S=>A { D with nx:=N,ct:=N,bk:=D.nx } F S):=by
 let f:(tx l).cps.size=l.length:=by simp[tx]
 refine[λi m σ H=>m=l.length-i/\i<=l.length/\z i σ H,[l.length,zZ,zAy _,P],?_];rintro i m σ H ⟨rfl,d,p⟩;by_cases R:i<l.length
 .refine .inr [by show i<(tx l).cps.size;lia,z (i+1),λL H' K=>[l.length-(i+1),Z,I,R,K],λx H' y=>?_]
  let[e,c,E,y]:=y;subst e y;exact Q i c σ _ (by simpa[tx]using E) p
 .have e:i=l.length:=by lia
  subst e;exact .inl [by show(tx l).cps.size<=l.length;lia,b σ H p]
def gN(L:TE):TE:=λN H Q=>L N H λx C=>(∃i,x=.int i/\i.natAbs.log2<1920/\Q (.str (toString i)) C)\/∃z,x=.str z/\z.length<=sizeLine/\Q (.str z) C
def JG{e:nY}(R:PE X e b):PE X (.FormattedValue e (-1) M c) (gN b):=by
 intro W s K H Q P h;refine FormattedValue_plain (Er (R W s K H _ P h) λv f C=>?_);let[x,A,L,F,N]:=C;rcases N with ⟨i,rfl,E,q⟩|⟨z,rfl,U,q⟩
 .let[t,rfl]:=F
  exact formatField_int_small E [.str _,A,L.tok _,[_,I],q]
 .let[t,rfl]:=F
  exact formatField_str (λS d=>[.str z,A,L.tok d,[S,I],q]) U
abbrev TJ:=St->Hp->J->VK->Prop
def PJ(X:Cx)(es:List nY)(t:TJ):Prop:=∀(C:List (T×oH)) (s:lZ) (N:St) (H:Hp) (L:J) (Q:VK),Am X C N H s->t N H L Q->mO (mP X.prog X.w) X.A (joinParts L (evalEach es X.env)) (EP X C N Q) X.xe s
def eJ:TJ:=λx H C Q=>C.length<=sizeLine/\Q (.str C) H
def cN(N:TE)(t:TJ):TJ:=λL H C Q=>N L H λx P=>∃y,x=.str y/\(C++y).length<=sizeLine/\t L P (C++y) Q
def XO:PJ X [] eJ:=λx s x H L x C h=>joinParts_nil [.str L,H,C.tok _,[_,I],h.2] h.1
def F5{e:nY}{es:List nY}{t:TJ}(F:PE X e b)(K:PJ X es t):PJ X (e::es) (cN b t):=by
 intro R s A H W Q N h;show mO _ _ (joinParts W (nU e X.env::evalEach es X.env)) _ _ s;refine joinParts_cons (Er (F R s A H _ N h) λv C U=>?_);let[x,E,S,L,y,z,P,q]:=U;subst z;let[t,rfl]:=L;exact[P,K R C A E _ Q S q]
def YY(t:TJ):TE:=λC H Q=>t C H qB Q
def FH{a b:nY}{es:List nY}{t:TJ}(h:PJ X (a::b::es) t):PE X (.JoinedStr (a::b::es) c) (YY t):=λL s N H Q C q=>JoinedStr_many (h L s N H qB Q C q)
end
structure PU(K:zAa)(C:T):Prop where
 ga:zAD K (.ref C) "__getattribute__"=g (g (.builtin "BaseException.__getattribute__"))
 gt:zAD K (.ref C) "__getattr__"=g M
 cl:zAD K (.ref C) "__class__"=g (g (.builtin "object.__class__"))
 ob:uZ K C (.type "object")=g B
 sb:PySem.W.subIn K (.ref C) (.type "BaseException")=g B
 ic:PySem.W.isClsIn K C=B
 hd:zBH K C=B
 gs:zBZ K (.builtin "object.__class__") "__get__"=g (g (.builtin "getset_descriptor.__get__"))
 tk:yI K (.builtin "object.__class__")=g B
def KE{K}{C}(H:PU K C)(od:Option oH):tX K C od "__class__"=g (.bind (.builtin "getset_descriptor.__get__") (.builtin "object.__class__")):=by
 let[F,z]:=zBG.mp (show(zBP K C).isSome=B from H.ic);unfold tX;rw[z,tQ,H.cl,tQ];simp[H.gs,H.tk]
section
variable {prog:mF} {w:mR} {A:mZ} {E:lV->lZ->Prop} {K:zAa} {x D:T} {ox:oH} {od:Option oH}
def Ze{M}{h}{C}{d}{t:Nat}{os}{nameV}{Q:Unit->lZ->Prop}(P:PU K D)(X:K.In h)(N:zBS h x ox D od)(U:Q () [h,C,d,t,os]) :
  mO M A (vP "BaseException.__getattribute__" [#[.ref x,nameV],[]]) Q E [h,C,d,t,os]:=by
 let L:builtinKind "BaseException.__getattribute__"=g .slot:=by ac_nf
 let z:splitId "BaseException.__getattribute__"=g ("BaseException","__getattribute__"):=by ac_nf
 let H:=F.args_bexc_ga (.ref x) nameV;let S:=N.type (M:=M);let R:=PySem.W.looks_subIn (M:=M) X P.sb;simp only[vP,L,z];refine zCw ?_;unfold wO;refine zCw (S.at (R.at ?_))
 repeat (first|exact U|wp_step)
def C2{s}{Q:Option lV->lZ->Prop}(N:PU K D)(X:K.In s.heap)(H:zBS s.heap x ox D od)(h:Q (g (.ref D)) { s with toks:=s.toks+1 }):mO (mP prog w) A (getAttr? (.ref x) "__class__") Q E s:=by
 let[U,C,d,t,R]:=s;let z:=H.type (M:=mP prog w);let P:=zBz (M:=mP prog w) X N.ga;let S:=zBz (M:=mP prog w) X N.gt;let L:=wW (M:=mP prog w) X H (KE N od);unfold getAttr?;unfold getAttrBy?;unfold getAttrBy;refine zCw (wpAny_mkText (zCw (xS (oE (zCw (z.at (zCw (P.at ?_))))))));show mO _ _ (sP _ _ _ _ _ _) _ _ _;unfold sP;unfold hookBefore;refine zCw (S.at ?_);refine zCw (xS (oE ?_));show mO _ _ (wP _ _ _) _ _ _;unfold wP;refine zCw (qQ (F.excAttr_ValueError.ga.bind (.ref x)) ?_);refine oV (pO F.excAttr_ValueError.ga.plain F.entry_bexc_ga (Ze N X H ?_));unfold wK.«object.__getattribute__»;refine zCw (qQ (a:=(mG x,#[qG "__class__" t])) I ?_);refine zCw (qQ (a:=("__class__" : J)) I ?_);refine zCw (z.at (zCw (L.at ?_)));show mO _ _ (pC #[Value.builtin "object.__class__"] (call (.builtin "getset_descriptor.__get__") #[.builtin "object.__class__",.ref x,.ref D]) >>= ret) _ _ _;refine zCw (oE (oV (PySem.W.class_get X H N.ob ?_)));refine zCx ?_;exact xK I (zCx h)
end
set_option tactic.hygienic true in
def JD{K}{e D}(H:PU K D):PySem.W.KitX K (.ref e) (.ref D) (λh=>∃oe vs,h.get? e=g oe/\oe.cls=.ref D/\oe.dict=M/\oe.data=.fields vs) where
 ty:=λP h x p=>by
  let[oe,vs,R,L,_]:=p;exact Sr R L
 it:=λP h X x=>by
  let[c,F]:=zBG.mp (show(zBP K D).isSome=B from H.ic);unfold zBP at F
  split at F
  .rename_i lk
   intro f o r l k q;unfold isType;unfold loadHead;exact zCw (tF (k _ _ (X _ _ lk)) (zCx q))
  .cases F
 ne:=λh b j S n d X N=>by
  let[c,F]:=zBG.mp (show(zBP K D).isSome=B from H.ic);refine zCa.mpr λq=>?_;let e:D=b:=Value.ref.inj (beq_iff_eq.mp q);subst e;unfold zBP at F
  split at F
  .rename_i lk
   let z:=(X _ _ lk).symm.trans N;cases z
  .cases F
 ca:=λ{W w A E Q s} X p k=>by
  let[oe,vs,R,L,C,U]:=p;refine C2 (od:=M) (ox:=oe) H X [R,L,?_,?_] k
  .unfold zCq
   rw[U]
  .rw[C]
   trivial
def Rq{X:Cx}{x:J}{C:T}(F:Gl X x)(L:X.mg x=g (.ref C))(z:(x==("__debug__" : J))=lX:=by lk):PE X (.Name x b) (tC (.ref C)):=F4 (v:=.ref C) F L I z
structure Te(P:mF)(w:mR)(K:zAa)(mg:J->Option lV)(base:mX)(k:Nat)(x:J)(C:T)(ps:List J)(sp:Sp):Prop where
 ex:∃f fd,Mk K C f/\Ar P w K mg base (Nt P w) k f fd ps sp/\Dc K fd ps []/\mg x=g (.ref C)
def WR(C:T)(sp:Sp)(W:St->XK)(t:TA):TE:=λP H Q=>t P H λR N=>∀x L,N x=M->N L=M->L≠x ->
 sp (.ref x::R) (upd (upd N L (.own x)) x (.ins C L [])) (λv U=>v=.non/\Q (.ref x) U) (W P)
section
variable {X:Cx} {k:Nat} {f C:T} {fd:zCA} {ps:List J} {sp:Sp} {x:J} {p pos:uL} {e:nY} {es:List nY} {t:TA} {W:St->XK}
def GN{pins:List (T×oH)}{σ:St}{H:Hp}{s:lZ}{Q:VK}{us:List lV}{vs:List V}(M:Mk X.K C f)(F:Ar X.prog X.w X.K X.mg X.base (Nt X.prog X.w) k f fd ps sp)(c:Cc (k+1) X.A)(j:Dc X.K fd ps [])
  (K:jU X W) (R:Am X pins σ H s) (r:Bc vs us)
  (h:∀x dx,H x=lW->H dx=lW->dx≠x->sp (.ref x::vs) (upd (upd H dx (.own x)) x (.ins C dx [])) (λv H2=>v=.non/\Q (.ref x) H2) (W σ)) :
  mO (mP X.prog X.w) X.A (call (.ref C) us) (EP X pins σ Q) X.xe s:=by
 let S:=h (⇑s+1) ⇑s (R.hok.fresh (zBW _)) (R.hok.fresh (zAm _)) (zAu (zCc _));let L:=Am.made (C:=C) R;let A:Bc (V.ref (⇑s+1)::vs) (mG (⇑s+1)::us):=.cons I r;let E:(mG (⇑s+1)::us++[]).length=ps.length:=by
  rw[zAA,<- A.length];exact F.len _ _ _ _ S
 let b:=j _ (mG (⇑s+1)::us) L.kIn E;rw[zAA]at b;refine oV (S0 (f:=f) R.kIn M.makes M.init (beq_iff_eq.mp M.fn) (oG (F.run _ X.stack _ _ [mG (⇑s+1)::us,[]] (mG (⇑s+1)::us) _ _ (W σ) (c.make C us [])
  (L.env0.make C us []) b A S) λr q z=>?_))
 cases r with
 |error v=>exact K.pass L z
 |ok U=>
  cases U with
  |ret u=>
   let[v,l,P,o,N,d]:=L.after z;subst N;exact[o,[V.ref (⇑s+1),l,P,I,d]]
  |next=>exact nD z
  |brk=>exact nD z
  |cont=>exact nD z
def Pd(M:Te X.prog X.w X.K X.mg X.base k x C ps sp)(j:Cc (k+1) X.A)(U:jU X W)(N:Gl X x)(A:PA X (e::es) t)
  (z:(x==("__debug__" : J))=lX:=by lk) (d:mH (e::es) X.env=(lX,nU e X.env)::mH es X.env:=by rfl) (K:(oB pos (mH es X.env)).any (·.1)=lX:=by rfl) :
  PE X (.Call (.Name x p) (e::es) [] pos) (WR C sp W t):=by
 intro E s l H Q R h;let[f,fd,c,F,b,S]:=M.ex;refine nQ (Fz R N S ?_ z);refine zBk (h₀:=X.base) R.ok.mod.kin c.kp (Er (A pos E s l H _ R h) λu P ⟨v,o,L,r,q⟩=>[L.kIn,?_]) d K;exact GN c F j b U L r q
end
section
variable {X:Cx}
def Am.no{pins:List (T×oH)}{σ:St}{H:Hp}{s:lZ}{a:T}(C:Am X pins σ H s)(h:s.heap.get? a=M):H a=M:=by
 cases z:H a with
 |none=>rfl
 |some o=>
  let[L,F]:=(C.hok a o z).is;rw[h]at F;cases F
end
def Su(K:zAa)(C f:T)(N:List lV)(H:String):Bool:=match K.lookup C with
 | some [.type t,_,.cls L,P]=>(match P.toList with
  |#[_,_,_,_,g (.builtin n),_]=>t=="type" && (n==H && !L.hasDel)&&(PySem.W.nsOkIn K L.ns&&zAx K L.ns "__init__"== g (g (.ref f)))&&(match L.mro with|.ref c::r=>c==C&&PySem.W.tailIn K N r|_=>lX)
  | _=>lX)
 |_=>lX
set_option tactic.hygienic true in
def OG{K}{h}{N}{m:J->Option lV}{x}{v}(X:K.In h)(C:h.Ns N m)(q:zAx K N x=g (g v)):m x=g v:=by
 let[o,R,S,L,F,_,H]:=C;unfold zAx at q
 split at q
 .rename_i lk
  let z:=(X _ _ lk).symm.trans L;cases z;cases F
  split at q
  .rename_i Q P
   cases q
   rw[<- H];simp only[nsFind,findBy,<- yF,P];rfl
  .split at q<;>cases q
 .cases q
set_option tactic.hygienic true in
def Vh{K}{h}{C f}{A}{R}(X:K.In h)(q:Su K C f A R=B) :
  ∃bm N nm Q bs hdct sn sub ab col dd k0 k1 k2 k3 k5 mN,h.get? C=g (qF nm Q C N bs bm hdct sn sub ab col dd k0 k1 k2 k3 k5 R)/\h.Ns N mN/\mN "__init__"=g (.ref f)/\OwnTail h A bm:=by
 unfold Su at q
 split at q
 .rename_i t dd o b lk
  split at q
  .rename_i k0 k1 k2 k3 n k5 W
   split at q
   .rename_i c r E
    simp only[zAO,beq_iff_eq,yY]at q;let[[[d,P,z],F,L],H,j]:=q;subst d P H;let[nm,bs,U,k,Q,S,sn,sub,ab,col,p]:=o;simp only at E z F L;subst E z;obtain⟨l⟩:=b;simp only at W;subst W;exact[r,k,nm,Q,bs,S,sn,sub,ab,col,dd,k0,k1,k2,k3,k5,_,X _ _ lk,.of_isNs (sK X F),OG X (.of_isNs (sK X F)) L,wV X j]
   .simp at q
  .cases q
 .cases q
section
variable {prog:mF} {w:mR} {A:mZ} {Ex:lV->lZ->Prop} {hp:mX} {gs:Array tM} {dr:Drawn} {tk:Nat} {os:OsState}
variable {nm q:J} {C N fI:T} {bs bm bmB:List lV} {hdct:Bool} {sn:List J} {sub:List lV} {ab:Bool} {col:Option Bool} {dd:Option T} {k0 k1 k2 k3 k5:Option lV} {a newId initId:String} {mN:J->Option lV} {us:List lV} {oI:oH}
def Yp{Q:Fin->lZ->Prop}(L:vA a newId initId bmB)(T:OwnTail hp bmB bm)(F:hp.get? C=g (qF nm q C N bs bm hdct sn sub ab col dd k0 k1 k2 k3 k5 newId))(P:hp.Ns N mN)
  (K:mN "__init__"=g (.ref fI)) (j:hp.get? fI=g oI) (d:oI.cls=.type "function") (f:us.length<=sizeLine)
  (k:∀E e,Heap.MadeExcOf hp E e (.ref C) us->mO (mP prog w) A (call (.ref fI) (.ref e::us)) (λr U=>r=.none/\Q (.done (.ret (.ref e))) U) Ex [E,gs,dr,tk,os]) :
  mO (mP prog w) A (wK.«type.__call__» [.ref C::us,[]]) Q Ex [hp,gs,dr,tk,os]:=by
 repeat (first|with_reducible refine oK F ?_|with_reducible refine wpAny_madeBy_exc F ?_|wp_step)
 refine codeAny_call_builtin_code (tE _ L.quiet) (wpAny_check_new_subT L T F (codeAny_exc_new_subT L T F ?_ f));show mO _ _ _ _ _ _;let W:∀b o,hp.get? b=g o->((hp.push { cls:=.type "tuple",data:=.seq us.toArray }).push { cls:=.ref C,data:=.fields #v[.ref hp.objs.size,.none,.none,.none,.bool lX,.none] }).get? b=g o:=
  λb o z=>zAk _ (zAk _ z)
 let R:=W _ _ F;let X:((hp.push { cls:=.type "tuple",data:=.seq us.toArray }).push { cls:=.ref C,data:=.fields #v[.ref hp.objs.size,.none,.none,.none,.bool lX,.none] }).get? (hp.objs.size+1)
   = g { cls:=.ref C,data:=.fields #v[.ref hp.objs.size,.none,.none,.none,.bool lX,.none] }:=by heap_get
 let S:(mG C::bm).contains (.ref C)=B:=by simp
 unfold wO
 repeat (first|with_reducible refine oK X ?_|(with_reducible refine tS R ?_;rw[S])|wp_step)
 show mO _ _ (typeLookup (.ref C) _) _ _ _;refine wpAny_typeLookup_tail R (P.keeps W) (T.keeps W) L.mroIs L.init.lookup ?_;rw[K];refine oE (zCw ?_);unfold bindSpecial;refine zCw (wpAny_typeOf (T:="function") [_,W _ _ j,d] ?_);rw[mS Y];refine zCx (zCw (nV (k _ (hp.objs.size+1) [W,zBy (zBW _),hp.objs.size,X,zBy (zAm _),?_]) (λr U c=>?_) λx x z=>z))
 .exact zAk _ (yX I I)
 .let[rfl,H]:=c
  wp_walk
  exact H
def T3{Q:lV->lZ->Prop}(S:vA a newId initId bmB)(T:OwnTail hp bmB bm)(z:hp.get? C=g (qF nm q C N bs bm hdct sn sub ab col dd k0 k1 k2 k3 k5 newId))(F:hp.Ns N mN)
  (L:mN "__init__"=g (.ref fI)) (R:hp.get? fI=g oI) (H:oI.cls=.type "function") (X:us.length<=sizeLine)
  (k:∀W e,Heap.MadeExcOf hp W e (.ref C) us->mO (mP prog w) (A.under (.builtin "type.__call__" [.ref C::us,[]])) (call (.ref fI) (.ref e::us)) (λr U=>r=.none/\Q (.ref e) U) Ex [W,gs,dr,tk,os]) :
  mO (mP prog w) A (call (.ref C) us) Q Ex [hp,gs,dr,tk,os]:=by
 let E:=tc_lookup;let K:=tc_bind (.ref C);let P:([hp,gs,dr,tk,os]:lZ).TypeIs (.ref C) "type":=[_,z,I];refine oV (v7 ?_);show mO _ _ (callAny (.ref C) _) _ _ _
 repeat (any_goals (first|assumption|with_reducible refine oK z ?_|wp_step))
 refine[I,codeAny_call_builtin_at (tE _ G) entry_typeCall (wpAny_check_type_call_sub z (Yp S T z F L R H X λW e m=>?_))];exact k W e m
end
section
variable {prog:mF} {w:mR} {A:mZ} {E:lV->lZ->Prop} {K:zAa} {x D:T} {ox:oH} {od:Option oH}
def FJ{s:lZ}{f:J}{v:lV}{ex:Bool}{Q:lV->lZ->Prop}(P:PU K D)(X:K.In s.heap)(N:zBS s.heap x ox D od)(L:tX K D od f=g (.value v))(R:tI v=B)
  (h:Q v { s with toks:=s.toks+1 }):mO (mP prog w) A (yR (.ref x) f ex) Q E s:=by
 let[j,C,d,t,c]:=s;let z:=N.type (M:=mP prog w);let H:=zBz (M:=mP prog w) X P.ga;let W:=zBz (M:=mP prog w) X P.gt;let S:=wW (M:=mP prog w) X N L;unfold yR;unfold getAttrBy;refine zCw (wpAny_mkText (oE (zCw (z.at (zCw (H.at ?_))))));show mO _ _ (sP _ _ _ _ _ _) _ _ _;unfold sP;unfold hookBefore;refine zCw (W.at ?_);refine zCw (xS (oE ?_));let U:∀b:Bool,(b&&onTheHeap (Value.builtin "BaseException.__getattribute__"))=lX:=λb=>by cases b<;>rfl
 unfold callGetattribute;rw[U,mK zAn];unfold wP;refine zCw (qQ (F.excAttr_ValueError.ga.bind (.ref x)) ?_);refine oV (pO F.excAttr_ValueError.ga.plain F.entry_bexc_ga (Ze P X N ?_));unfold wK.«object.__getattribute__»;refine zCw (qQ (a:=(mG x,#[qG f t])) I ?_);refine zCw (qQ (a:=f) I ?_);refine zCw (z.at (zCw (S.at (zCx ?_))));exact xK R h
def M4:List lV->Bool
 |.ref _::r=>M4 r
 |l=>l==#[.type "ValueError",.type "Exception",.type "BaseException",.type "object"]
theorem BN(z:lV):∀{l},M4 l=B->refuseLoop z "__setattr__" l=pure ()
 |.ref c::r,e=>by rw[refuseLoop_ref];exact BN z (l:=r) e
 |.type n::r,e=>by rw[beq_iff_eq.mp (show(pU n::r==_)=B from e)];exact F.store_ValueError.passes z
theorem JH:∀{l},M4 l=B->l.contains (.type "object")=B
 |.ref c::r,e=>by rw[tD,JH (l:=r) e,wL]
 |.type n::r,e=>by rw[beq_iff_eq.mp (show(pU n::r==_)=B from e)];decide
def EI(K:zAa)(D:T):Bool:=(zBP K D).any λC=>M4 C.mro
structure XSet(K:zAa)(D:T)(f:J):Prop where
 sa:zAD K (.ref D) "__setattr__"=g (g (.builtin "object.__setattr__"))
 ov:EI K D=B
 tk:zCi K D f=g M
 fi:zAD K (.ref D) f=g M
 hd:zBH K D=B
def XSet.of{K:zAa}{D:T}{f:J}(L:zAD K (.ref D) "__setattr__"=g (g (.builtin "object.__setattr__")))(C:EI K D=B)(z:zAD K (.ref D) f=g M)(F:zBH K D=B):XSet K D f:=
 [L,C,(by unfold zCi;rw[z];rfl),z,F]
def OL{s:lZ}{f:J}{v:lV}{vs:Array lV}{Q:Unit->lZ->Prop}(N:XSet K D f)(X:K.In s.heap)(S:s.heap.get? x=g ox)(d:ox.cls=.ref D)(j:ox.dict=M)(c:ox.data=.fields vs)
  (h:∀W i,W.get? x=g { ox with dict:=g ⇑s }->W.Ns1 ⇑s (λy=>if y=f then g v else M)->(∀b o,b≠x->s.heap.get? b=g o->W.get? b=g o)->Q () { s with heap:=W,toks:=i }) :
  mO (mP prog w) A (setAttr (.ref x) f v) Q E s:=by
 let P:zBS s.heap x ox D M:=[S,d,(by unfold zCq;rw[c]),(by rw[j];trivial)];refine xG X P N.sa ?_;let[C,H,U]:=tJ N.ov;let L:=F.store_object;let ne:C.mro.isEmpty=lX:=by
  cases z:C.mro with
  |nil=>rw[z]at U;cases U
  |cons _ _=>rfl
 let u:zCf (mP prog w) s.heap (wO (.ref x) (.type "object")) B:=P.type.andThen (PySem.W.looks_mroIn X (by unfold uZ;rw[H,tQ,mK (by rw[ne];decide),JH U]));refine pO L.slot.plain L.entry (@wY (mP prog w) _ _ { s with toks:=s.toks+1 } "object.__setattr__" "object" "__setattr__" (.ref x) #[.str f s.toks,v] [] _ L.kind L.split u (L.args _ _ _) ?_);let mr:zCf (mP prog w) s.heap (mroOf (.ref D)) C.mro:=(sF X H).andThen .now;rw[PySem.W.osa_eq,refuse_eq];refine zCw (zCw (P.type.here (s:={ s with toks:=s.toks+1 }) (zCw (mr.here (s:={ s with toks:=s.toks+1 }) ?_))));rw[BN _ U];refine zCx (zCw (P.type.here (s:={ s with toks:=s.toks+1 }) (zCw ((zBz X N.fi).here (s:={ s with toks:=s.toks+1 }) (zCw (zCx ?_))))));let[aj,ag,af]:=tJ N.hd;let[oc,ai,ah,n]:=ox
 dsimp only at d j c
 subst d j c;refine zCw (zCx (zCw (zCw (tF S ?_))));refine zCw ((sF X ag).here (s:={ s with toks:=s.toks+1 }) ?_);rw[af,mK Y];let q:(s.heap.push { cls:=.type "dict",data:=.dict #v[] }).get? x=g { cls:=.ref D,data:=.fields vs,slots:=n }:=zAk _ S;let k:x≠⇑s:=zAu (zAo S);show mO _ _ (if (!true || !typeHasDict (mG D))=B then pure M else _) _ _ _;rw[mK (by simp[typeHasDict])];refine zCw (wpAny_alloc' (zCw (wpAny_update' q (zCx ?_))));let r:((s.heap.push { cls:=.type "dict",data:=.dict #v[] }).update x λo=>{ cls:=o.cls,dict:=g ⇑s,data:=o.data,slots:=o.slots }).get? ⇑s=g { cls:=.type "dict",data:=.dict #v[] }:=
  (yE _ _ _ _ k.symm).trans (yX I I)
 let nd:((s.heap.push { cls:=.type "dict",data:=.dict #v[] }).update x λo=>{ cls:=o.cls,dict:=g ⇑s,data:=o.data,slots:=o.slots }).Ns ⇑s (λ_=>M):=
  [_,#v[],_,r,I,λe m=>mC m zZ,λ_=>I]
 show mO _ _ (qZ ⇑s (.str f s.toks) f v) _ _ _;unfold qZ zC;refine zCw (zCx (zCw (wpAny_nsSet1 (xF nd) λW l R=>?_)));let[oD,al,ak,ad,t,a]:=l.count (Within.cons f v Within.nil);refine zCw (wpAny_lookBehind ad (by rw[t];exact pastItsLine_dict (zAG a (by show 1<=_;rw[zCy];lia))) ?_)
 wp_walk
 refine h W _ ?_ l λb o nb p=>?_
 .exact(R.2 x k).trans (zAT _ q I)
 .exact(R.2 b (zAu (zAo p))).trans ((yE _ _ _ _ nb).trans (zAk _ p))
end
def MH(H:Hp)(e C:T):Prop:=H e=g (LF e (.ref C) M)\/∃d L,H e=g (LF e (.ref C) (g d))/\H d=g (.xd L)
section
variable {X:Cx} {pins:List (T×oH)} {σ:St} {H:Hp} {s:lZ} {e:T}
def Am.trackO{a:T}{o:HO}(P:Am X pins σ H s)(F:Gh X pins H a)(W:Cg X.prog X.w (upd H a o) s.heap a o):Am X pins σ (upd H a o) s:=by
 let R:∀b u,H b=g u->b≠a:=λb u q=>Ai q F.1;refine[P.ok,P.os,P.bare,[P.base.keep,P.base.slot,λb o q n L=>?_,P.base.there,λb A q=>?_,λb o u q=>?_,λb K q=>?_],P.loc,P.cell,?_,λx c q=>?_,λp E=>?_,λb u q=>?_,P.len]
 .rw[Ak]
  .exact P.base.free b o q n L
  .rintro rfl
   rcases F.2.2.2.1 with z|z
   .exact L z
   .rw[q]at z;cases z
 .have z:=P.base.tups b A q
  rw[Ak (R _ _ z)];exact z
 .have z:=P.base.frzs b o u q
  rw[Ak (R _ _ z)];exact z
 .let[m,z]:=P.base.tbls b K q
  exact[m,by rw[Ak (R _ _ z)];exact z]
 .rw[Ak (oC F.2.1)];exact P.free
 .rw[Ak (F.2.2.2.2.1 x c q)];exact P.freeC x c q
 .let[Q,S,N,U,C]:=P.pin p E
  exact[Q,by rw[Ak (F.2.2.2.2.2 p E)];exact S,N,U,C]
 .by_cases z:b=a
  .subst z
   rw[Aa]at q;cases q;exact W
  .rw[Ak z]at q
   exact(P.hok b u q).stay (λd d d y=>y) (λc y=>by rw[Ak (R _ _ y)];exact y) λc A y=>by rw[Ak (R _ _ y)];exact y
def Am.exc{C:T}{d:Option T}(L:Am X pins σ H s)(h:H e=g (LF e (.ref C) d)):∃oe vs,s.heap.get? e=g oe/\oe.cls=.ref C/\oe.dict=d/\oe.data=.fields vs:=
 (show Cg X.prog X.w H s.heap e (LF e (.ref C) d) from L.hok e _ h).1
def Am.xd{d:T}{L:List (J×V)}(C:Am X pins σ H s)(h:H d=g (.xd L)):∃N,s.heap.Ns1 d N/\∀f,jV (L.lookup f) (N f):=C.hok d _ h
def Am.inst{C:T}(N:Am X pins σ H s)(h:MH H e C):∃oe od,zBS s.heap e oe C od:=by
 rcases h with h|⟨d,U,h,P⟩
 .let[oe,R,Q,F,L,z]:=N.exc h
  exact[oe,M,Q,F,(by unfold zCq;rw[z]),(by rw[L];trivial)]
 .let[oe,R,Q,F,L,z]:=N.exc h
  let[W,n,_]:=N.xd P;let[od,S,_]:=Tw n;exact[oe,g od,Q,F,(by unfold zCq;rw[z]),(by rw[L];exact S)]
end
set_option tactic.hygienic true in
def JE{K}{e D}(C:PU K D):PySem.W.KitX K (.ref e) (.ref D) (λh=>∃oe od,zBS h e oe D od) where
 ty:=λP h x p=>by
  let[oe,od,H]:=p;exact H.type
 it:=λP h X x=>by
  let[L,z]:=zBG.mp (show(zBP K D).isSome=B from C.ic);unfold zBP at z
  split at z
  .rename_i lk
   intro N S F U k q;unfold isType;unfold loadHead;exact zCw (tF (k _ _ (X _ _ lk)) (zCx q))
  .cases z
 ne:=(JD (e:=e) C).ne
 ca:=λ{R w A E Q s} X p k=>by
  let[oe,od,H]:=p;exact C2 C X H k
inductive fR(K:zAa)(xs:List V)(H:Hp)(Q:VK):Prop
 |mk (e C:T) (c:V) (cv:lV) (b:Bool) (e':xs=#[.ref e,c]) (h:MH H e C) (k:PU K C) (r:∀u,Bq c u->u=cv) (k':zAL K (.ref C) cv=g b) (q:Q (.bl b) H)
def Fs{X}{K}(F:X.K=K:=by rfl):Mg X (.builtin "isinstance") (fR K):=by
 subst F;intro A s j H d f Q R r h;let[e,C,c,N,b,rfl,W,P,U,k,q]:=h;let[u,z,rfl,L,S]:=HL r;cases L;cases U z S;exact zBj (JE P) R.kIn (R.inst W) k (λz=>nomatch z) λE=>[.bl b,H,R.tok E,I,q]
section
variable {X:Cx} {x f:J} {C b:T} {pos:uL} {e o:nY} {ta:TE}
inductive bH(K:zAa)(f:J)(x:V)(H1:Hp)(Q:VK):Prop
 |mk (a C d:T) (fs:List (J×V)) (v:V) (e:x=.ref a) (h:H1 a=g (LF a (.ref C) (g d))) (h':H1 d=g (.xd fs)) (k:PU K C) (s:XSet K C f) (l:fs.lookup f=g v) (q:Q v H1)
def TK(K:zAa)(ta:TE)(f:J):TE:=λN H Q=>ta N H λx L=>bH K f x L Q
def RT(c:PE X e ta)(hb:pI e f X.env (nU e X.env)=nU e X.env):PE X (.Attribute e f pos) (TK X.K ta f):=by
 intro A s σ H Q W h;refine BV hb (Er (c A s σ H _ W h) λu s1 y=>?_);let[x,E,F,S,a,C,d,fs,v,k,P,j,R,L,l,q]:=y;subst k;obtain rfl:u=mG a:=S;let[oe,vs,h1,N,K,U]:=F.exc P;let[p,n,r]:=F.xd j;let[od,i,t]:=Tw n;let[w,m,z]:=jV.some_of (v:=v) (o:=p f) (by rw[<- l];exact r f);exact FJ R F.kIn [h1,N,(by unfold zCq;rw[U]),(by rw[K];exact i)] (wD L.hd L.fi I (by rw[t,m])) (Zi z) [v,E,F.tok _,z,q]
structure hZ(K:zAa)(C b:T):Prop where
 ow:∃bm newId initId B,Su K C b bm newId=lY/\vA B newId initId bm
 fn:zBF K (.ref b)=lY
 kp:zAH K (.ref C)=lY
structure PD(P:mF)(w:mR)(K:zAa)(mg:J->Option lV)(base:mX)(k:Nat)(x:J)(C:T)(ps:List J)(sp:Sp):Prop where
 ex:∃f fd,hZ K C f/\Ar P w K mg base Jv k f fd ps sp/\Dc K fd ps []/\mg x=g (.ref C)
end
section
variable {X:Cx}
theorem Wj:∀{ps} {z},Bc (ps.map V.str) z->∃l:List (J×Tok),z=strValues l/\l.map (·.1)=ps
 |[],z,h=>by cases h;exact[[],I,I]
 |p::r,z,h=>by
  cases h with
  |cons a b=>
   let[t,rfl]:=a;let[l,rfl,e]:=Wj b;exact[(p,t)::l,I,by rw[zAr,e]]
def AG{K}(z:X.K=K:=by rfl):Qd X (oF .NotIn) (eO K B):=z▸Lh
end
inductive D where
 |at (v:V)
 |seq (t:Bool) (ds:List D)
mutual
def Ta(K:zAa)(H:Hp):D->V->Prop
 |.at v,x=>x=v/\Hr v=B
 |.seq t L,x=>∃a C,x=.ref a/\(t=B->Da K H a C)/\(t=lX->Al K H a C)/\Reps K H L C
def Reps(K:zAa)(H:Hp):List D->List V->Prop
 |[],C=>C=[]
 |d::N,C=>∃y L,C=y::L/\Ta K H d y/\Reps K H N L
end
mutual
def U2:D->D->Bool
 |.at v,.at u=>Px v u
 |.seq t H,.seq u C=>t==u&&eqDs H C
 |_,_=>lX
def eqDs:List D->List D->Bool
 |[],[]=>B
 |d::H,e::C=>U2 d e&&eqDs H C
 |_,_=>lX
end
mutual
def Qw:D->Nat
 |.at _=>0
 |.seq _ C=>deps C+1
def deps:List D->Nat
 |[]=>0
 |d::C=>max (Qw d) (deps C)
end
theorem Reps.len{K}{H}:∀{ds} {xs},Reps K H ds xs->ds.length=xs.length
 |[],xs,h=>by unfold Reps at h;subst h;rfl
 |d::ds,xs,h=>by
  unfold Reps at h;let[y,C,rfl,_,h]:=h;rw[zAd,zAd,Reps.len h]
def aB(ds es:List D)(j:Nat):Bool:=match ds[j]?,es[j]? with
 |some d,g e=>U2 d e
 |_,_=>B
theorem Nd:∀{ds es},ds.length≠es.length->eqDs ds es=lX
 |[],[],h=>mC I h
 |[],_::_,_=>by unfold eqDs;rfl
 |_::_,[],_=>by unfold eqDs;rfl
 |d::ds,e::es,h=>by
  unfold eqDs;rw[Nd (ds:=ds) (es:=es) λq=>h (by rw[zAd,zAd,q]),sJ]
theorem Yf:∀{ds es},ds.length=es.length->(zAU ds.length).all (aB ds es)=eqDs ds es
 |[],[],_=>by unfold eqDs;rfl
 |[],_::_,h=>by simp at h
 |_::_,[],h=>by simp at h
 |d::ds,e::es,h=>by
  let C:=Yf (ds:=ds) (es:=es) (by simpa using h);unfold eqDs;rw[zAd,wF,sV,rM,<- C];rfl
def Q7{v:V}(h:Hr v=B):Px v v=B:=by
 cases v<;>first|exact mC (show lX=B from h) zAn|rfl|simp[Px]
section
variable {X:Cx} {pins:List (T×oH)} {σ:St} {H:Hp} {s:lZ}
def U0{a:T}{xs ys:List V}(C:Am X pins σ H s)(N:Al X.K H a xs)(F:Da X.K H a ys):False:=by
 let[z,_,p,_]:=C.list N;let[L,_,q,_]:=C.tuple F;exact SeqAt.ne_of_list_tuple p.isList q I
mutual
theorem V4(N:Am X pins σ H s):∀(d e:D) (x:V),Ta X.K H d x->Ta X.K H e x->U2 d e=B
 |.at v,.at u,x,Q,z=>by
  unfold Ta at Q z;let[rfl,f]:=Q;let[rfl,_]:=z;unfold U2;exact Q7 f
 |.at v,.seq t W,x,Q,z=>by
  unfold Ta at Q z;let[rfl,f]:=Q;let[a,R,rfl,_]:=z;exact mC (show lX=B from f) zAn
 |.seq t W,.at u,x,Q,z=>by
  unfold Ta at Q z;let[rfl,f]:=z;let[a,R,rfl,_]:=Q;exact mC (show lX=B from f) zAn
 |.seq t W,.seq u A,x,Q,z=>by
  unfold Ta at Q z;let[a,R,rfl,C,F,S]:=Q;let[b,E,e,U,P,L]:=z;cases e;unfold U2;cases t with
  |true=>
   cases u with
   |true=>
    let e:=N.tuple_inj (C I) (U I);subst e;rw[reps_same N W A R S L];rfl
   |false=>exact(U0 N (P I) (C I)).elim
  |false=>
   cases u with
   |true=>exact(U0 N (F I) (U I)).elim
   |false=>
    let e:=N.list_inj (F I) (P I);subst e;rw[reps_same N W A R S L];rfl
theorem reps_same(C:Am X pins σ H s):∀(ds es:List D) (xs:List V),Reps X.K H ds xs->Reps X.K H es xs->eqDs ds es=B
 |[],[],_,_,_=>by unfold eqDs;rfl
 |[],e::es,xs,P,F=>by
  unfold Reps at P F;subst P;let[_,_,e,_]:=F;cases e
 |d::ds,[],xs,P,F=>by
  unfold Reps at P F;subst F;let[_,_,e,_]:=P;cases e
 |d::ds,e::es,xs,P,F=>by
  unfold Reps at P F;let[y,Q,rfl,P,L]:=P;let[z,S,e,F,N]:=F;cases e;unfold eqDs;rw[V4 C d _ y P F,reps_same C ds es Q L N];rfl
end
def HE{A:mZ}{v:V}{u:lV}{a:T}(f:Hr v=B)(r:Bq v u)(p:s.heap.IsList a c)(z:A.units<pQ):oO A s u (.ref a) lX:=by
 cases v with
 |non=>cases r;exact .none_list p z
 |bl b=>cases r;exact .bool_list b p z
 |int i=>let[t,rfl]:=r;exact .int_list i t p z
 |str i=>let[t,rfl]:=r;exact .str_list i t p z
 |_=>exact mC (show lX=B from f) zAn
def MG{A:mZ}{v:V}{u:lV}{a:T}(f:Hr v=B)(r:Bq v u)(p:s.heap.IsTuple a c)(z:A.units<pQ):oO A s u (.ref a) lX:=by
 cases v with
 |non=>cases r;exact .none_tuple p z
 |bl b=>cases r;exact .bool_tuple b p z
 |int i=>let[t,rfl]:=r;exact .int_tuple i t p z
 |str i=>let[t,rfl]:=r;exact .str_tuple i t p z
 |_=>exact mC (show lX=B from f) zAn
def FM{A:mZ}{v:V}{u:lV}{a:T}(f:Hr v=B)(r:Bq v u)(p:s.heap.IsList a c)(z:A.units<pQ):oO A s (.ref a) u lX:=by
 cases v with
 |non=>cases r;exact .list_none p z
 |bl b=>cases r;exact .list_bool b p z
 |int i=>let[t,rfl]:=r;exact .list_int i t p z
 |str i=>let[t,rfl]:=r;exact .list_str i t p z
 |_=>exact mC (show lX=B from f) zAn
def IF{A:mZ}{v:V}{u:lV}{a:T}(f:Hr v=B)(r:Bq v u)(p:s.heap.IsTuple a c)(z:A.units<pQ):oO A s (.ref a) u lX:=by
 cases v with
 |non=>cases r;exact .tuple_none p z
 |bl b=>cases r;exact .tuple_bool b p z
 |int i=>let[t,rfl]:=r;exact .tuple_int i t p z
 |str i=>let[t,rfl]:=r;exact .tuple_str i t p z
 |_=>exact mC (show lX=B from f) zAn
def DF{A:mZ}{z F:List lV}{e:Nat->Bool}(h:∀j u v,z[j]?=g u->F[j]?=g v->oO A s u v (e j)):∀j (C:j<z.toArray.size) (L:j<F.toArray.size),oO A s z.toArray[j] F.toArray[j] (e j):=λj C L=>by
 rw[zAj]at C L;rw[zCd,zCd];exact h j _ _ (zAi C) (zAi L)
def N4{A:mZ}{a b:T}{xs ys:List V}{ds es:List D}(P:Am X pins σ H s)(S:A.units<pQ)(K:Al X.K H a xs)(c:Al X.K H b ys)(E:Reps X.K H ds xs)(N:Reps X.K H es ys)
  (h:∀z F,Bc xs z->Bc ys F->∀j u v,z[j]?=g u->F[j]?=g v->oO A.in1 s u v (aB ds es j)):xV A s (.ref a) (.ref b) (eqDs ds es)/\rB A s (.ref a) (.ref b) (!eqDs ds es):=by
 let[z,C,Q,d]:=P.list K;let[F,U,R,k]:=P.list c;let f:=C.length;let l:=U.length;let p:=E.len;let o:=N.len;by_cases W:ds.length=es.length
 .rw[<- Yf W,show ds.length=z.toArray.size by rw[zAj];lia]
  let L:z.toArray.size=F.toArray.size:=by rw[zAj,zAj];lia
  exact[SeqAt.RcAt.lists Q.isList R.isList L S (DF (h z F C U)),vG Q.isList R.isList L S (DF (h z F C U))]
 .rw[Nd W]
  let L:(z.toArray.size != F.toArray.size)=B:=by simp only[zAj,bne_iff_ne,ne_eq];lia
  exact[SeqAt.RcAt.lists_lengths Q.isList R.isList L S,sX Q.isList R.isList L S]
def DY{A:mZ}{a b:T}{xs ys:List V}{ds es:List D}(P:Am X pins σ H s)(U:A.units<pQ)(K:Da X.K H a xs)(N:Da X.K H b ys)(E:Reps X.K H ds xs)(C:Reps X.K H es ys)
  (h:∀z F,Bc xs z->Bc ys F->∀j u v,z[j]?=g u->F[j]?=g v->oO A.in1 s u v (aB ds es j)):xV A s (.ref a) (.ref b) (eqDs ds es)/\rB A s (.ref a) (.ref b) (!eqDs ds es):=by
 let[z,Q,S,c]:=P.tuple K;let[F,L,W,f]:=P.tuple N;let d:=Q.length;let k:=L.length;let o:=E.len;let l:=C.len;let e:((zAU (min z.toArray.size F.toArray.size)).all (aB ds es)&&z.toArray.size==F.toArray.size)=eqDs ds es:=by
  rw[zAj,zAj];by_cases R:ds.length=es.length
  .rw[<- Yf R,show min z.length F.length=ds.length by lia,show z.length=F.length by lia]
   simp
  .rw[Nd R]
   let:(z.length==F.length)=lX:=by simp;lia
   rw[this,sJ]
 rw[<- e];exact[SeqAt.RcAt.tuples S W U (DF (h z F Q L)),SeqAt.RcNeAt.tuples S W U (DF (h z F Q L))]
mutual
theorem Cm(Q:Am X pins σ H s):∀(d e:D) (A:mZ) (x y:V) (u v:lV),A.units+Qw d+Qw e<pQ->Ta X.K H d x->Ta X.K H e y->Bq x u->Bq y v->oO A s u v (U2 d e)
 |.at a,.at b,A,x,y,u,v,j,W,z,L,R=>by
  unfold Ta at W z;let[rfl,f]:=W;let[rfl,C]:=z;unfold U2;exact AW L R f C
 |.at a,.seq t k,A,x,y,u,v,j,W,z,L,R=>by
  unfold Ta at W z;let[rfl,f]:=W;let[b,w,rfl,K,N,_]:=z;cases R;unfold U2;cases t with
  |true=>let[_,_,p,_]:=Q.tuple (K I);exact MG f L p Z
  |false=>let[_,_,p,_]:=Q.list (N I);exact HE f L p.isList Z
 |.seq t o,.at b,A,x,y,u,v,j,W,z,L,R=>by
  unfold Ta at W z;let[rfl,f]:=z;let[a,r,rfl,l,E,_]:=W;cases L;unfold U2;cases t with
  |true=>let[_,_,p,_]:=Q.tuple (l I);exact IF f R p Z
  |false=>let[_,_,p,_]:=Q.list (E I);exact FM f R p.isList Z
 |.seq t o,.seq m k,A,x,y,u,v,j,W,z,L,R=>by
  let n:=W;let h:=z;unfold Ta at W z;let[a,r,rfl,l,E,c]:=W;let[b,w,rfl,K,N,P]:=z;cases L;cases R;unfold Qw at j;let U:A.in1.units+deps o+deps k<pQ:=by rw[yN];lia
  let F:A.units<pQ:=by lia
  by_cases S:a=b
  .subst S
   rw[V4 Q _ _ _ n h];exact .same _
  .unfold U2
   cases t with
   |true=>
    cases m with
    |true=>exact .of_refs S (DY Q F (l I) (K I) c P (reps_at Q o k A.in1 r w U c P)).1
    |false=>
     let[_,_,p,_]:=Q.tuple (l I);let[_,_,q,_]:=Q.list (N I);exact .tuple_list p q.isList F
   |false=>
    cases m with
    |true=>
     let[_,_,p,_]:=Q.list (E I);let[_,_,q,_]:=Q.tuple (K I);exact .list_tuple p.isList q F
    |false=>exact .of_refs S (N4 Q F (E I) (N I) c P (reps_at Q o k A.in1 r w U c P)).1
theorem reps_at(P:Am X pins σ H s):∀(ds es:List D) (A:mZ) (xs ys:List V),A.units+deps ds+deps es<pQ->Reps X.K H ds xs->Reps X.K H es ys ->
  ∀F U,Bc xs F->Bc ys U->∀j u v,F[j]?=g u->U[j]?=g v->oO A s u v (aB ds es j)
 |[],es,A,xs,ys,W,R,S,F,U,C,N,j,u,v,Q,L=>by
  unfold Reps at R;subst R;cases C;simp at Q
 |d::ds,[],A,xs,ys,W,R,S,F,U,C,N,j,u,v,Q,L=>by
  unfold Reps at S;subst S;cases N;simp at L
 |d::ds,e::es,A,xs,ys,W,R,S,F,U,C,N,j,u,v,Q,L=>by
  unfold Reps at R S;let[y,f,rfl,l,k]:=R;let[z,q,rfl,K,E]:=S;unfold deps at W;cases C with
  |cons b o=>
   cases N with
   |cons p c=>
    cases j with
    |zero=>
     simp only[List.getElem?_cons_zero,vY]at Q L;subst Q L;exact Cm P d e A y z _ _ Z l K b p
    |succ j=>
     simp only[List.getElem?_cons_succ]at Q L;exact reps_at P ds es A f q Z k E _ _ o c j u v Q L
end
end
section
variable {X:Cx}
inductive aO(K:zAa)(neg:Bool)(x y:V)(H:Hp)(Q:VK):Prop
 |mk (t:Bool) (ds es:List D) (h:Ta K H (.seq t ds) x) (h':Ta K H (.seq t es) y) (d:deps ds+deps es<=40) (q:Q (.bl (if neg then !eqDs ds es else eqDs ds es)) H)
def gK{X:Cx}(F:Bool)(p:X.A.units+64<pQ):Qd X (oF (if F then .NotEq else .Eq)) (aO X.K F):=by
 intro E s r H x y v u Q R P j h;let[t,A,W,d,C,w,q]:=h;unfold Ta at d C;let[a,K,rfl,l,f,U]:=d;let[b,c,rfl,o,k,S]:=C;cases P;cases j;let N:X.A.in1.units+deps A+deps W<pQ:=by rw[yN];lia
 let L:X.A.units<pQ:=by lia
 let z:xV X.A s (.ref a) (.ref b) (eqDs A W)/\rB X.A s (.ref a) (.ref b) (!eqDs A W):=by
  cases t with
  |true=>exact DY R L (l I) (o I) U S (reps_at R A W X.A.in1 K c N U S)
  |false=>exact N4 R L (f I) (k I) U S (reps_at R A W X.A.in1 K c N U S)
 cases F with
 |true=>exact z.2 X.prog X.w _ _ [.bl (!eqDs A W),H,R,I,q]
 |false=>exact z.1 X.prog X.w _ _ [.bl (eqDs A W),H,R,I,q]
def X0{K}(F:X.A.units+64<pQ)(z:X.K=K:=by rfl):Qd X (oF .NotEq) (aO K B):=z▸gK B F
def BP{k:Nat}{A:mZ}(C:Cc k A):A.units+64<pQ:=C.units
def PY{K}(h:X.K=K):YR X (US K):=h▸Kg
def BC{K W}{a}{xs}{d}{A}{σ}{ix:List Nat}{QQ:Hp->Prop}{c}{p}(F:Nat->List V->Hp->Prop)(w:F 0 [] (upd c p (.lst [])))
  (n:∀i ys H,i<=xs.length->F i ys H->H p=g (.lst ys)/\ys.length<=i/\Al K H a xs) (hn:xs.length<=sizeLine)
  (h:∀i x ys H,xs[i]?=g x->F i ys H->∃t y z,x=.ref t/\Da W H t #[y,z]/\d (g y::g z::Ih ix σ) H λb j=>if b=B then A (g y::g z::Ih ix σ) j λv E=>E p=g (.lst ys) /\
   (g y::g z::Ih ix σ)=(g y::g z::Ih ix σ)/\F (i+1) (ys++#[v]) (upd E p (.lst (ys++#[v]))) else(g y::g z::Ih ix σ)=(g y::g z::Ih ix σ)/\F (i+1) ys j)
  (u:∀ys H,F xs.length ys H->QQ H) :
  Xj (FR W 2 (Sn (Hy 0) (Sn (Hy 1) KN))) d A 2 ix σ (WP K a) p c QQ:=by
 refine[λi m ys Q U=>m=xs.length-i/\i<=xs.length/\(∃o f,Q=o::f::Ih ix σ)/\F i ys U,[xs.length,zZ,zAy _,[M,M,I],w],?_];rintro i m ys Q U ⟨rfl,l,⟨o,f,rfl⟩,pv⟩;let[N,aa,L]:=n i ys U l pv;refine[N,?_];by_cases S:i<xs.length
 .refine .inr [[xs,xs[i],L,by simp[S]],Z,λx H3 C=>?_]
  let[e,C]:=C;subst e;let[t,y,z,r,s,q]:=h i x ys _ (C xs L) pv;subst r;refine[λP R k=>R=(g y::g z::Ih ix σ)/\F (i+1) P k,λP R k ⟨e,q⟩=>[xs.length-(i+1),Z,I,S,[_,_,e],q],?_];exact[t,_,I,s,I,_,_,I,_,_,I,I,q]
 .have e:i=xs.length:=by lia
  subst e;exact .inl [[xs,L,zAm _],u ys U pv]
end
structure NP(K:zAa)(B:T)(m:J)(f:T):Prop where
 ga:zBZ K (.ref B) "__getattribute__"=g (g (.builtin "type.__getattribute__"))
 rd:tW K B (.type "type")=lY
 fc:tY K (.ref B) (.type "type") m=g (.val (.ref f))
 kp:zAH K (.ref f)=lY
section
variable {X:Cx} {k:Nat} {m x:J} {ps:List J} {sp:Sp} {e:nY} {es:List nY} {p apos pos:uL} {t:TA} {W:St->XK}
def Uy{A:mZ}{E:lV->lZ->Prop}{pins:List (T×oH)}{σ:St}{H:Hp}{s:lZ}{B L:T}{pl:vH Bool}{Q:lV×List lV->lZ->Prop}(C:Am X pins σ H s)(N:NP X.K B m L)(h:Q (.ref L,[]) { s with toks:=s.toks+1 }) :
  mO (mP X.prog X.w) A (pS (.ref B) m pl) Q E s:=PySem.W.method_cls C.kIn N.ga (PySem.W.cls_value C.kIn N.rd N.fc I h)
structure fE(P:mF)(w:mR)(K:zAa)(mg:J->Option lV)(base:mX)(k:Nat)(x m:J)(ps:List J)(sp:Sp):Prop where
 ex:∃B f fd,Ar P w K mg base Jv k f fd ps sp/\Dc K fd ps []/\NP K B m f/\mg x=g (.ref B)
def bP{pl:vH Bool}(C:fE X.prog X.w X.K X.mg X.base k x m ps sp)(q:Cc k X.A)(l:Gl X x)(E:PA X (e::es) t)(z:(x==("__debug__" : J))=lX:=by lk)
  (c:mH (e::es) X.env=(lX,nU e X.env)::mH es X.env:=by rfl) (d:(oB pos (mH es X.env)).any (·.1)=lX:=by rfl)
  (o:nU (.Call (.Attribute (.Name x p) m apos) (e::es) [] pos) X.env=(do
   let j <- nU (.Name x p) X.env
   qP apos.atName
   let (f,first) <- pC #[j] (pS j m pl)
   qX pos f first (oB pos (mH (e::es) X.env)) (qC pos (oQ [] X.env))):=by rfl) :
  PE X (.Call (.Attribute (.Name x p) m apos) (e::es) [] pos) (DP sp [] E0 t):=by
 intro K s u H Q A h;let[P,f,v,F,b,R,S]:=C.ex;refine zBv (pl:=pl) (Fz A l S ?_ z) o;refine Uy A R ?_;let U:=A.tok (s.toks+1);refine zBk (first:=[]) (h₀:=X.base) A.ok.mod.kin R.kp (Er (E pos K _ u H _ U h) λus y ⟨vs,w,L,r,N⟩=>[L.kIn,?_]) c d;exact L1 (us:=us) (vs:=vs) F q b .nil Xo L r N
structure NI(P:mF)(w:mR)(K:zAa)(mg:J->Option lV)(base:mX)(k:Nat)(x m:J)(ps:List J)(sp:Sp):Prop where
 ex:∃B f fd,Ar P w K mg base (Nt P w) k f fd ps sp/\Dc K fd ps []/\NP K B m f/\mg x=g (.ref B)
def Xh{pl:vH Bool}(C:NI X.prog X.w X.K X.mg X.base k x m ps sp)(u:Cc k X.A)(N:jU X W)(l:Gl X x)(E:PA X (e::es) t)(z:(x==("__debug__" : J))=lX:=by lk)
  (c:mH (e::es) X.env=(lX,nU e X.env)::mH es X.env:=by rfl) (d:(oB pos (mH es X.env)).any (·.1)=lX:=by rfl)
  (q:nU (.Call (.Attribute (.Name x p) m apos) (e::es) [] pos) X.env=(do
   let j <- nU (.Name x p) X.env
   qP apos.atName
   let (f,first) <- pC #[j] (pS j m pl)
   qX pos f first (oB pos (mH (e::es) X.env)) (qC pos (oQ [] X.env))):=by rfl) :
  PE X (.Call (.Attribute (.Name x p) m apos) (e::es) [] pos) (X1 sp W t):=by
 intro K s v H Q A h;let[P,f,w,F,b,R,S]:=C.ex;refine zBv (pl:=pl) (Fz A l S ?_ z) q;refine Uy A R ?_;let U:=A.tok (s.toks+1);refine zBk (first:=[]) (h₀:=X.base) A.ok.mod.kin R.kp (Er (E pos K _ v H _ U h) λy i ⟨a,n,L,r,o⟩=>[L.kIn,?_]) c d;exact Wc F u b N L r o
inductive VI(Fam:T->Prop)(m:J)(x:V)(H:Hp)(R:T->T->Prop):Prop
 |mk (a C dx:T) (fs:List (J×V)) (e:x=.ref a) (h:H a=g (.ins C dx fs)) (f:Fam C) (n:fs.lookup m=M) (q:R a C)
def XC(Fam:T->Prop)(m:J)(sp:T->Sp)(R:TE)(t:TA):TE:=λL H Q=>R L H λx N=>VI Fam m x N λa C=>t L N λP U=>sp C (.ref a::P) U Q E0
structure KF(P:mF)(w:mR)(K:zAa)(mg:J->Option lV)(base:mX)(k:Nat)(Fam:T->Prop)(m:J)(ps:List J)(sp:T->Sp):Prop where
 ex:∀C,Fam C->FF P w K mg base k C m ps (sp C)
def Na{Fam:T->Prop}{z:T->Sp}{o:nY}{pl:vH Bool}(M:KF X.prog X.w X.K X.mg X.base k Fam m ps z)(v:Cc k X.A)(P:PE X o r)
  (d:nU (.Call (.Attribute o m apos) [] [] pos) X.env=(do
   let K <- nU o X.env
   qP apos.atName
   let (f,first) <- pC #[K] (pS K m pl)
   qX pos f first (oB pos (mH [] X.env)) (qC pos (oQ [] X.env))):=by rfl) :
  PE X (.Call (.Attribute o m apos) [] [] pos) (XC Fam m z r AH):=by
 intro E s w H Q R h;refine zBv (pl:=pl) (Er (P E s w H _ R h) λu i j=>?_) d;let[x,y,L,N,a,C,dx,fs,c,U,S,l,q]:=j;subst c;obtain rfl:u=mG a:=N;let[f,n,F,b,A]:=(M.ex C S).ex;refine Lw L U (M.ex C S).cl A l ?_;exact zCg (first:=#[.ref a]) L.kIn A.kp (L1 (us:=#[.ref a]) (vs:=#[.ref a]) F v b .nil Xo L (.cons I .nil) q)
end
def YT(K:zAa)(C:J->Option lV)(x:J)(xs:List V):Prop:=∃a,C x=g (.ref a)/\∀H,Da K H a xs
def DJ{X:Cx}{x:J}{xs:List V}(h:YT X.K X.mg x xs)(L:Gl X x)(z:(x==("__debug__" : J))=lX:=by lk):PE X (.Name x b) (λy H Q=>∀a,Da X.K H a xs->Q (.ref a) H):=by
 let[a,e,F]:=h;exactλy y y H y C q=>Fz C L e [.ref a,H,C,I,q a (F H)] z
section
theorem Ik{z:J}{B:Nat}:∀{ps},(∀y∈ps,y.length<=B)->(mE z ps).length<=ps.length*(B+z.length)
 |[],_=>by show 0<=_;lia
 |#[x],h=>by
  let:=h x zAl;show x.length<=1*(B+z.length)
  lia
 |x::y::r,h=>by
  let H:=h x zAl;let C:=Ik (z:=z) (B:=B) (ps:=y::r) λq L=>h q (zAh _ L);show(x++z++mE z (y::r)).length<=_;let F:(x++z++mE z (y::r)).length=x.length+z.length+(mE z (y::r)).length:=by
   show(x.cps++z.cps++(mE z (y::r)).cps).size=_;rw[tN,tN];rfl
  rw[F];let e:(x::y::r).length*(B+z.length)=(y::r).length*(B+z.length)+(B+z.length):=by rw[zAd,Nat.succ_mul]
  lia
end
structure fX(K:zAa)(mg:J->Option lV)(x:J)(C:T):Prop where
 makes:zCj K C=B
 init:zAD K (.ref C) "__init__"=g (g (.builtin "object.__init__"))
 kp:zAH K (.ref C)=B
 at_:mg x=g (.ref C)
def eK(C:T):TE:=λx H Q=>∀y L,H y=M->H L=M->L≠y->Q (.ref y) (upd (upd H L (.own y)) y (.ins C L []))
def L5{X:Cx}{x:J}{C:T}{p E:uL}(M:fX X.K X.mg x C)(c:Gl X x)(F:(x==("__debug__" : J))=lX:=by lk):PE X (.Call (.Name x p) [] [] E) (eK C):=by
 intro K s k H Q W h;refine nQ (Fz W c M.at_ ?_ F);refine zCg W.kIn M.kp (oV (GV W.kIn M.makes M.init (λz=>zCf.of_pure (PySem.W.oi_bind z)) ?_));let A:=h (⇑s+1) ⇑s (W.hok.fresh (zBW _)) (W.hok.fresh (zAm _)) (zAu (zCc _));let S:=Am.made (C:=C) W;let P:=tH (M:=mP X.prog X.w) W.kIn M.makes;let R:((s.heap.push zAS).push (zAZ C ⇑s)).get? (⇑s+1)=g (zAZ C ⇑s):=by
  let e:(s.heap.push zAS).objs.size=⇑s+1:=by rw[zCp]
  rw[<- e];exact zAJ _ I
 let f:zCf (mP X.prog X.w) ((s.heap.push zAS).push (zAZ C ⇑s)) (typeOf (.ref (⇑s+1))) (.ref C):=(zCf.ld R).andThen .now;let U:zCf (mP X.prog X.w) ((s.heap.push zAS).push (zAZ C ⇑s)) (wO (.ref (⇑s+1)) (.type "object")) B:=f.andThen (P.top.keeps λb o e=>zAk _ (zAk _ e));let[L,N,d,t,j]:=s;refine pO PySem.W.oi_plain PySem.W.entry_oi (@wY (mP X.prog X.w) _ _ _ "object.__init__" "object" "__init__" (.ref (L.objs.size+1)) [] [] _ PySem.W.oi_kind PySem.W.oi_split U (PySem.W.oi_args (.ref (L.objs.size+1))) ?_);rw[PySem.W.oi_run];exact zCx (And.intro I [V.ref (L.objs.size+1),_,S,I,A])
end L2
namespace L2
open PySem PySem.Spec PyProof.Rows PySem.W
section
variable {X:Cx}
def eW(K:zAa)(t:TE):TT:=λL H Q=>t L H λx C=>∃k,aS K x C k/\Q k C
def LW{e:nY}{t:TE}(h:PE X e t)(F:∀z,yQ e X.env z=(do let v <- z;qP e.pos;pC #[v] (truthy v)):=by intro _;rfl):PT X e (eW X.K t):=by
 intro R s W H Q N C;exact isTrue_plain (Er (h R s W H _ N C) λv U ⟨x,A,P,L,S⟩=>UT R U W A x v Q P L S) (F _)
end
end L2
namespace L2
open PySem PySem.Spec PyProof.Rows
structure kU(K:zAa)(x qual:J)(st:nZ)(f:T)(fd:zCA):Prop where
 ex:∃(oc:lV) (od:Option T) (dV kV doc pm:lV) (an:Option T) (cdv ct:lV) (osl:Array (Option lV)),
  fd=zAM x qual (Fa st) (Dn st) (Av st) dV kV doc pm an cdv ct/\K.lookup f=g [oc,od,.func fd,osl]/\zAX K cdv qual=B
 kp:zAH K (.ref f)=B
section
variable {K:zAa}
def DC{x qual}{st}{f}{H}{od S}{F}{U kV z C N L}(l:K.lookup f=g [H,od,.func (zAM x qual (Fa st) (Dn st) (Av st) U kV z C S N L),F])
  (c:zAX K N qual=B) (k:zAH K (.ref f)=B):kU K x qual st f (zAM x qual (Fa st) (Dn st) (Av st) U kV z C S N L):=[[H,od,U,kV,z,C,S,N,L,F,I,l,c],k]
end
def Sh{K A:zAa}{a:T}{xs:List V}{S C:Nat}{X:TS}{D:Uh}{σ:St}{H:Hp}(F:Nat->St->Hp->Prop)(P:F 0 σ H)(f:∀i σ H,i<=xs.length->F i σ H->Al K H a xs)
  (o:∀i x σ H t,xs[i]?=g x->F i σ H->H t=M->X { D with nx:=F (i+1),ct:=F (i+1),bk:=D.nx } ((σ.set S (g (.int i))).set C (g x)) (upd H t (.tup #[.int i,x]))) (k:∀σ H,F xs.length σ H->D.nx σ H) :
  ∃W:Nat->Nat->St->Hp->Prop,(∃m,W 0 m σ H)/\∀i m σ H,W i m σ H ->
   ((bB K a).stop i H/\D.nx σ H)\/((bB K a).go i H/\∃N:St->Hp->Prop,(∀Q H',N Q H'->∃U,U<m/\W (i+1) U Q H')/\∀x H',(bB K a).yld i H x H'->FR A 2 (Sn (Hy S) (Sn (Hy C) KN)) x σ H' λR H2=>X { D with nx:=N,ct:=N,bk:=D.nx } R H2):=by
 refine[λi m σ H=>m=xs.length-i/\i<=xs.length/\F i σ H,[xs.length,zZ,zAy _,P],?_];rintro i m σ H ⟨rfl,b,p⟩;let q:=f i σ H b p;by_cases L:i<xs.length
 .refine .inr [[xs,xs[i],q,by simp[L]],F (i+1),λQ H' E=>[xs.length-(i+1),zY,I,L,E],λx H' y=>?_]
  let[t,z,c,d,j,l]:=y;subst c l;exact[t,_,I,Da.of Aa,I,_,_,I,_,_,I,I,o i z σ H t (j xs q) p d]
 .obtain rfl:i=xs.length:=by omega
  exact .inl [[xs,q,zAm _],k σ H p]
def YK(K:zAa)(a b:T):It:=
 [λi H=>∃C L x y,Al K H a C/\Al K H b L/\C[i]?=g x/\L[i]?=g y,
   λi H v N=>∃t x y,v=.ref t/\H t=M/\(∀C,Al K H a C->C[i]?=g x)/\(∀L,Al K H b L->L[i]?=g y)/\N=upd H t (.tup #[x,y]),
   λi H=>∃C L,Al K H a C/\Al K H b L/\(C.length<=i\/L.length<=i)]
structure Zp(z u o i j:T):Prop where
 uz:u≠z
 oz:o≠z
 iz:i≠z
 jz:j≠z
 uo:u≠o
 ui:u≠i
 uj:u≠j
 oi:o≠i
 oj:o≠j
 ij:i≠j
def VQ(n:Nat):Zp (n+4) (n+2) (n+3) n (n+1):=
 [zAu Z,zAu Z,zAu Z,zAu Z,zAu Z,zBB Z,zBB Z,zBB Z,zBB Z,zAu Z]
def SW(a b z u o i j:T)(k:Nat)(h:mX):Prop:=IsZip h z u o .none/\IsPair h u (.ref i) (.ref j)/\(∃x y,IsPair h o x y)/\h.IsListIter i a k/\h.IsListIter j b k
def Zo{a b z u o i j:T}{k:Nat}{h:mX}{xs ys:Array lV}(D:Zp z u o i j)(st:SW a b z u o i j k h)(U:h.IsList a xs)(L:h.IsList b ys):ZipApart z u o i j a b:=by
 let[W,X,[x,y,E],[F,K,w,_],[t,Q,r,_]]:=st;let P:∀{c d:T} {p q:oH} {R:Array lV},h.IsList c R->h.get? d=g q->q.cls≠.type "list"->c≠d:=λ{c d p q R} s v m e=>by
  let[n,f,l,_]:=s;rw[e,v]at f;cases f;exact m l
 let H:(pU "zip")≠.type "list":=by ac_nf
 let C:(pU "tuple")≠.type "list":=by ac_nf
 let A:(pU "list_iterator")≠.type "list":=by ac_nf
 let N:F.cls≠.type "list":=by rw[w];exact A
 let S:t.cls≠.type "list":=by rw[r];exact A
 constructor<;>first
  |exact D.uz|exact D.oz|exact D.iz|exact D.jz|exact D.uo|exact D.ui|exact D.uj|exact D.oi|exact D.oj|exact D.ij
  |exact P (p:=F) U W H|exact P (p:=F) L W H|exact P (p:=F) U E C|exact P (p:=F) L E C|exact P (p:=F) U X C|exact P (p:=F) L X C
  |exact P (p:=F) U K N|exact P (p:=F) L K N|exact P (p:=F) U Q S|exact P (p:=F) L Q S
def KP{P}{w}{K}{aj}{n:Nat}{tp}(a b z u o i j:T)(D:Zp z u o i j) :
  D4 P w K (.Tuple aj n tp) (YK K a b) #[z,u,o,i,j] z (SW a b z u o i j) where
 mem:=by simp
 obj:=λk h st c F=>by
  let[hz,hu,[x,y,ho],[oi,ei,ci,di],[oj,ej,cj,dj]]:=st;simp only[zAg,zAV,pR]at F;rcases F with rfl|rfl|rfl|rfl|rfl
  .exact[_,hz,λv q=>by
    let q':xQ _=uN v:=q;cases q']
  .exact[_,hu,λv q=>by
    let q':Data.seq _ _=uN v:=q;cases q']
  .exact[_,ho,λv q=>by
    let q':Data.seq _ _=uN v:=q;cases q']
  .exact[oi,ei,λv q=>by rw[di]at q;cases q]
  .exact[oj,ej,λv q=>by rw[dj]at q;cases q]
 keep:=λk h h' st kk=>by
  let[hz,hu,[x,y,ho],h1,h2]:=st;exact[kk z zZ _ hz,kk u zZ _ hu,[x,y,kk o zZ _ ho],h1.at λW e=>kk i zZ W e,h2.at λW e=>kk j zZ W e]
 item:=by
  intro X hP hw hK F k a0 s σ H E Q hf st hg;subst hP hw hK;let[xs,ys,x,y,ad,ac,hx,hy]:=hg;let[aq,rv,p,hz]:=Q.list ad;let[al,ag,p',am]:=Q.list ac;let[v,hv,ru]:=rv.get hx;let[v',ap,an]:=ag.get hy;let DD:=Zo D st p.isList p'.isList;let[sz,su,[x0,y0,so],s1,s2]:=id st;let A:=hf z zZ;let fu:=hf u zZ;let t:=hf o zZ;let f:=hf i zZ;let l:=hf j zZ;refine wpAny_pyNext_zip_item DD sz su so s1 s2 p.isList p'.isList (x:=v) (y:=v') (by simpa using hv) (by simpa using ap) λh1 a1 a2 a3 a4 a5 a6 hk=>[_,I,?_];refine wpAny_letOwnedTupleGo_zip a1 λh2 ar ak=>?_;let N:zBa z h1 h2:=ak;let ah:z<⇑s:=zAo sz;let aa:H ⇑s=M:=Q.hok.fresh (zAm _);let up:∀c W,c≠z->c≠o->c≠i->c≠j->s.heap.get? c=g W->h2.get? c=g W:=λc W c1 c2 c3 c4 q=>(N.2 c c1).trans (hk c W c1 c2 c3 c4 q);let S:∀c,c∉#[z,o,i,j]->c≠z/\c≠o/\c≠i/\c≠j:=λc F=>by
   simp only[zAg,zAV,pR,xT]at F;exact F
  let U:∀c W,H c=g W->c≠z/\c≠o/\c≠i/\c≠j:=λc W q=>
   [λe=>by(rw[e,A.1]at q;cases q),λe=>by(rw[e,t.1]at q;cases q),λe=>by(rw[e,f.1]at q;cases q),λe=>by(rw[e,l.1]at q;cases q)]
  let C:∀c W,c∉#[z,o,i,j]->s.heap.get? c=g W->h2.get? c=g W:=λc W F q=>up c W (S c F).1 (S c F).2.1 (S c F).2.2.1 (S c F).2.2.2 q;let ab:∀c W L,H c=g L->s.heap.get? c=g W->h2.get? c=g W:=λc W L F q=>up c W (U c L F).1 (U c L F).2.1 (U c L F).2.2.1 (U c L F).2.2.2 q;let ai:h2.get? ⇑s=g { cls:=.type "tuple",data:=.seq #v[v,v'] }:=(N.2 _ (zBB ah)).trans a5;let I1:Am X a0 σ (upd H ⇑s (.tup #[x,y])) { s with heap:=h2,gens:=s.gens,drawn:=s.drawn,toks:=s.toks }:=by
   refine Q.step (ch:=#[z,o,i,j]) (λc F=>?_) (λc W _ _ F q _=>C c W F q) (λc W _ _ F q _=>[W.slots,C c W F q]) (λc W _ q n=>by rw[Ak (zAu (zAo q))];exact n)
    (λc W F q=>[W,C c W F q]) (λc xs q=>by rw[Ak (Ai q aa)];exact q) (λc W u q=>by rw[Ak (Ai q aa)];exact q) (λc ps q=>[#v[],by rw[Ak (Ai q aa),q];simp])
    (λm hm=>?_) (λc W q=>?_) Q.bare
   .simp only[zAg,zAV,pR]at F
    rcases F with rfl|rfl|rfl|rfl
    .exact[A.2.2.2.1,A.2.1,A.2.2.2.2.1,A.2.2.2.2.2]
    .exact[t.2.2.2.1,t.2.1,t.2.2.2.2.1,t.2.2.2.2.2]
    .exact[f.2.2.2.1,f.2.1,f.2.2.2.2.1,f.2.2.2.2.2]
    .exact[l.2.2.2.1,l.2.1,l.2.2.2.2.1,l.2.2.2.2.2]
   .let[W,es,ep,af,r]:=hm
    exact[W,es,ep,up _ W (oC A.2.1) (oC t.2.1) (oC f.2.1) (oC l.2.1) af,r]
   .by_cases hb:c=⇑s
    .subst hb
     rw[Aa]at q;cases q;exact[Ck (by show 2<=1000;decide),#[v,v'],.cons ru (.cons an .nil),_,ai,I,_,I]
    .rw[Ak hb]at q
     refine(Q.hok c W q).stay (λd w' hd R=>?_) (λd R=>by rw[Ak (Ai R aa)];exact R) (λd zs R=>by rw[Ak (Ai R aa)];exact R);rcases hd with rfl|hd
     .exact ab _ w' _ q R
     .exact ab _ w' _ hd R
  refine[.ref ⇑s,_,I1,I,[_,x,y,I,aa,λzs ae=>by rw[Q.list_inj ae ad];exact hx,λzs ae=>by rw[Q.list_inj ae ac];exact hy,I],[ar,?_,[v,v',?_],?_,?_],λc F=>?_]
  .exact(N.2 u D.uz).trans (hk u _ D.uz D.uo D.ui D.uj su)
  .exact(N.2 o D.oz).trans a2
  .exact a3.at λW q=>(N.2 i D.iz).trans q
  .exact a4.at λW q=>(N.2 j D.jz).trans q
  .have hl:c<⇑s:=by
    simp only[zAg,zAV,pR]at F;rcases F with rfl|rfl|rfl|rfl|rfl
    .exact zAo sz
    .exact zAo su
    .exact zAo so
    .let[_,q,_]:=s1;exact zAo q
    .let[_,q,_]:=s2;exact zAo q
   rw[Ak (zAu hl)];exact(hf c F).1
 done:=by
  intro X hP hw hK F k a0 s σ H E Q hf st hg;subst hP hw hK;let[xs,ys,ad,ac,ao]:=hg;let[aq,rv,p,hz]:=Q.list ad;let[al,ag,p',am]:=Q.list ac;let DD:=Zo D st p.isList p'.isList;let[sz,su,[x0,y0,so],s1,s2]:=id st;let A:=hf z zZ;let t:=hf o zZ;let f:=hf i zZ;let l:=hf j zZ;let hl:=rv.length;let as:=ag.length;refine wpAny_pyNext_zip_end (Q.ok.hd F) DD sz su so s1 s2 p.isList p'.isList ?_ λh' hk=>[I,?_]
  .rcases ao with e|e
   .exact .inl (by simp;lia)
   .exact .inr (by simp;lia)
  .have S:∀c,c∉#[z,o,i,j]->c≠z/\c≠o/\c≠i/\c≠j:=λc F=>by
    simp only[zAg,zAV,pR,xT]at F;exact F
   let U:∀c W,H c=g W->c≠z/\c≠o/\c≠i/\c≠j:=λc W q=>
    [λe=>by(rw[e,A.1]at q;cases q),λe=>by(rw[e,t.1]at q;cases q),λe=>by(rw[e,f.1]at q;cases q),λe=>by(rw[e,l.1]at q;cases q)]
   let C:∀c W,c∉#[z,o,i,j]->s.heap.get? c=g W->h'.get? c=g W:=λc W F q=>hk c W (S c F).1 (S c F).2.1 (S c F).2.2.1 (S c F).2.2.2 q;let ab:∀c W L,H c=g L->s.heap.get? c=g W->h'.get? c=g W:=λc W L F q=>hk c W (U c L F).1 (U c L F).2.1 (U c L F).2.2.1 (U c L F).2.2.2 q;refine Q.step (H':=H) (ch:=#[z,o,i,j]) (λc F=>?_) (λc W _ _ F q _=>C c W F q) (λc W _ _ F q _=>[W.slots,C c W F q]) (λc W _ q n=>n)
    (λc W F q=>[W,C c W F q]) (λc xs q=>q) (λc W u q=>q) (λc ps q=>[#v[],by rw[q];simp])
    (λm hm=>?_) (λc W q=>?_) Q.bare
   .simp only[zAg,zAV,pR]at F
    rcases F with rfl|rfl|rfl|rfl
    .exact[A.2.2.2.1,A.2.1,A.2.2.2.2.1,A.2.2.2.2.2]
    .exact[t.2.2.2.1,t.2.1,t.2.2.2.2.1,t.2.2.2.2.2]
    .exact[f.2.2.2.1,f.2.1,f.2.2.2.2.1,f.2.2.2.2.2]
    .exact[l.2.2.2.1,l.2.1,l.2.2.2.2.1,l.2.2.2.2.2]
   .let[W,es,ep,af,r]:=hm
    exact[W,es,ep,hk _ W (oC A.2.1) (oC t.2.1) (oC f.2.1) (oC l.2.1) af,r]
   .refine(Q.hok c W q).stay (λd w' hd R=>?_) (λd R=>R) (λd zs R=>R)
    rcases hd with rfl|hd
    .exact ab _ w' _ q R
    .exact ab _ w' _ hd R
 self:=λ_ _ _ _ _ st h=>wpAny_pyIter_zip st.1 h
def eY(K:zAa)(U:TA):TI:=λN H R=>U N H λP C=>∃a b,P=#[.ref a,.ref b]/\(∃L,Al K C a L)/\(∃Q,Al K C b Q)/\R (YK K a b) C
def MJ{X}{S F}{l}{p A r}{L}{n:Nat}(e:Gl X "zip")(hm:X.mg "zip"=M)(y:PA X #[S,F] l)(hs:mH #[S,F] X.env=#[(lX,nU S X.env),(lX,nU F X.env)]:=by rfl)(E:mH #[F] X.env=#[(lX,nU F X.env)]:=by rfl) :
  PI X (.Tuple L n r) (.Call (.Name "zip" p) #[S,F] [] A) (eY X.K l):=by
 intro W s o H R Q h;refine Call_ (Pe Q e hm (show zCz "zip"=g (.type "zip") from rfl) (oN (Er (y A W s o H _ Q h) λus z h9=>?_) (by rw[hs,E]) (by rw[E];rfl)));let[vs,d,N,x,q1]:=h9;let[a,b,w,[xs,P],[ys,C],q]:=q1;subst w;cases x with
 |cons m K=>
  cases K with
  |cons rb K=>
   cases K
   cases m
   cases rb
   let[aa,rv,u,hz]:=N.list P;let[ab,ac,U,ad]:=N.list C;refine call_zip_2 u.isList U.isList λh' j i t v b5 b6 hk=>?_;refine wpAny_pyIter_zip j ?_;let I2:Am X W o d { z with heap:=h' }:=N.kept (t':=z.toks) hk;refine[_,#[⇑z+4,⇑z+2,⇑z+3,⇑z,⇑z+1],_,_,d,I,I2,KP a b (⇑z+4) (⇑z+2) (⇑z+3) ⇑z (⇑z+1) (VQ _),[j,i,[_,_,t],v,b5],λc k=>?_,q];let f:⇑z<=c:=by
    simp only[zAg,zAV,pR]at k;rcases k with rfl|rfl|rfl|rfl|rfl<;>lia
   exact N.fpOk f (N.hok.fresh f)
def RW{K F:zAa}{a b:T}{xs ys:List V}{U E:Nat}{A:TS}{D:Uh}{σ:St}{H:Hp}(C:Nat->St->Hp->Prop)(u:C 0 σ H)(l:∀i σ H,i<=min xs.length ys.length->C i σ H->Al K H a xs/\Al K H b ys)
  (h:∀i x y σ H t,xs[i]?=g x->ys[i]?=g y->C i σ H->H t=M->A { D with nx:=C (i+1),ct:=C (i+1),bk:=D.nx } ((σ.set U (g x)).set E (g y)) (upd H t (.tup #[x,y]))) (r:∀σ H,C (min xs.length ys.length) σ H->D.nx σ H) :
  ∃W:Nat->Nat->St->Hp->Prop,(∃m,W 0 m σ H)/\∀i m σ H,W i m σ H ->
   ((YK K a b).stop i H/\D.nx σ H)\/((YK K a b).go i H/\∃N:St->Hp->Prop,(∀L H',N L H'->∃X,X<m/\W (i+1) X L H')/\∀x H',(YK K a b).yld i H x H'->FR F 2 (Sn (Hy U) (Sn (Hy E) KN)) x σ H' λP H2=>A { D with nx:=N,ct:=N,bk:=D.nx } P H2):=by
 refine[λi m σ H=>m=min xs.length ys.length-i/\i<=min xs.length ys.length/\C i σ H,[min xs.length ys.length,I,zAy _,u],?_];rintro i m σ H ⟨rfl,f,p⟩;let[R,Q]:=l i σ H f p;by_cases q:i<min xs.length ys.length
 .have d:i<xs.length:=by lia
  let s:i<ys.length:=by lia
  refine .inr [[xs,ys,xs[i],ys[i],R,Q,by simp[d],by simp[s]],C (i+1),λL H' S=>[min xs.length ys.length-(i+1),Z,I,Z,S],λv H' y=>?_];let[t,x,z,j,k,c,o,w]:=y;subst j w;exact[t,_,I,Da.of Aa,I,_,_,I,_,_,I,I,h i x z σ H t (c xs R) (o ys Q) p k]
 .obtain rfl:i=min xs.length ys.length:=by lia
  exact .inl [[xs,ys,R,Q,Z],r σ H p]
def T5{K f}{a b}{xs zs}{S}{E}{σ}{ix:List Nat}{QQ:Hp->Prop}{X}{p}(C:Nat->List V->Hp->Prop)(s:C 0 [] (upd X p (.lst [])))
  (w:∀i ys H,i<=min xs.length zs.length->C i ys H->H p=g (.lst ys)/\ys.length<=i/\Al K H a xs/\Al K H b zs) (hn:xs.length<=sizeLine)
  (hs:∀i x z ys H t,xs[i]?=g x->zs[i]?=g z->C i ys H->H t=M->S (g x::g z::Ih ix σ) (upd H t (.tup #[x,z])) λb d=>if b=B then E (g x::g z::Ih ix σ) d λy F=>F p=g (.lst ys) /\
   (g x::g z::Ih ix σ)=(g x::g z::Ih ix σ)/\C (i+1) (ys++#[y]) (upd F p (.lst (ys++#[y]))) else(g x::g z::Ih ix σ)=(g x::g z::Ih ix σ)/\C (i+1) ys d)
  (hd:∀ys H,C (min xs.length zs.length) ys H->QQ H) :
  Xj (FR f 2 (Sn (Hy 0) (Sn (Hy 1) KN))) S E 2 ix σ (YK K a b) p X QQ:=by
 refine[λi m ys Q R=>m=min xs.length zs.length-i/\i<=min xs.length zs.length/\(∃o c,Q=o::c::Ih ix σ)/\C i ys R,[min xs.length zs.length,I,zAy _,[M,M,I],s],?_];rintro i m ys Q R ⟨rfl,h,⟨o,c,rfl⟩,pv⟩;let[W,v,N,L]:=w i ys R h pv;refine[W,?_];by_cases l:i<min xs.length zs.length
 .have j:i<xs.length:=by lia
  let r:i<zs.length:=by lia
  refine .inr [[xs,zs,xs[i],zs[i],N,L,by simp[j],by simp[r]],Z,λx H3 y=>?_];let[t,u,z,n,ht,k,hz,e3]:=y;subst n e3;refine[λP U A=>U=(g u::g z::Ih ix σ)/\C (i+1) P A,λP U A ⟨e,q⟩=>[min xs.length zs.length-(i+1),Z,I,Z,[_,_,e],q],?_];exact[t,_,I,Da.of Aa,I,_,_,I,_,_,I,I,hs i u z ys R t (k xs N) (hz zs L) pv ht]
 .obtain rfl:i=min xs.length zs.length:=by lia
  exact .inl [[xs,zs,N,L,Z],hd ys R pv]
def CA(l:List Nat):∀n:Nat,(zAe n l.toArray).foldl (· ++ ·) #v[]=((zAe n l).flatten).toArray:=λn=>by
 let F:∀(n:Nat) (a:List Nat),(zAe n l.toArray).foldl (· ++ ·) a.toArray=(a++(zAe n l).flatten).toArray:=λn=>by
  induction n with
  |zero=>intro a;simp
  |succ n C=>
   intro a;rw[zAN,zBo,zAN,zBf,<- zAw];let e:a.toArray++l.toArray=(a++l).toArray:=by simp
   rw[e];exact C (a++l)
 let z:=F n []
 simpa using z
inductive cP(x y:V)(H:Hp)(Q:VK):Prop
 |mk (l:List Nat) (n:Int) (e:x=.str (tx l)) (e':y=.int n) (a:1<=n) (b:n<=1000) (s:l.length<=1000) (q:Q (.str (tx (zAe n.toNat l).flatten)) H)
def Iq{X:Cx}:Qd X (qI .Mult) cP:=by
 intro A s E H x y v u Q P R C h;let[l,n,rfl,rfl,b,N,U,q]:=h;let[t,rfl]:=R;let[K,rfl]:=C;let W:(tx l).length=l.length:=Dg l;let L:l.length*n.toNat<=1000*1000:=vU U Z;refine PySem.P.mul_str ?_ (λa a=>?_) (λa a=>?_) ?_
 .rw[mQ Z,mQ Z];rfl
 .rw[W]
  let:(1000:Int)<=(2^63-1)/n:=Int.le_ediv_of_mul_le Z Z
  lia
 .rw[W]
  unfold rD;simp only[decide_eq_false_iff_not];let:=zCy
  lia
 .rw[mK Z]
  by_cases c:(n==1||(tx l).length==0)=B
  .rw[mS c]
   refine[.str (tx (zAe n.toNat l).flatten),H,P,[t,?_],q];let e:(zAe n.toNat l).flatten=l:=by
    rcases (Bool.or_eq_true _ _).mp c with z|z
    .have F:n=1:=by simpa using z
     subst F;simp
    .have F:l=[]:=by
      rw[W]at z;exact zBY (by simpa using z)
     subst F;simp
   rw[e]
  .rw[mK c]
   refine[?_,.str (tx (zAe n.toNat l).flatten),H,P.tok _,[s.toks,?_],q]
   .have e:=CA l n.toNat
    show([(zAe n.toNat (tx l).cps).foldl (· ++ ·) #v[]]:J).length<=sizeLine;unfold tx;rw[e];let S:([((zAe n.toNat l).flatten).toArray]:J)=tx (zAe n.toNat l).flatten:=rfl;rw[S,Dg,BQ,zCy,Nat.mul_comm]
    lia
   .show qG [(zAe n.toNat (tx l).cps).foldl (· ++ ·) #v[]] _=qG (tx _) _
    let e:=CA l n.toNat;unfold tx at *;rw[e]
def fA(A:mZ)(h:mX)(L:T->Prop):Prop:=
 A.handled=M\/∃e C H,A.handled=g (.ref e)/\h.get? e=g C/\C.data=.fields H/\H[2]?=g mT/\L e
def AV:entryFor table "proto.unchain"=g wK.«proto.unchain» := entryFor_of_tree (by kernel_rfl)
section
variable {prog:mF} {w:mR} {A:mZ} {E:lV->lZ->Prop} {s:lZ}
def YC(oe H:oH)(vs:Array lV):Prop:=H.cls=oe.cls/\H.dict=oe.dict/\∃C,H.data=.fields C/\C.size=vs.size/\(∃c,C[2]?=g c)/\∀i,i≠2->C[i]?=vs[i]?
def GL{R:Type}{e:T}{oe:oH}{vs:Array lV}{Q:R->lZ->Prop}(P:fA A s.heap λb=>b≠e)(U:s.heap.get? e=g oe)(N:oe.data=.fields vs)(C:2<vs.size)
  (h:∀h' L,zBa e s.heap h'->h'.get? e=g L->YC oe L vs->E (.ref e) { s with heap:=h' }):mO (mP prog w) A (raiseNew (.ref e):vH R) Q E s:=by
 unfold raiseNew;refine zCw (wpAny_handled ?_);rcases P with P|⟨x,l,k,P,W,H,S,X⟩
 .rw[P]
  exact zCw (zCx (wpAny_throw (h s.heap oe [I,λy y=>I] U [I,I,vs,N,I,[vs[2],by simp[C]],λy y=>I])))
 .rw[P]
  let d:(mG x != mG e)=B:=by simpa using X
  show mO _ _ (if (mG x != mG e)=B then(do
   let _ <- pC #[mG e] (runValue (.builtin "proto.unchain" [#[.ref e,.ref x,.ref x,.bool lX],[]]))
   updateField e 2 (.ref x)
   throw (mG e)) else throw (mG e)) _ _ s
  rw[mS d];refine zCw (oE (wpAny_runValue (qS AV ?_)));show mO _ _ (field (.ref x) 2 >>= _) _ _ s;refine zCw (oM W H S ?_);show mO _ _ (if (mT==mT)=B then _ else _) _ _ s;rw[mS (show(mT==mT)=B from rfl)];refine zCx ?_;show mO _ _ (setField (.ref e) 2 (.ref x) >>= λy=>throw (mG e)) _ _ s;refine zCw (oU U N C (wpAny_throw ?_));let F:=o0 N (λz=>z.setIfInBounds 2 (mG x));refine h _ _ (zBa.update s.heap e _) (zAT _ U (oR F)) [uB _ _,?_,_,F,Array.size_setIfInBounds ..,[_,zBI C],λi K=>zBT (oC K)];let[f,o,c,j]:=oe;cases c<;>rfl
end
def Cx.Hn(X:Cx):Prop:=X.A.handled=M\/∃e C H,X.A.handled=g (.ref e)/\C.data=.fields H/\H[2]?=g mT /\
 ((X.s₀.heap.get? e=g C/\X.H₀ e=M/\e∉X.fs/\e∉X.ex)\/(e,C)∈X.pn)
section
variable {X:Cx} {pins:List (T×oH)} {σ:St} {H:Hp} {s:lZ}
def Am.hn(P:Am X pins σ H s)(E:X.Hn):fA X.A s.heap λe=>H e=M/\e∉Vz X.stack/\∀b,Op X pins H b->e≠b:=by
 rcases E with z|⟨e,R,K,z,L,Q,q⟩
 .exact .inl z
 refine .inr [e,R,K,z,?_];rcases q with ⟨q,n,S,F⟩|q
 .have W:=zAo q
  refine[P.base.keep e R q n S F,L,Q,P.base.free e R q n F,λm=>?_,λb f y=>?_]
  .rcases zAg.mp (P.stkSub e m)with y|y
   .have:=P.ok.above
    exact mC W (by rw[y];exact Nat.not_lt.mpr this)
   .exact S y
  .subst y
   rcases f.2.2.2.1 with y|y
   .exact F y
   .exact mC W (Nat.not_lt.mpr y)
 .let[U,C,A,N,_]:=P.pin (e,R) (zBi _ q)
  refine[U,L,Q,C,λm=>?_,λb f y=>f.2.2.2.2.2 (e,R) (zBi _ q) y];rcases zAg.mp (P.stkSub e m)with y|y
  .exact A y
  .exact N y
end
end L2
namespace CRL
open PySem L2
def gJ(H H':Hp):Prop:=∀t C,H t=g (.tup C)->H' t=g (.tup C)
def Jb{H H':Hp}(s:Ae H H'):gJ H H':=λt C h=>s t _ h
end CRL
namespace L2
open PySem PySem.Spec PyProof.Rows PySem.W
section
variable {P:mF} {w:mR} {K:zAa} {mg:J->Option lV} {base:mX} {k:Nat} {f:T} {fd:zCA} {ps:List J} {sp sp1 sp2:Sp}
def Ar.toX{CX:GR}(F:Ar P w K mg base Jv k f fd ps sp):Ar P w K mg base CX k f fd ps sp:=
 [F.len,λA N s H z R W Q E U e b r h=>oG (F.run A N s H z R W Q E U e b r h) λq X L=>by
  cases q with
  |error v=>exact nD L
  | ok C=>cases C<;>exact L]
def Ar.ofX(F:Ar P w K mg base (Nt P w) k f fd ps sp):Ar P w K mg base Jv k f fd ps (λvs H Q x=>sp vs H Q E0):=
 [λvs H Q x h=>F.len vs H Q E0 h,λA N s H L R vs Q E U e b r h=>oG (F.run A N s H L R vs Q E0 U e b r h) λq W C=>by
  cases q with
  |error v=>
   let[_,_,_,_,_,_,_,_,_,_,z]:=(show Nt P w _ _ _ _ _ _ from C);exact z
  | ok S=>cases S<;>exact C]
def Ar.or{CX:GR}(F:Ar P w K mg base CX k f fd ps sp1)(C:Ar P w K mg base CX k f fd ps sp2):Ar P w K mg base CX k f fd ps (λvs H Q E=>sp1 vs H Q E\/sp2 vs H Q E):=
 [λvs H Q E h=>h.elim (F.len vs H Q E) (C.len vs H Q E),λA L s H z R vs Q E N e b r h=>h.elim (F.run A L s H z R vs Q E N e b r) (C.run A L s H z R vs Q E N e b r)]
def kU.okX{x qual}{st}{N}(F:kU K x qual st f fd)(S:Cb N ps (Av st))(b:∀vs H Q E,sp vs H Q E->vs.length=ps.length)
  (z:∀(X:lV) (A:mZ) (outer:List sB) (s:lZ) (H:Hp) (vs:List V) (Q:VK) (E:XK),Cc k (A.deeper (oY qual (Av st) ⇑s f X))->sp vs H Q E ->
   ∃t,PSs (Mq (Nt P w) P w K mg base N qual (Av st) f X A outer s H E) (Dn st) t/\t { nx:=λy H'=>Q .non H',rt:=Q } (Gx N vs) H):Ar P w K mg base (Nt P w) (k+1) f fd ps sp:=by
 let[j,l,q,kV,C,d,p,X,o,R,e,U,W]:=F.ex;subst e;exact DQ U W S b λA outer s H vs Q E c L=>z X A outer s H vs Q E c L
end
end L2
namespace CST
open PySem
abbrev Rs(xs:Array Nat):Prop:=xs.toList.Pairwise (· < ·)
def IH{xs:Array Nat}(h:Rs xs){i k:Nat}(z:i<k)(F:k<xs.size):xs[i]'(Z)<xs[k]:=by
 let:=List.pairwise_iff_getElem.mp h i k (by simpa using (by lia:i<xs.size)) (by simpa using F) z
 simpa using this
structure iC(xs:Array Nat)(j p:Nat):Prop where
 le:p<=xs.size
 lo:∀i (h:i<xs.size),i<p->xs[i]<j
 hi:∀i (h:i<xs.size),p<=i->j<=xs[i]
theorem Xd{xs:Array Nat}{j:Nat}(r:Rs xs):∀(f lo H:Nat),H-lo<=f->lo<=H->H<=xs.size->(∀i (h:i<xs.size),i<lo->xs[i]<j)->(∀i (h:i<xs.size),H<=i->j<=xs[i])->iC xs j (rG xs j f lo H)
 |0,lo,H,C,N,z,a,b=>by
  let e:lo=H:=by omega
  subst e;unfold rG;exact[z,a,b]
 |f+1,lo,H,C,N,z,a,b=>by
  unfold rG;by_cases c:lo<H
  .rw[mS c]
   let L:(lo+H)/2<xs.size:=by omega
   let e:xs.getD ((lo+H)/2) j=xs[(lo+H)/2]:=by simp[Array.getD,L]
   dsimp only
   rw[e];by_cases d:xs[(lo+H)/2]<j
   .rw[mS d]
    refine Xd r f _ H zY zY z (λi h F=>?_) b;by_cases q:i=(lo+H)/2
    .subst q;exact d
    .exact w9 (IH r zY L) d
   .rw[mK d]
    refine Xd r f lo _ zY zY zY a (λi h F=>?_);by_cases q:i=(lo+H)/2
    .subst q;omega
    .have:=IH r (i:=(lo+H)/2) (k:=i) zY h
     omega
  .rw[mK c]
   let e:lo=H:=by omega
   subst e;exact[z,a,b]
def T4{xs:Array Nat}{j:Nat}(r:Rs xs):iC xs j (nN xs j):=by
 unfold nN;exact Xd r _ _ _ Z (zAy _) (zAm _) (λi x h=>mC h (zBL _)) (λi h C=>mC C Z)
structure Sm(by_:Bool)(t:qD):Prop where
 rs:Rs t.place
 dm:t.dummies = #v[]
 ld:by_=lX->t.led=B
def AR(b:Bool):Sm b (.fresh 0 0 (!b)):=[rW,I,λh=>by rw[h];rfl]
def Lb{b:Bool}{t:qD}(C:Sm b t)(n:Nat):Sm b (t.standIn n):=by
 refine[?_,I,C.ld];show(Array.range n).toList.Pairwise (· < ·);rw[Array.toList_range];exact List.pairwise_lt_range
def W7{b:Bool}{t:qD}(C:Sm b t)(p:Bool):Sm b { t with plain:=p }:=[C.rs,C.dm,C.ld]
def O2(j:Nat):vF #v[] j=lX:=by
 unfold vF;let:(#v[]:Array Nat)[nN #v[] j]?=M:=by simp
 rw[this];rfl
def AF{t:qD}{j:Nat}(z:t.dummies = #v[]):t.slot j=.empty\/∃i,t.slot j=.live i:=by
 unfold yT
 dsimp only
 by_cases c:(t.place[nN t.place j]?==g j)=B
 .rw[mS c];exact .inr [_,I]
 .rw[mK c,z,O2]
  exact .inl I
def BA{t:qD}{j:Nat}(r:Rs t.place)(h:t.slot j=.empty):∀i (C:i<t.place.size),t.place[i]≠j:=λi C e=>by
 let b:=T4 (j:=j) r;let H:nN t.place j<=i:=by
  rcases Nat.lt_or_ge i (nN t.place j)with z|z
  .have:=b.lo i C z;lia
  .exact z
 let F:nN t.place j<t.place.size:=by lia
 let L:t.place[nN t.place j]=j:=by
  let N:=b.hi _ F (zAm _);rcases Nat.lt_or_eq_of_le H with z|z
  .have:=IH r z C;lia
  .have:t.place[nN t.place j]=t.place[i]:=by congr 1
   lia
 unfold yT at h
 dsimp only at h
 let c:(t.place[nN t.place j]?==g j)=B:=by
  rw[vM F,L];simp
 rw[mS c]at h;cases h
theorem Q1{t:qD}{C:Nat->Int}{h:Int}(L:t.dummies = #v[]):∀(f:Nat) (p:SetTable.Probe) (j:Nat) (d:Option Nat),p.dummy=M->rF t C h f p=g (.empty j d)->d=M/\t.slot j=.empty
 |0,p,j,d,_,e=>by unfold rF at e;cases e
 |f+1,p,j,d,H,e=>by
  unfold rF at e;let F:(t.advance p).dummy=M:=by
   unfold SetTable.advance
   split
   .exact H
   .exact H
  rcases AF (t:=t) (j:=p.j) L with z|⟨i,z⟩
  .rw[z]at e
   dsimp only at e
   injection e with e;injection e with U S;subst U;exact[S▸H,z]
  .rw[z]at e
   dsimp only at e
   split at e
   .injection e with e;cases e
   .exact Q1 L f _ j d F e
def XQ{t:qD}{j:Nat}(r:Rs t.place)(h:∀i (P:i<t.place.size),t.place[i]≠j):Rs (t.put j).1.place:=by
 let b:=T4 (j:=j) r;show(SetTable.insertAt t.place (nN t.place j) j).toList.Pairwise (· < ·);rw[SetTable.toList_insertAt];let C:∀x∈t.place.toList.take (nN t.place j),x<j:=λx N=>by
  let[i,P,L]:=zBu N;rw[List.getElem_take]at L;let F:i<nN t.place j/\i<t.place.size:=by
   rw[zAq,zBd]at P;lia
  let:=b.lo i F.2 F.1;rw[<- L]
  simpa using this
 let U:∀x∈t.place.toList.drop (nN t.place j),j<x:=λx N=>by
  let[i,P,L]:=zBu N;rw[List.getElem_drop]at L;let F:nN t.place j+i<t.place.size:=by
   rw[zBb,zBd]at P;lia
  let R:=b.hi _ F (Nat.le_add_right _ _);let W:=h _ F;rw[<- L];let:j<t.place[nN t.place j+i]:=by lia
  simpa using this
 refine List.pairwise_append.mpr [r.sublist (tR _ _),List.pairwise_cons.mpr [U,r.sublist (yW _ _)],λa S Q H=>?_];rcases zAg.mp H with z|z
 .rw[z];exact C a S
 .exact w9 (C a S) (U Q z)
def N3{b:Bool}{t:qD}{j:Nat}(C:Sm b t)(h:t.slot j=.empty):Sm b (t.put j).1:=by
 refine[XQ C.rs (BA C.rs h),?_,C.ld];show(if vF t.dummies j then _ else t.dummies) = #v[];rw[C.dm,O2];rfl
set_option tactic.hygienic true in
def U6{b:Bool}{t:qD}(C:Sm b t)(es:Array (Int×lV))(h:Int)(x:lV):Sm b (layNew t es h x).2.1/\(layNew t es h x).2.2.1=lX:=by
 unfold layNew;cases e:t.freeSlot h with
 |none=>exact[Lb C _,I]
 |some p=>
  let[N,U]:=p;unfold SetTable.freeSlot at e
  split at e
  .rename_i j d P
   injection e with e;injection e with H F;let[S,L]:=Q1 C.dm _ _ j d I P;subst S
   dsimp only at H F⊢
   let z:j=N:=H;subst z;refine[?_,F.symm];unfold SetTable.orStandIn
   split
   .exact N3 C L
   .exact Lb (N3 C L) _
  .cases e
theorem Wu(o:Nat->Option Nat):∀l:List Nat,((l.filterMap λj=>(o j).map (j,·)).map (·.1)).Sublist l
 |[]=>List.Sublist.slnil
 |j::l=>by
  rw[zBt];cases e:o j with
  |none=>exact(Wu o l).cons j
  |some k=>exact(Wu o l).cons₂ j
def Yz{b:Bool}{t:qD}(C:Sm b t)(es:Array (Int×lV))(z:Nat):Sm b (uW t es z).2.1:=by
 unfold uW;cases e:t.relaid (es.map (·.1)) z with
 |none=>exact Lb C _
 |some p=>
  let[H,L]:=p
  dsimp only
  split
  .unfold SetTable.relaid SetTable.laid at e
   cases N:SetTable.layClean (SetTable.sizeAbove z-1) (es.map (·.1))with
   |none=>rw[N]at e;cases e
   |some F=>
    rw[N]at e;let U:=mI e;injection U with S _;subst S;refine[?_,I,C.ld];show(List.toArray _).toList.Pairwise (· < ·);rw[List.toList_toArray];exact List.pairwise_lt_range.sublist (Wu _ _)
  .exact Lb C _
section
variable {prog:mF} {w:mR} {K:Type} [DecidableEq K] (knd:KeyKind prog w K)
def YO(e:Int×lV)(k:K):Prop:=knd.is k e.2=B/\e.1=knd.hash k/\e.2.scannable=B
def jX(h:mX)(a:T)(ks:List K):Prop:=∃o C H t,h.get? a=g o/\o.ExactSet/\o.data=.set C H t/\qA (YO knd) C.toList ks/\ks.Nodup/\C.size<qM/\t.fits C.size=B/\Sm (w.params.followText "set-order") t
variable {knd}
variable {A:mZ} {E:lV->lZ->Prop} {s:lZ}
def Vc{Q b:Type}{F:Q->b->Prop}:∀{l L:List Q} {ks},L.Perm l->qA F l ks->∃P,P.Perm ks/\qA F L P:=by
 intro l L ks p;let q:=p.symm;clear p
 induction q generalizing ks with
 |nil=>intro h;exact[ks,yD _,h]
 |cons x _ X=>
  intro h;cases h with
  |cons r t=>
   let[P,R,f]:=X t;exact[_,R.cons _,.cons r f]
 |swap x y l=>
  intro h;cases h with
  |cons r t=>
   cases t with
   |cons S C=>exact[_,List.Perm.swap _ _ _,.cons S (.cons r C)]
 |trans _ _ z N=>
  intro h;let[j,H,d]:=z h;let[W,c,U]:=N d;exact[W,c.trans H,U]
theorem Vl{C H:Type}{F:C->H->Prop}{a:C}{b:H}(r:F a b):∀{l:List C} {ks},qA F l ks->qA F (l++#[a]) (ks++#[b])
 |_,_,.nil=>.cons r .nil
 |_,_,.cons q t=>.cons q (Vl r t)
theorem Sd{C H:Type}{F:C->H->Prop}:∀{l:List C} {ks},qA F l ks->∀a∈l,∃b∈ks,F a b
 |_,_,.nil,_,h=>nomatch h
 |_,_,.cons q t,a,h=>by
  rcases zAg.mp h with z|z
  .subst z;exact[_,zAl,q]
  .let[b,L,r]:=Sd t a z
   exact[b,zAh _ L,r]
theorem Vg{C H:Type}{F:C->H->Prop}:∀{l:List C} {ks},qA F l ks->∀b∈ks,∃a∈l,F a b
 |_,_,.nil,_,h=>nomatch h
 |_,_,.cons q t,a,h=>by
  rcases zAg.mp h with z|z
  .subst z;exact[_,zAl,q]
  .let[b,L,r]:=Vg t a z
   exact[b,zAh _ L,r]
def ZF{l:List (Int×lV)}{ks:List K}(h:qA (YO knd) l ks):ElemsOf knd l:=λe z=>by
 let[k,_,F,C,L]:=Sd h e z;exact[[k,F,C],L]
def N7{l:List (Int×lV)}{ks:List K}{k:K}(h:qA (YO knd) l ks):(l.findIdx? λe=>knd.is k e.2)=M↔k∉ks:=by
 rw[List.findIdx?_eq_none_iff];constructor
 .intro z C
  let[e,F,r]:=Vg h k C;let:=z e F;rw[r.1]at this;cases this
 .intro z e F
  let[S,L,r]:=Sd h e F;cases c:knd.is k e.2 with
  |false=>rfl
  |true=>exact mC (knd.inj _ _ _ c r.1▸L) z
def stored{h:mX}{a:T}{o:oH}{es z:Array (Int×lV)}{F:Nat}{t t':qD}{ks:List K}(U:h.get? a=g o)(L:o.ExactSet)(P:o.data=.set es F t)(R:qA (YO knd) z.toList ks)(Q:ks.Nodup)(N:z.size<qM)(H:t'.fits z.size=B)
  (C:Sm (w.params.followText "set-order") t'):(h.update a (tK z t')).get? a=g { o with data:=.set z (F+1) t' }/\jX knd (h.update a (tK z t')) a ks:=by
 let S:(h.update a (tK z t')).get? a=g { o with data:=.set z (F+1) t' }:=by
  let q:=zAT (tK z t') U (by rw[putSet_of z t' P];rfl)
  rwa[putSet_of z t' P]at q
 exact[S,_,z,F+1,t',S,L,I,R,Q,N,H,C]
def V7{a:T}{o:oH}{es z:Array (Int×lV)}{v:Nat}{t F:qD}{ks1:List K}(l:s.heap.get? a=g o)(P:o.ExactSet)(q:o.data=.set es v t)(r:qA (YO knd) z.toList ks1)(p:ks1.Nodup)(U:z.size<qM)(x:F.fits z.size=B)
  (C:Sm (w.params.followText "set-order") F) {u:Bool} {k:Bool->vH Unit} (y:∀(b:Bool) (Q:lZ) (Q':Unit->lZ->Prop),Q' () Q->mO (mP prog w) A (k b) Q' E Q) {R:Option Bool->lZ->Prop}
  (h:∀h' S,zBa a s.heap h'->jX knd h' a S->S.Perm ks1->R (g B) { s with heap:=h' }) :
  mO (mP prog w) A (do
   storeSet a z F
   if (!u&&F.tooFull)=B then do
    k (uW F z (pB z.size)).2.2
    storeSet a (uW F z (pB z.size)).1 (uW F z (pB z.size)).2.1
    pure (g B)
   else pure (g B)) R E s:=by
 let[L,m]:=stored (knd:=knd) l P q r p U x C;let d:=zBa.update s.heap a (tK z F);refine zCw (wpAny_storeSet_of l q ?_ (fits_of_scanBound U));by_cases c:(!u&&F.tooFull)=B
 .rw[mS c]
  let W:=relayAll_perm F z (pB z.size);let X:=relayAll_fits F z (pB z.size);let N:=Yz C z (pB z.size);generalize uW F z (pB z.size)=H at W X N;let[i,t3,gv]:=H
  dsimp only at W X N
  let j:i.size=z.size:=by rw[<- zBd,W.length_eq,zBd]
  let[aa,f,n]:=Vc W r;refine zCw (y _ _ _ (zCw (wpAny_storeSet_of L I ?_ (fits_of_scanBound (by rw[j];exact U)))));let[_,e]:=stored (knd:=knd) L P I n (f.nodup_iff.mpr p) (by rw[j];exact U) X N;exact zCx (h _ aa (d.trans (zBa.update _ a _)) e f)
 .rw[mK c]
  exact zCx (h _ ks1 d m (yD _))
def ZV{a:T}{ks:List K}{k:K}{x:lV}{Q:Bool->lZ->Prop}(L:knd.is k x=B)(S:x.scannable=B)(hS:jX knd s.heap a ks)(H:ks.length+1<qM)
  (h:∀b h' F,zBa a s.heap h'->jX knd h' a F->F.Perm (if k∈ks then ks else ks++#[k])->Q b { s with heap:=h' }) :
  mO (mP prog w) A (setAddHashed a x (knd.hash k)) Q E s:=by
 let[o,X,ep,t,f,y,l,d,nd,hb,hf,N]:=id hS;let aa:=ZF d;let lk:X.size=ks.length:=by rw[<- zBd];exact vK d
 unfold setAddHashed setAddHashedIn;refine oE (zCw (wpAny_setState_of f l hf ?_))
 dsimp only
 rw[byScan_of S hb aa];simp only[↓reduceIte];unfold setAddByScan;refine zCw (zCw (wpAny_rule (zCw (wpAny_setScan_of L f l hf aa ?_))));cases r:List.findIdx? (λe=>knd.is k e.2) X.toList with
 |some j=>
  let q:k∈ks:=Classical.byContradiction λz=>by rw[(N7 d).mpr z]at r;cases r
  dsimp only
  refine zCx (zCx ?_);let e:s={ s with heap:=s.heap }:=by cases s;rfl
  rw[e];exact h lX s.heap ks (zBa.refl a s.heap) hS (by rw[mS q])
 |none=>
  let q:k∉ks:=(N7 d).mp r
  dsimp only
  let R:=layNew_perm t X (knd.hash k) x;let f1:=layNew_fits t X (knd.hash k) x;let c:=(U6 N X (knd.hash k) x).1;generalize layNew t X (knd.hash k) x=C at R f1 c⊢;let[ag,t1,wd,gv]:=C
  dsimp only at R f1 c⊢
  rw[Array.toList_push]at R;let[ks1,q1,ad]:=Vc R (Vl (show YO knd (knd.hash k,x) k from [L,I,S]) d);let n:ks1.Nodup:=q1.nodup_iff.mpr (zBg.mpr [nd,zZ,λa ha b m=>by rw[zAp]at m;subst m;rintro rfl;exact q ha]);let i:ag.size<qM:=by rw[<- zBd,R.length_eq,zAc,zBd,lk];exact H
  let af:∀h' F,zBa a s.heap h'->jX knd h' a F->F.Perm ks1->Q B { s with heap:=h' }:=λh' F U P p=>h B h' F U P (by rw[mK q];exact p.trans q1);let u:∀(b:Bool) (W:lZ) (v:Unit->lZ->Prop),v () W->mO (mP prog w) A (match b with|true=>rule "set.scan.the-table-gave-way" |false=>pure ()) v E W :=
   λb W v hq=>by cases b<;>first|exact zCx hq|exact wpAny_rule hq
  refine zCw (u _ _ _ ?_)
  split
  .refine zCw ?_
   rw[hashByValue_scannable 8 S];refine zCx ?_;refine V7 (ks1:=ks1) (knd:=knd) f y l ad n i ?_ ?_ u λh' F U P p=>?_
   .split
    .exact f1
    .exact SetTable.fits_plain_off f1
   .split
    .exact c
    .exact W7 c _
   .exact zCx (af h' F U P p)
  .refine zCw (zCx ?_)
   simp only[↓reduceIte];exact V7 (ks1:=ks1) (knd:=knd) f y l ad n i f1 c u λh' F U P p=>zCx (af h' F U P p)
end
section
variable {prog:mF} {w:mR} {A:mZ} {E:lV->lZ->Prop} {s:lZ}
def PH{x:lV}{Q:lV->lZ->Prop}(h:Q (.ref ⇑s) { s with heap:=s.heap.push { cls:=.type "set",dict:=M,data:=.set #v[] 0 (.fresh 0 0 (!w.params.followText "set-order")) } }) :
  pT (mP prog w) A (.call (.builtin "set.__new__") [#[.type "set",x],[]]) (wants Q E) s:=by
 refine v7 ?_;show mO _ A.in1 (do vP "set.__new__" [#[.type "set",x],[]];again (.builtin "set.__new__" [#[.type "set",x],[]])) _ _ s;refine zCw (qQ (F.newCall_set_1 x) (zCx [plainId_quiet F.plain_set_new _,qS F.entry_set_new ?_]));rw[sC F.plain_set_new _];unfold wK.«set.__new__» Builtin.Frozenset.newClass;let z:=sub_set_self;let[N,L,d,H,C]:=s
 dsimp only
 wp_walk
 refine wpAny_askSetting (zCx ?_)
 dsimp only
 simp only[newObj];exact zCw (wpAny_alloc (zCx (zCx h)))
variable {R:wU->lZ->Prop} {d:T} {fp wr:List T} {f:Array tM->Array tM->Prop} {n:Nat} {P:Nat->lV->Prop} {St:Nat->lZ->Prop}
def jX.keep{h h':mX}{a:T}{K:Type}[DecidableEq K]{knd:KeyKind prog w K}{ks:List K}(C:jX knd h a ks)(k:∀o,h.get? a=g o->h'.get? a=g o):jX knd h' a ks:=by
 let[o,H,z,t,F,r]:=C;exact[o,H,z,t,k o F,r]
def S2{K:Type}[DecidableEq K]{knd:KeyKind prog w K}{mk:K->Nat->lV}(ab:∀k t,knd.is k (mk k t)=B)(ae:∀k t,(mk k t).scannable=B)(W:WalksS prog w A.in1 d fp wr f n P St)(S:T)(nS:S∉fp)(X:Nat->K)(hv:∀i v,P i v->∃t,v=mk (X i) t)(U:n+1<qM) :
  ∀(k i:Nat) (s:lZ) (ks:List K),n-i=k->i<=n->St i s->jX knd s.heap S ks->(∀y,y∈ks↔∃j,j<i/\X j=y)->ks.length<=i ->
   (∀l F,Moved (S::wr) f s l->jX knd l.heap S F->(∀y,y∈F↔∃j,j<n/\X j=y)->F.length<=n->R (.ok (.ret .none)) l) ->
   pT (mP prog w) A (.builtin "set.update.loop" [#[.ref S,.ref d],[]]) R s:=by
 let h:S∉wr:=λz=>nS (W.sub _ z);let q:∀b∈wr,b∈S::wr:=λb U=>zAh _ U;intro k
 induction k with
 |zero=>
  intro i s ks hk hi m N p r H;let e:i=n:=by lia
  subst e;refine qS qW ?_;rw[sC pA _];show mO _ A.in1 (pyNext (.ref d) >>= _) _ _ s;refine zCw (W.done s _ _ m λl C=>?_);show mO _ A.in1 (ret mT) _ _ l;exact zCx (H l ks (C.mono q) (N.keep λo e=>C.heap S o h e) p r)
 |succ k ih=>
  intro i s ks hk hi m N p r H;refine qS qW ?_;rw[sC pA _];show mO _ A.in1 (pyNext (.ref d) >>= _) _ _ s;refine zCw (W.item i s _ _ Z m λv l hP af C=>?_);let[tk,rfl]:=hv i v hP;let g':=N.keep λo e=>C.heap S o h e;show mO _ A.in1 (pC #[mk (X i) tk] (setAdd S (mk (X i) tk)) >>= _) _ _ l;refine zCw (oE ?_);unfold setAdd;refine oE (zCw (knd.pyHash (k:=X i) (ab _ _) ?_));refine ZV (knd:=knd) (s:={ l with toks:=l.toks+1 }) (ab _ _) (ae _ _) g' Z λb h' F a g2 x=>?_;let Q:F.length<=i+1:=by
   rw[x.length_eq]
   split
   .lia
   .rw[zAc,zBe];lia
  let aa:∀y,y∈F↔∃j,j<i+1/\X j=y:=λy=>by
   rw[x.mem_iff];constructor
   .intro u
    split at u
    .let[j,h1,L]:=(p y).mp u
     exact[j,Z,L]
    .rcases zAE.mp u with z|z
     .let[j,h1,L]:=(p y).mp z
      exact[j,Z,L]
     .exact[i,Z,(zAp.mp z).symm]
   .rintro ⟨j,h1,L⟩
    let ad:∀{z},z∈ks->z∈(if X i∈ks then ks else ks++#[X i]):=λ{z} hz=>by
     split
     .exact hz
     .exact zBi _ hz
    by_cases c:j<i
    .exact ad ((p y).mpr [j,c,L])
    .have e:j=i:=by lia
     subst e
     split
     .rw[<- L];assumption
     .rw[<- L];exact zAP _ (zAp.mpr I)
  refine zCx [plainId_quiet pA _,ih (i+1) _ F Z Z (W.frame _ l _ _ af (zBW _) λb U o e=>?_) g2 aa Q λs2 ac ag g3 m3 l3=>?_]
  .rw[a.2 b (λz:b=S=>nS (by rw[<- z];exact U))];exact e
  .refine H s2 ac (Moved.trans W.gtrans ((C.mono q).then_heap (zBW _) λb o U e=>?_) ag) g3 m3 l3
   rw[a.2 b (λz:b=S=>U (by rw[z];exact zAl))];exact e
end
section
variable {prog:mF} {w:mR} {A:mZ} {E:lV->lZ->Prop} {s:lZ}
abbrev Ym(w:mR):oH:={ cls:=.type "set",dict:=M,data:=.set #v[] 0 (.fresh 0 0 (!w.params.followText "set-order")) }
def IR{h:mX}{a:T}{K:Type}[DecidableEq K]{knd:KeyKind prog w K}(z:h.get? a=g (Ym w)):jX knd h a []:=by
 refine[_,#v[],0,_,z,[I,I,I],I,.nil,List.nodup_nil,Y,I,?_];exact AR (w.params.followText "set-order")
set_option maxRecDepth 100000 in
def MA{K:Type}[DecidableEq K]{knd:KeyKind prog w K}{mk:K->Nat->lV}(ah:∀k t,knd.is k (mk k t)=B)(ad:∀k t,(mk k t).scannable=B)(dd:K){l:T}{items:Array lV}{ns:List K}{Q:lV->lZ->Prop}(hh:A.handled=M)(hl:s.heap.IsList l items)(hi:∀(i:Nat) (v:lV),items[i]?=g v->∃t,v=mk (ns.getD i dd) t)(ln:items.size=ns.length)(hb:items.size+1<qM)
  (h:∀(h':mX) (f:Nat) (ks:List K),jX knd h' ⇑s ks->(∀y,y∈ks↔y∈ns)->ks.length<=items.size->(∀b o,s.heap.get? b=g o->h'.get? b=g o)->Q (.ref ⇑s) { s with heap:=h',toks:=f }) :
  mO (mP prog w) A (call (.type "set") #[.ref l]) Q E s:=by
 let[c,tl,aj]:=F.called_set.mro;let ai:=F.called_set.made;let ak:=F.called_set.sub;let h1:=F.called_set.notType;let h2:=F.called_set.canCreate;let an:=F.typeCall_set_1 (.ref l);refine oV (v7 (show mO _ _ (callAny (.type "set") _) _ _ _ from ?_));refine zCx [tE _ G,qS F.entry_type_call ?_];rw[Around.under_plain (weight_type_call_type "set" #[.ref l] []) I]
 repeat (any_goals (first|assumption|wp_step))
 refine oG (PH (x:=.ref l) (E:=E) (Q:=λv X=>v=.ref ⇑s/\X={ s with heap:=s.heap.push (Ym w) }) [rfl,rfl]) λr X p=>?_;cases r with
 |error e=>exact p
 |ok fl=>
  cases fl with
  |ret a0=>
   let[rfl,rfl]:=p;let at0:(s.heap.push (Ym w)).get? ⇑s=g (Ym w):=zAJ _ I;let hT:Shared.TypeIs { s with heap:=s.heap.push (Ym w) } (.ref ⇑s) "set":=[_,at0,rfl];let am:=F.called_set.init.lookup;let ao:=F.called_set.init.bind (.ref ⇑s)
   repeat (any_goals (first|assumption|wp_step))
   refine oG (pO (R:=wants (λr W=>r=.none/\∃h' f ks,W={ s with heap:=h',toks:=f }/\jX knd h' ⇑s ks/\(∀y,y∈ks↔y∈ns)/\ks.length<=items.size/\(∀b o,s.heap.get? b=g o->h'.get? b=g o)) E)
    F.called_set.init.plain F.entry_set_init (check_set_init_1 hT ?_)) λd W L=>?_
   .let[[oc,od,al,af],U,H,a,S]:=id hl
    simp only at H S;subst H S;let ac:(s.heap.push (Ym w)).get? l=g { cls:=.type "list",dict:=od,data:=.seq items a,slots:=af }:=zAk _ U;let il:(s.heap.push (Ym w)).IsList l items:=[_,ac,I,a,I];let n:l<⇑s:=zAo U;let u1:=F.sub_list_set;let u2:=F.sub_list_frozenset;let u3:(pU "list"== pU "dict")=lX:=by lk
    unfold wK.«set.__init__» noKeywords Builtin.Frozenset.updateFrom;generalize ae:pyIter=PI
    wp_walk
    subst ae;refine wpAny_pyIter_list il (zCw (wpAny_runValue ?_));let q:(s.heap.push (Ym w)).objs.size=⇑s+1:=zCp ..;let ne:l≠(s.heap.push (Ym w)).objs.size:=by rw[q];exact zAu (uD n)
    let h3:A.in1.in1.in1.handled=M:=by simp[hh]
    let nf:⇑s∉#[(s.heap.push (Ym w)).objs.size,l]:=by
     rw[q];intro z;rcases zAg.mp z with z|z
     .exact mC z (zAu (zCc _))
     .exact mC (zAp.mp z) (zBB n)
    refine S2 ah ad ((Walks.list h3 _ l ne items).toS) ⇑s nf (λi=>ns.getD i dd) hi hb (items.size-0) 0 _ [] Z (zAy _) [[_,zAJ _ I,I,I],il.push _] (IR (zAk _ at0)) (λy=>[λz=>(nomatch z),λ⟨j,z,_⟩=>mC z (zBL _)]) (zAy _) λs' ks C N m P=>?_;let[h',g',d',ag,ab]:=s';let eg:g'=s.gens:=C.gens;let ed:d'=s.drawn:=C.drawn;let eo:ab=s.os:=C.os;subst eg ed eo;refine zCx (zCx [I,h',ag,ks,I,N,λy=>?_,P,λb o e=>?_])
    .rw[m y]
     constructor
     .rintro ⟨j,z1,z2⟩
      rw[<- z2];show ns.getD j dd∈ns;rw[zBh,zAi Z];exact zBp _
     .intro z
      let[j,hj,e]:=zBu z;refine[j,Z,?_];show ns.getD j dd=y;rw[zBh,zAi hj];exact e
    .refine C.heap b o (λz=>?_) (zAk _ (zAk _ e))
     let u:=zAo e;rcases zAg.mp z with z|z
     .exact mC z (zAu u)
     .exact mC (zAp.mp z) (by rw[q];exact zAu (uD u))
   .cases d with
    |error e=>exact L
    |ok aa=>
     cases aa with
     |ret r=>
      let[rfl,h',f,ks,rfl,N,m,ln,k]:=L
      repeat (any_goals (first|assumption|wp_step))
      exact h _ _ ks N m ln k
     |_=>exact L.elim
  |_=>exact p.elim
end
end CST
namespace L2
open PySem PySem.Spec PyProof.Rows
inductive Co where
 |alw|cau (n:J)|thi (n:J)|day (a b:Int)|ovr (m:Int)
inductive Ev where
 |at (c:Co)|no (t:Ev)|al (ts:List Ev)|so (ts:List Ev)
structure A8 where
 a0:T
 a1:T
 a2:T
 a3:T
 a4:T
 a5:T
 a6:T
 a7:T
def A8.l(κ:A8):List T:=#[κ.a0,κ.a1,κ.a2,κ.a3,κ.a4,κ.a5,κ.a6,κ.a7]
def A8.cl(κ:A8)(i:Nat):T:=κ.l.getD i 0
def A8.inj{κ:A8}(z:κ.l.Nodup){i j:Nat}(C:i<8)(F:j<8)(h:κ.cl i=κ.cl j):i=j:=by
 let H:κ.l.length=8:=rfl;unfold A8.cl at h;rw[zBh,zBh,zAi Z,zAi Z]at h;let p:=List.pairwise_iff_getElem.mp z;rcases Nat.lt_trichotomy i j with c|c|c
 .exact mC h (p i j Z Z c)
 .exact c
 .exact mC h.symm (p j i Z Z c)
def kd:Ev->Nat
 |.at .alw=>0
 |.at (.cau _)=>1
 |.at (.thi _)=>2
 |.at (.day _ _)=>3
 |.at (.ovr _)=>4
 |.no _=>5
 |.al _=>6
 |.so _=>7
def Vb(t:Ev):kd t<8:=by
 cases t with
 |«at» c=>cases c<;>simp[kd]
 |no t=>exact(by decide:5<8)
 |al C=>exact(by decide:6<8)
 |so C=>exact(by decide:7<8)
def A8.of(κ:A8)(t:Ev):T:=κ.cl (kd t)
def A8.Fam(κ:A8)(C:T):Prop:=C=κ.a0\/C=κ.a1\/C=κ.a2\/C=κ.a3\/C=κ.a4\/C=κ.a5\/C=κ.a6\/C=κ.a7
def A8.fam(κ:A8)(t:Ev):κ.Fam (κ.of t):=by
 cases t with
 |«at» c=>
  cases c with
  |alw=>exact .inl I
  |cau _=>exact .inr (.inl I)
  |thi _=>exact .inr (.inr (.inl I))
  |day _ _=>exact .inr (.inr (.inr (.inl I)))
  |ovr _=>exact .inr (.inr (.inr (.inr (.inl I))))
 |no t=>exact .inr (.inr (.inr (.inr (.inr (.inl I)))))
 |al C=>exact .inr (.inr (.inr (.inr (.inr (.inr (.inl I))))))
 |so C=>exact .inr (.inr (.inr (.inr (.inr (.inr (.inr I))))))
section
variable {κ:A8} {t:Ev}
def jL(z:κ.l.Nodup)(h:κ.of t=κ.a0):t=.at .alw:=by
 let e:kd t=0:=A8.inj z (Vb t) Y h;cases t with
 |«at» c=>cases c<;>first|rfl|(simp[kd]at e)
 |_=>simp[kd]at e
def jD(z:κ.l.Nodup)(h:κ.of t=κ.a1):∃n,t=.at (.cau n):=by
 let e:kd t=1:=A8.inj z (Vb t) Y h;cases t with
 |«at» c=>cases c<;>first|exact[_,I]|(simp[kd]at e)
 |_=>simp[kd]at e
def iW(z:κ.l.Nodup)(h:κ.of t=κ.a2):∃n,t=.at (.thi n):=by
 let e:kd t=2:=A8.inj z (Vb t) Y h;cases t with
 |«at» c=>cases c<;>first|exact[_,I]|(simp[kd]at e)
 |_=>simp[kd]at e
def jJ(z:κ.l.Nodup)(h:κ.of t=κ.a3):∃a b,t=.at (.day a b):=by
 let e:kd t=3:=A8.inj z (Vb t) Y h;cases t with
 |«at» c=>cases c<;>first|exact[_,_,I]|(simp[kd]at e)
 |_=>simp[kd]at e
def jH(z:κ.l.Nodup)(h:κ.of t=κ.a4):∃n,t=.at (.ovr n):=by
 let e:kd t=4:=A8.inj z (Vb t) Y h;cases t with
 |«at» c=>cases c<;>first|exact[_,I]|(simp[kd]at e)
 |_=>simp[kd]at e
def jI(z:κ.l.Nodup)(h:κ.of t=κ.a5):∃u,t=.no u:=by
 let e:kd t=5:=A8.inj z (Vb t) Y h;cases t with
 |«at» c=>cases c<;>simp[kd]at e
 |no u=>exact[_,I]
 |_=>simp[kd]at e
def iE(z:κ.l.Nodup)(h:κ.of t=κ.a6):∃u,t=.al u:=by
 let e:kd t=6:=A8.inj z (Vb t) Y h;cases t with
 |«at» c=>cases c<;>simp[kd]at e
 |al u=>exact[_,I]
 |_=>simp[kd]at e
def iG(z:κ.l.Nodup)(h:κ.of t=κ.a7):∃u,t=.so u:=by
 let e:kd t=7:=A8.inj z (Vb t) Y h;cases t with
 |«at» c=>cases c<;>simp[kd]at e
 |so u=>exact[_,I]
 |_=>simp[kd]at e
end
def Qq:Co->List (J×V)
 |.alw=>[]
 |.cau n=>Cw "name" (.str n) []
 |.thi n=>Cw "name" (.str n) []
 |.day a b=>Cw "last" (.int b) (Cw "first" (.int a) [])
 |.ovr m=>Cw "cents" (.int m) []
mutual
def Bv(κ:A8)(H:Hp):V->Ev->Prop
 |v,.at c=>∃p C,v=.ref p/\H p=g (.ins (κ.of (.at c)) C (Qq c))
 |v,.no t=>∃p C w,v=.ref p/\H p=g (.ins κ.a5 C (Cw "part" w []))/\Bv κ H w t
 |v,.al N=>∃p C l L,v=.ref p/\H p=g (.ins κ.a6 C (Cw "several" (.ref l) []))/\H l=g (.lst L)/\CdsAt κ H L N
 |v,.so N=>∃p C l L,v=.ref p/\H p=g (.ins κ.a7 C (Cw "several" (.ref l) []))/\H l=g (.lst L)/\CdsAt κ H L N
def CdsAt(κ:A8)(H:Hp):List V->List Ev->Prop
 |[],[]=>True
 |v::C,t::L=>Bv κ H v t/\CdsAt κ H C L
 |[],_::_=>False
 |_::_,[]=>False
end
mutual
def Bi(H:Hp):V->Ev->Prop
 |v,.at .alw=>∃p,v=.ref p/\H p=g (.tup #[.str "always"])
 |v,.at (.cau n)=>∃p,v=.ref p/\H p=g (.tup #[.str "cause",.str n])
 |v,.at (.thi n)=>∃p,v=.ref p/\H p=g (.tup #[.str "thing",.str n])
 |v,.at (.day a b)=>∃p,v=.ref p/\H p=g (.tup #[.str "days",.int a,.int b])
 |v,.at (.ovr m)=>∃p,v=.ref p/\H p=g (.tup #[.str "over",.int m])
 |v,.no t=>∃p w,v=.ref p/\H p=g (.tup #[.str "not",w])/\Bi H w t
 |v,.al L=>∃p l C,v=.ref p/\H p=g (.tup #[.str "all",.ref l])/\H l=g (.lst C)/\TrsAt H C L
 |v,.so L=>∃p l C,v=.ref p/\H p=g (.tup #[.str "some",.ref l])/\H l=g (.lst C)/\TrsAt H C L
def TrsAt(H:Hp):List V->List Ev->Prop
 |[],[]=>True
 |v::C,t::L=>Bi H v t/\TrsAt H C L
 |[],_::_=>False
 |_::_,[]=>False
end
mutual
def Mx:Ev->Nat
 |.at _=>0
 |.no t=>Mx t+1
 |.al C=>hgts C+1
 |.so C=>hgts C+1
def hgts:List Ev->Nat
 |[]=>0
 |t::C=>max (Mx t) (hgts C)
end
mutual
theorem Bv.same{κ:A8}{H H':Hp}(s:Ae H H'):∀{v} (t:Ev),Bv κ H v t->Bv κ H' v t
 |v,.at c,h=>by
  unfold Bv at h⊢;let[p,L,e,h]:=h;exact[p,L,e,s _ _ h]
 |v,.no t,h=>by
  unfold Bv at h⊢;let[p,L,w,e,h,r]:=h;exact[p,L,w,e,s _ _ h,Bv.same s t r]
 |v,.al N,h=>by
  unfold Bv at h⊢;let[p,L,l,P,e,h,C,r]:=h;exact[p,L,l,P,e,s _ _ h,s _ _ C,CdsAt.same s N r]
 |v,.so N,h=>by
  unfold Bv at h⊢;let[p,L,l,P,e,h,C,r]:=h;exact[p,L,l,P,e,s _ _ h,s _ _ C,CdsAt.same s N r]
theorem CdsAt.same{κ:A8}{H H':Hp}(s:Ae H H'):∀{vs} (ts:List Ev),CdsAt κ H vs ts->CdsAt κ H' vs ts
 |[],[],_=>by unfold CdsAt;trivial
 |v::vs,t::ts,h=>by
  unfold CdsAt at h⊢;exact[Bv.same s t h.1,CdsAt.same s ts h.2]
 |[],_::_,h=>by unfold CdsAt at h;exact h.elim
 |_::_,[],h=>by unfold CdsAt at h;exact h.elim
end
mutual
theorem Bi.same{H H':Hp}(s:Ae H H'):∀{v} (t:Ev),Bi H v t->Bi H' v t
 |v,.at .alw,h=>by unfold Bi at h⊢;let[p,e,h]:=h;exact[p,e,s _ _ h]
 |v,.at (.cau n),h=>by unfold Bi at h⊢;let[p,e,h]:=h;exact[p,e,s _ _ h]
 |v,.at (.thi n),h=>by unfold Bi at h⊢;let[p,e,h]:=h;exact[p,e,s _ _ h]
 |v,.at (.day a b),h=>by unfold Bi at h⊢;let[p,e,h]:=h;exact[p,e,s _ _ h]
 |v,.at (.ovr m),h=>by unfold Bi at h⊢;let[p,e,h]:=h;exact[p,e,s _ _ h]
 |v,.no t,h=>by
  unfold Bi at h⊢;let[p,w,e,h,r]:=h;exact[p,w,e,s _ _ h,Bi.same s t r]
 |v,.al L,h=>by
  unfold Bi at h⊢;let[p,l,N,e,h,C,r]:=h;exact[p,l,N,e,s _ _ h,s _ _ C,TrsAt.same s L r]
 |v,.so L,h=>by
  unfold Bi at h⊢;let[p,l,N,e,h,C,r]:=h;exact[p,l,N,e,s _ _ h,s _ _ C,TrsAt.same s L r]
theorem TrsAt.same{H H':Hp}(s:Ae H H'):∀{vs} (ts:List Ev),TrsAt H vs ts->TrsAt H' vs ts
 |[],[],_=>by unfold TrsAt;trivial
 |v::vs,t::ts,h=>by
  unfold TrsAt at h⊢;exact[Bi.same s t h.1,TrsAt.same s ts h.2]
 |[],_::_,h=>by unfold TrsAt at h;exact h.elim
 |_::_,[],h=>by unfold TrsAt at h;exact h.elim
end
theorem CdsAt.len{κ:A8}{H:Hp}:∀{vs} {ts},CdsAt κ H vs ts->vs.length=ts.length
 |[],[],_=>rfl
 |v::vs,t::ts,h=>by
  unfold CdsAt at h;rw[zAd,zAd,CdsAt.len h.2]
 |[],_::_,h=>by unfold CdsAt at h;exact h.elim
 |_::_,[],h=>by unfold CdsAt at h;exact h.elim
theorem TrsAt.len{H:Hp}:∀{vs} {ts},TrsAt H vs ts->vs.length=ts.length
 |[],[],_=>rfl
 |v::vs,t::ts,h=>by
  unfold TrsAt at h;rw[zAd,zAd,TrsAt.len h.2]
 |[],_::_,h=>by unfold TrsAt at h;exact h.elim
 |_::_,[],h=>by unfold TrsAt at h;exact h.elim
theorem CdsAt.get{κ:A8}{H:Hp}:∀{vs} {ts} {i:Nat} {v},CdsAt κ H vs ts->vs[i]?=g v->∃t,ts[i]?=g t/\Bv κ H v t
 |[],[],_,_,_,e=>by simp at e
 |v::vs,t::ts,0,u,h,e=>by
  unfold CdsAt at h;simp at e;subst e;exact[t,I,h.1]
 |v::vs,t::ts,i+1,u,h,e=>by
  unfold CdsAt at h;let[F,z,r]:=CdsAt.get (i:=i) h.2 (by simpa using e);exact[F,by simpa using z,r]
 |[],_::_,_,_,h,_=>by unfold CdsAt at h;exact h.elim
 |_::_,[],_,_,h,_=>by unfold CdsAt at h;exact h.elim
theorem TrsAt.get{H:Hp}:∀{vs} {ts} {i:Nat} {v},TrsAt H vs ts->vs[i]?=g v->∃t,ts[i]?=g t/\Bi H v t
 |[],[],_,_,_,e=>by simp at e
 |v::vs,t::ts,0,u,h,e=>by
  unfold TrsAt at h;simp at e;subst e;exact[t,I,h.1]
 |v::vs,t::ts,i+1,u,h,e=>by
  unfold TrsAt at h;let[F,z,r]:=TrsAt.get (i:=i) h.2 (by simpa using e);exact[F,by simpa using z,r]
 |[],_::_,_,_,h,_=>by unfold TrsAt at h;exact h.elim
 |_::_,[],_,_,h,_=>by unfold TrsAt at h;exact h.elim
theorem CdsAt.snoc{κ:A8}{H:Hp}:∀{vs} {ts} {v} {t},CdsAt κ H vs ts->Bv κ H v t->CdsAt κ H (vs++#[v]) (ts++#[t])
 |[],[],v,t,_,r=>by
  show CdsAt κ H #[v] #[t];unfold CdsAt;exact[r,by unfold CdsAt;trivial]
 |v::vs,t::ts,F,z,h,r=>by
  unfold CdsAt at h;show CdsAt κ H (v::(vs++#[F])) (t::(ts++#[z]));unfold CdsAt;exact[h.1,CdsAt.snoc h.2 r]
 |[],_::_,_,_,h,_=>by unfold CdsAt at h;exact h.elim
 |_::_,[],_,_,h,_=>by unfold CdsAt at h;exact h.elim
def G5{ts:List Ev}{t:Ev}{m:Nat}(h:hgts ts<m)(i:Nat)(e:ts[i]?=g t):Mx t<m:=by
 induction ts generalizing i with
 |nil=>simp at e
 |cons u H C=>
  unfold hgts at h;cases i with
  |zero=>simp at e;subst e;lia
  |succ i=>exact C Z i (by simpa using e)
def hV:¬(("first" : J)="last"):=by ac_nf
def JF(n:J):(Qq (.cau n)).lookup ("name" : J)=g (.str n):=by unfold Qq;rw[Bo,mS I]
def HJ(n:J):(Qq (.thi n)).lookup ("name" : J)=g (.str n):=by unfold Qq;rw[Bo,mS I]
def RG(a b:Int):(Qq (.day a b)).lookup ("last" : J)=g (.int b):=by unfold Qq;rw[Bo,mS I]
def KJ(a b:Int):(Qq (.day a b)).lookup ("first" : J)=g (.int a):=by unfold Qq;rw[Bo,mK hV,Bo,mS I]
def LA(m:Int):(Qq (.ovr m)).lookup ("cents" : J)=g (.int m):=by unfold Qq;rw[Bo,mS I]
def Z7(f:J)(v:V):(Cw f v []).lookup f=g v:=by rw[Bo,mS I]
def Kz{f C:J}(h:¬C=f)(v:V):(Cw f v []).lookup C=M:=by rw[Bo,mK h];rfl
def BM(c:Co){m:J}(C:¬m="name")(L:¬m="first")(z:¬m="last")(F:¬m="cents"):(Qq c).lookup m=M:=by
 cases c with
 |alw=>rfl
 |cau n=>unfold Qq;rw[Bo,mK C];rfl
 |thi n=>unfold Qq;rw[Bo,mK C];rfl
 |day a b=>unfold Qq;rw[Bo,mK z,Bo,mK L];rfl
 |ovr m=>unfold Qq;rw[Bo,mK F];rfl
def Bv.obj{κ:A8}{H:Hp}{v:V}{t:Ev}(h:Bv κ H v t):∃p dx C,v=.ref p/\H p=g (.ins (κ.of t) dx C) /\
  C.lookup ("holds" : J)=M/\C.lookup ("rank" : J)=M/\C.lookup ("words" : J)=M/\C.lookup ("marks" : J)=M:=by
 cases t with
 |«at» c=>
  unfold Bv at h;let[p,dx,e,h]:=h;exact[p,dx,_,e,h,BM c G G G G,BM c G G G G,BM c G G G G,BM c G G G G]
 |no t=>
  unfold Bv at h;let[p,dx,w,e,h,_]:=h;exact[p,dx,_,e,h,Kz G _,Kz G _,Kz G _,Kz G _]
 |al N=>
  unfold Bv at h;let[p,dx,l,L,e,h,_]:=h;exact[p,dx,_,e,h,Kz G _,Kz G _,Kz G _,Kz G _]
 |so N=>
  unfold Bv at h;let[p,dx,l,L,e,h,_]:=h;exact[p,dx,_,e,h,Kz G _,Kz G _,Kz G _,Kz G _]
def Nw(H H':Hp):Hp:=λb=>match H b with
 |none=>H' b
 |some _=>M
def Nw.of{H H':Hp}{b:T}{o:HO}(h:H b=M)(e:H' b=g o):Nw H H' b=g o:=by
 unfold Nw;rw[h];exact e
def Nw.at{H H':Hp}{b:T}{o:HO}(e:Nw H H' b=g o):H b=M/\H' b=g o:=by
 unfold Nw at e;cases h:H b with
 |none=>rw[h]at e;exact[I,e]
 |some C=>rw[h]at e;cases e
def Nw.later{H C H2:Hp}(s:Ae H C):Ae (Nw C H2) (Nw H H2):=λb o e=>Nw.of (s.free (Nw.at e).1) (Nw.at e).2
def Nw.grow{H C H2:Hp}(s:∀b o,H b=M->C b=g o->H2 b=g o):Ae (Nw H C) (Nw H H2):=λb o e=>Nw.of (Nw.at e).1 (s b o (Nw.at e).1 (Nw.at e).2)
def Fe:Ev->Int
 |.al _=>2
 |.so _=>1
 |_=>3
def WK:Ev->J
 |.at .alw => "always"
 |.at (.cau _) => "cause"
 |.at (.thi _) => "thing"
 |.at (.day _ _) => "days"
 |.at (.ovr _) => "over"
 |.no _ => "not"
 |.al _ => "all"
 |.so _ => "some"
mutual
def Fi:Ev->Int
 |.at .alw=>1
 |.at (.cau _)=>2
 |.at (.thi _)=>2
 |.at (.day _ _)=>3
 |.at (.ovr _)=>2
 |.no t=>(if Fe t<3 then Fi t+2 else Fi t)+1
 |.al C=>(C.length:Int)-1+sizesT 3 C
 |.so C=>(C.length:Int)-1+sizesT 2 C
def sizesT(m:Int):List Ev->Int
 |[]=>0
 |t::C=>(if Fe t<m then Fi t+2 else Fi t)+sizesT m C
end
mutual
def Dz:Ev->Int
 |.at _=>0
 |.no t=>(if Fe t<3 then Dz t+1 else Dz t)+1
 |.al C=>deepsT 3 C
 |.so C=>deepsT 2 C
def deepsT(m:Int):List Ev->Int
 |[]=>0
 |t::C=>max (if Fe t<m then Dz t+1 else Dz t) (deepsT m C)
end
mutual
def Fd(φ:Co->Prop):Ev->Prop
 |.at c=>φ c
 |.no t=>Fd φ t
 |.al C=>2<=C.length/\C.length<=8/\okTs φ C
 |.so C=>2<=C.length/\C.length<=8/\okTs φ C
def okTs(φ:Co->Prop):List Ev->Prop
 |[]=>True
 |t::C=>Fd φ t/\okTs φ C
end
def Pz{φ:Co->Prop}{ts:List Ev}(h:∀t∈ts,Fd φ t):okTs φ ts:=by
 induction ts with
 |nil=>unfold okTs;trivial
 |cons t ts C=>unfold okTs;exact[h t zAl,C λu z=>h u (zAh _ z)]
def Jl{φ:Co->Prop}{ts:List Ev}(h:okTs φ ts):∀t∈ts,Fd φ t:=by
 induction ts with
 |nil=>intro t F;cases F
 |cons t ts C=>
  unfold okTs at h;intro u z;rcases zAg.mp z with rfl|z
  .exact h.1
  .exact C h.2 u z
def Bi.tag{H:Hp}{v:V}{t:Ev}(h:Bi H v t):∃p xs,v=.ref p/\H p=g (.tup (.str (WK t)::xs)):=by
 cases t with
 |«at» c=>
  cases c<;>(unfold Bi at h;let[p,e,h]:=h;exact[p,_,e,h])
 |no t=>unfold Bi at h;let[p,w,e,h,_]:=h;exact[p,_,e,h]
 |al L=>unfold Bi at h;let[p,l,C,e,h,_]:=h;exact[p,_,e,h]
 |so L=>unfold Bi at h;let[p,l,C,e,h,_]:=h;exact[p,_,e,h]
def R5:Co->Int
 |.alw=>1
 |.day _ _=>3
 |_=>2
def U1(c:Co):Fi (.at c)=R5 c:=by cases c<;>(unfold Fi;rfl)
def Qj(xs:List V){k:Nat}(h:k<=xs.length):Qs xs M (g (k:Int))=xs.take k:=by
 unfold Qs;rw[HT.sIx_none,HT.sIx_nat,sI,Nat.sub_zero,zCm h]
def SL{c:Prop}{L:Decidable c}{t u:TS}{D:Uh}{σ:St}{H:Hp}(C:St->Hp->Prop)
  (P:c->∀N:St->Hp->Prop,(∀F H',C F H'->N F H')->t { D with nx:=N } σ H) (Q:¬c->∀N:St->Hp->Prop,(∀F H',C F H'->N F H')->u { D with nx:=N } σ H)
  (R:∀F H',C F H'->D.nx F H'):@ite Prop c L (t D σ H) (u D σ H):=by
 by_cases z:c
 .rw[mS z];exact P z _ R
 .rw[mK z];exact Q z _ R
abbrev gZ:=J×V
def MN:Co->List gZ
 |.alw=>[]
 |.cau n=>#[("cause",.str n)]
 |.thi n=>#[("thing",.str n)]
 |.day a b=>#[("day",.int a),("day",.int (b+1))]
 |.ovr m=>#[("cents",.int m)]
mutual
def Rv:Ev->List gZ
 |.at c=>MN c
 |.no t=>Rv t
 |.al C=>marksTs C
 |.so C=>marksTs C
def marksTs:List Ev->List gZ
 |[]=>[]
 |t::C=>Rv t++marksTs C
end
mutual
theorem Oh{φ:Co->Prop}:∀t:Ev,Fd φ t->((Rv t).length:Int)<=Fi t
 |.at c,_=>by cases c<;>(unfold Rv Fi;simp[MN])
 |.no t,h=>by
  unfold Fd at h;let:=Oh t h;unfold Rv;rw[Fi]
  split<;>lia
 |.al C,h=>by
  unfold Fd at h;let:=marks_sizes 3 C h.2.2;unfold Rv;rw[Fi]
  lia
 |.so C,h=>by
  unfold Fd at h;let:=marks_sizes 2 C h.2.2;unfold Rv;rw[Fi]
  lia
theorem marks_sizes{φ:Co->Prop}(m:Int):∀ts:List Ev,okTs φ ts->((marksTs ts).length:Int)<=sizesT m ts
 |[],_=>by unfold marksTs sizesT;decide
 |t::ts,h=>by
  unfold okTs at h;let C:=Oh t h.1;let z:=marks_sizes m ts h.2;unfold marksTs;rw[sizesT,zAc]
  split<;>lia
end
def Dm(b:J):List (List J)->List J
 |[]=>[]
 |w::C=>b::(w++Dm b C)
def Dh(b:J):List (List J)->List J
 |[]=>[]
 |w::C=>w++Dm b C
def Mb(b:J)(ws:List (List J))(w:List J):Dm b (ws++#[w])=Dm b ws++b::w:=by
 induction ws with
 |nil=>show b::(w++[])=b::w;rw[zAA]
 |cons v H C=>rw[zBc,Dm,C,Dm,zBc,zAw]
def Y9(b:J){ws:List (List J)}(h:ws≠[])(w:List J):Dh b (ws++#[w])=Dh b ws++b::w:=by
 cases ws with
 |nil=>exact mC I h
 |cons v C=>rw[zBc,Dh,Mb,Dh,zAw]
mutual
inductive Rn(wc:Co->List J)(φ:Co->Prop):Nat->List J->Ev->Nat->Prop
 |leaf {c d}:φ c->Rn wc φ 0 (wc c) (.at c) d
 |no {ws t d}:Rn wc φ 0 ws t d->Rn wc φ 0 (O "not" :: ws) (.no t) (d+1)
 |br {ws t d}:Rn wc φ 2 ws t d->Rn wc φ 0 (O "(" :: (ws++#[O ")"])) t (d+1)
 |row1 {ws t d}:Rn wc φ 0 ws t d->Rn wc φ 1 ws t d
 |rowN {wss ts d}:Spls wc φ 0 wss ts d->2<=ts.length->ts.length<=8->Rn wc φ 1 (Dh (O "and") wss) (.al ts) d
 |rows1 {ws t d}:Rn wc φ 1 ws t d->Rn wc φ 2 ws t d
 |rowsN {wss ts d}:Spls wc φ 1 wss ts d->2<=ts.length->ts.length<=8->Rn wc φ 2 (Dh (O "or") wss) (.so ts) d
inductive Spls(wc:Co->List J)(φ:Co->Prop):Nat->List (List J)->List Ev->Nat->Prop
 |nil {k d}:Spls wc φ k [] [] d
 |cons {k ws t d' wss ts d}:Rn wc φ k ws t d'->d'<=d->Spls wc φ k wss ts d->Spls wc φ k (ws::wss) (t::ts) d
end
theorem Spls.len{wc:Co->List J}{φ:Co->Prop}{k:Nat}:∀{wss} {ts} {d:Nat},Spls wc φ k wss ts d->wss.length=ts.length
 |_,_,_,.nil=>rfl
 |_,_,_,.cons _ _ h=>by rw[zAd,zAd,Spls.len h]
theorem Spls.get{wc:Co->List J}{φ:Co->Prop}{k:Nat}:∀{wss} {ts} {d:Nat},Spls wc φ k wss ts d->∀{i:Nat} {t:Ev},ts[i]?=g t->∃ws d',wss[i]?=g ws/\d'<=d/\Rn wc φ k ws t d'
 |_,_,_,.nil,_,_,e=>by simp at e
 |_,_,_,.cons (ws:=ws) (d':=d') h z _,0,_,e=>by
  simp at e;subst e;exact[ws,d',I,z,h]
 |_,_,_,.cons _ _ h,i+1,_,e=>by
  let[ws,d',F,C,L]:=Spls.get h (i:=i) (by simpa using e);exact[ws,d',by simpa using F,C,L]
mutual
def Bz(wc:Co->List J):Ev->List J
 |.at c=>wc c
 |.no t=>O "not" :: (if Fe t<3 then O "(" :: (Bz wc t++#[O ")"]) else Bz wc t)
 |.al C=>Dh (O "and") (innerT wc 3 C)
 |.so C=>Dh (O "or") (innerT wc 2 C)
def innerT(wc:Co->List J)(m:Int):List Ev->List (List J)
 |[]=>[]
 |t::C=>(if Fe t<m then O "(" :: (Bz wc t++#[O ")"]) else Bz wc t)::innerT wc m C
end
def Lv(wc:Co->List J)(m:Int)(t:Ev):List J:=if Fe t<m then O "(" :: (Bz wc t++#[O ")"]) else Bz wc t
def Og(wc:Co->List J)(m:Int)(ts:List Ev):innerT wc m ts=ts.map (Lv wc m):=by
 induction ts with
 |nil=>unfold innerT;rfl
 |cons t ts C=>rw[innerT,C];rfl
def Ua(wc:Co->List J)(t:Ev):Bz wc (.no t)=O "not" :: Lv wc 3 t:=by rw[Bz];rfl
def Uc(wc:Co->List J)(ts:List Ev):Bz wc (.al ts)=Dh (O "and") (ts.map (Lv wc 3)):=by rw[Bz,Og]
def Ut(wc:Co->List J)(ts:List Ev):Bz wc (.so ts)=Dh (O "or") (ts.map (Lv wc 2)):=by rw[Bz,Og]
def Iy(wc:Co->List J)(c:Co):Bz wc (.at c)=wc c:=by rw[Bz]
def FA(t:Ev):1<=Fe t/\Fe t<=3:=by
 cases t with
 |«at» c=>exact[show(1:Int)<=3 by lk,show(3:Int)<=3 by lk]
 |no _=>exact[show(1:Int)<=3 by lk,show(3:Int)<=3 by lk]
 |al _=>exact[show(1:Int)<=2 by lk,show(2:Int)<=3 by lk]
 |so _=>exact[show(1:Int)<=1 by lk,show(1:Int)<=3 by lk]
mutual
theorem Wd:∀t:Ev,0<=Dz t
 |.at c=>by rw[Dz];lia
 |.no t=>by let:=Wd t;rw[Dz];split<;>lia
 |.al C=>by rw[Dz];exact deeps_nn 3 C
 |.so C=>by rw[Dz];exact deeps_nn 2 C
theorem deeps_nn(m:Int):∀ts:List Ev,0<=deepsT m ts
 |[]=>by unfold deepsT;omega
 |t::ts=>by let:=deeps_nn m ts;rw[deepsT];omega
end
section
variable {wc:Co->List J} {φ:Co->Prop}
mutual
theorem ME:∀t:Ev,Fd φ t->Rn wc φ 2 (Bz wc t) t (Dz t).toNat/\(2<=Fe t->Rn wc φ 1 (Bz wc t) t (Dz t).toNat)/\(Fe t=3->Rn wc φ 0 (Bz wc t) t (Dz t).toNat)
 |.at c,h=>by
  unfold Fd at h;rw[Bz];let p:Rn wc φ 0 (wc c) (.at c) (Dz (.at c)).toNat:=.leaf h;exact[.rows1 (.row1 p),λx=>.row1 p,λx=>p]
 |.no t,h=>by
  unfold Fd at h;let[L,N,F]:=ME t h;let C:=Wd t;let p:Rn wc φ 0 (Bz wc (.no t)) (.no t) (Dz (.no t)).toNat:=by
   rw[Bz,Dz];by_cases c:Fe t<3
   .rw[mS c,mS c,show(Dz t+1+1).toNat=((Dz t).toNat+1)+1 by lia]
    exact .no (.br L)
   .rw[mK c,mK c,show(Dz t+1).toNat=(Dz t).toNat+1 by lia]
    exact .no (F (by let:=(FA t).2;lia))
  exact[.rows1 (.row1 p),λx=>.row1 p,λx=>p]
 |.al H,h=>by
  unfold Fd at h;let p:Rn wc φ 1 (Bz wc (.al H)) (.al H) (Dz (.al H)).toNat:=by
   rw[Bz,Dz];exact .rowN (canons 3 H h.2.2 |>.1 I) h.1 h.2.1
  exact[.rows1 p,λx=>p,λz=>mC z (show ¬(2:Int)=3 by lk)]
 |.so H,h=>by
  unfold Fd at h;let p:Rn wc φ 2 (Bz wc (.so H)) (.so H) (Dz (.so H)).toNat:=by
   rw[Bz,Dz];exact .rowsN (canons 2 H h.2.2 |>.2 I) h.1 h.2.1
  exact[p,λz=>mC z (show ¬(2:Int)<=1 by lk),λz=>mC z (show ¬(1:Int)=3 by lk)]
theorem canons(m:Int):∀ts:List Ev,okTs φ ts->(m=3->Spls wc φ 0 (innerT wc m ts) ts (deepsT m ts).toNat)/\(m=2->Spls wc φ 1 (innerT wc m ts) ts (deepsT m ts).toNat)
 |[],_=>by
  unfold innerT;exact[λx=>.nil,λx=>.nil]
 |t::ts,h=>by
  unfold okTs at h;let[H,R,Q]:=ME t h.1;let[U,S]:=canons m ts h.2;let W:=Wd t;let X:=deeps_nn m ts;refine[λe=>?_,λe=>?_]
  .have U:=U e
   subst e;let N:∀{k z P d d'},Spls wc φ k z P d->d<=d'->Spls wc φ k z P d':=λh L=>by
    induction h using Spls.rec (motive_1:=λx x x x x=>True)with
    |nil=>exact .nil
    |cons a b c C F=>exact .cons a (zAG b L) (F L)
    |_=>trivial
   rw[innerT,deepsT];by_cases c:Fe t<3
   .rw[mS c,mS c]
    exact .cons (d':=(Dz t).toNat+1) (.br H) zY (N U zY)
   .rw[mK c,mK c]
    exact .cons (d':=(Dz t).toNat) (Q (by let:=(FA t).2;omega)) zY (N U zY)
  .have S:=S e
   subst e;let N:∀{k z P d d'},Spls wc φ k z P d->d<=d'->Spls wc φ k z P d':=λh L=>by
    induction h using Spls.rec (motive_1:=λx x x x x=>True)with
    |nil=>exact .nil
    |cons a b c C F=>exact .cons a (zAG b L) (F L)
    |_=>trivial
   rw[innerT,deepsT];by_cases c:Fe t<2
   .rw[mS c,mS c]
    exact .cons (d':=(Dz t).toNat+1) (.row1 (.br H)) zY (N S zY)
   .rw[mK c,mK c]
    exact .cons (d':=(Dz t).toNat) (R zY) zY (N S zY)
end
end
def Zk(b:J)(ws:List (List J)):(Dm b ws).length=ws.length+(ws.map oJ).sum:=by
 induction ws with
 |nil=>rfl
 |cons w ws C=>rw[Dm,zAd,zAc,C,zAd,zAr,zBx];lia
mutual
theorem Pw{wc:Co->List J}{φ:Co->Prop}(z:∀c,φ c->((wc c).length:Int)=R5 c):∀t:Ev,Fd φ t->((Bz wc t).length:Int)=Fi t
 |.at c,h=>by unfold Fd at h;rw[Bz,U1];exact z c h
 |.no t,h=>by
  unfold Fd at h;let:=Pw z t h;rw[Bz,Fi,zAd]
  split
  .rw[zAd,zAc,zBe];omega
  .omega
 |.al C,h=>by
  unfold Fd at h;let:=inner_len z 3 C h.2.2;rw[Bz,Fi];cases C with
  |nil=>exact mC h.1 zZ
  |cons t C=>
   rw[innerT]at this⊢;rw[Dh,zAc,Zk];rw[zAr,zBx]at this;let l:(innerT wc 3 C).length=C.length:=by rw[Og,zAb]
   rw[zAd];omega
 |.so C,h=>by
  unfold Fd at h;let:=inner_len z 2 C h.2.2;rw[Bz,Fi];cases C with
  |nil=>exact mC h.1 zZ
  |cons t C=>
   rw[innerT]at this⊢;rw[Dh,zAc,Zk];rw[zAr,zBx]at this;let l:(innerT wc 2 C).length=C.length:=by rw[Og,zAb]
   rw[zAd];omega
theorem inner_len{wc:Co->List J}{φ:Co->Prop}(z:∀c,φ c->((wc c).length:Int)=R5 c)(m:Int):∀ts:List Ev,okTs φ ts->((((innerT wc m ts).map oJ).sum:Nat):Int)=sizesT m ts
 |[],_=>by unfold innerT sizesT;rfl
 |t::ts,h=>by
  unfold okTs at h;let C:=Pw z t h.1;let F:=inner_len z m ts h.2;rw[innerT,sizesT,zAr,zBx]
  split
  .rw[zAd,zAc,zBe];lia
  .lia
end
def LM:∀{φ:Co->Prop} (t:Ev),Fd φ t->1<=Fi t:=by
 intro φ t h;let:=Oh t h;cases t with
 |«at» c=>rw[U1];cases c<;>simp[R5]
 |no t=>unfold Fd at h;let:=Oh t h;rw[Fi];split<;>lia
 |al C=>unfold Fd at h;let:=marks_sizes 3 C h.2.2;rw[Fi];lia
 |so C=>unfold Fd at h;let:=marks_sizes 2 C h.2.2;rw[Fi];lia
theorem B2{C:J->Prop}{b:J}(F:C b):∀{wss},(∀ws∈wss,∀w∈ws,C w)->∀w∈Dm b wss,C w
 |[],_=>by intro w z;cases z
 |ws::wss,h=>by
  intro w z;rw[Dm]at z;rcases zAg.mp z with rfl|z
  .exact F
  .rcases zAE.mp z with z|z
   .exact h ws zAl w z
   .exact B2 F (λv L=>h v (zAh _ L)) w z
def A9{C:J->Prop}{b:J}(L:C b){wss:List (List J)}(h:∀ws∈wss,∀w∈ws,C w):∀w∈Dh b wss,C w:=by
 cases wss with
 |nil=>intro w z;cases z
 |cons ws wss=>
  intro w z;rw[Dh]at z;rcases zAE.mp z with z|z
  .exact h ws zAl w z
  .exact B2 L (λv F=>h v (zAh _ F)) w z
mutual
theorem Ue{wc:Co->List J}{φ:Co->Prop}{C:J->Prop}(F:∀c,φ c->∀w∈wc c,C w)(k1:C (O "not"))(k2:C (O "("))(k3:C (O ")"))(L:C (O "and"))(k5:C (O "or")):∀t:Ev,Fd φ t->∀w∈Bz wc t,C w
 |.at c,h=>by unfold Fd at h;rw[Bz];exact F c h
 |.no t,h=>by
  unfold Fd at h;let r:=Ue F k1 k2 k3 L k5 t h;rw[Bz];intro w z;rcases zAg.mp z with rfl|z
  .exact k1
  .split at z
   .rcases zAg.mp z with rfl|z
    .exact k2
    .rcases zAE.mp z with z|z
     .exact r w z
     .rw[zAp.mp z];exact k3
   .exact r w z
 |.al H,h=>by
  unfold Fd at h;rw[Bz];exact A9 L (inner_all F k1 k2 k3 L k5 3 H h.2.2)
 |.so H,h=>by
  unfold Fd at h;rw[Bz];exact A9 k5 (inner_all F k1 k2 k3 L k5 2 H h.2.2)
theorem inner_all{wc:Co->List J}{φ:Co->Prop}{H:J->Prop}(C:∀c,φ c->∀w∈wc c,H w)(k1:H (O "not"))(k2:H (O "("))(k3:H (O ")"))(L:H (O "and"))(k5:H (O "or"))(m:Int):∀ts:List Ev,okTs φ ts->∀ws∈innerT wc m ts,∀w∈ws,H w
 |[],_=>by unfold innerT;intro ws F;cases F
 |t::ts,h=>by
  unfold okTs at h;let r:=Ue C k1 k2 k3 L k5 t h.1;let S:=inner_all C k1 k2 k3 L k5 m ts h.2;rw[innerT];intro ws F w z;rcases zAg.mp F with rfl|F
  .split at z
   .rcases zAg.mp z with rfl|z
    .exact k2
    .rcases zAE.mp z with z|z
     .exact r w z
     .rw[zAp.mp z];exact k3
   .exact r w z
  .exact S ws F w z
end
structure Gf(P:mF)(w:mR)(K:zAa)(mg:J->Option lV)(base:mX)(k:Nat)(C:T)(m:J)(ps:List J)(sp:Sp):Prop where
 ex:∃f fd,Ar P w K mg base (Nt P w) k f fd ps sp/\Dc K fd ps []/\IT K C m f
 cl:kF K C
section
variable {X:Cx} {k:Nat} {C:T} {m:J} {ps:List J} {sp:Sp} {e o:nY} {es:List nY} {apos pos:uL} {ta:TE} {t:TA} {W:St->XK}
inductive WM(C:T)(m:J)(x:V)(H:Hp)(R:T->Prop):Prop
 |mk (a dx:T) (fs:List (J×V)) (e:x=.ref a) (h:H a=g (.ins C dx fs)) (n:fs.lookup m=M) (q:R a)
def LI(C:T)(m:J)(sp:Sp)(W:St->XK)(ta:TE)(t:TA):TE:=λL H Q=>ta L H λx N=>WM C m x N λa=>t L N λP R=>sp (.ref a::P) R Q (W L)
def Ph{pl:vH Bool}(M:Gf X.prog X.w X.K X.mg X.base k C m ps sp)(y:Cc k X.A)(v:jU X W)(w:PE X o ta)(U:PA X (e::es) t)
  (z:mH (e::es) X.env=(lX,nU e X.env)::mH es X.env:=by rfl) (K:(oB pos (mH es X.env)).any (·.1)=lX:=by rfl)
  (i:nU (.Call (.Attribute o m apos) (e::es) [] pos) X.env=(do
   let c <- nU o X.env
   qP apos.atName
   let (f,first) <- pC #[c] (pS c m pl)
   qX pos f first (oB pos (mH (e::es) X.env)) (qC pos (oQ [] X.env))):=by rfl) :
  PE X (.Call (.Attribute o m apos) (e::es) [] pos) (LI C m sp W ta t):=by
 intro E s d H Q A h;let[f,fd,F,b,L]:=M.ex;refine zBv (pl:=pl) (Er (w E s d H _ A h) λu s1 h9=>?_) i;let[x,j,S,R,a,dx,fs,n,N,l,q]:=h9;subst n;obtain rfl:u=mG a:=R;refine Lw S N M.cl L l ?_;refine zBk (first:=#[.ref a]) (h₀:=X.base) A.ok.mod.kin L.kp (Er (U pos E s1 d j _ S q) λus s2 ⟨vs,H2,P,r,p⟩=>[P.kIn,?_]) z K;exact Wc (us:=.ref a::us) (vs:=.ref a::vs) F y b v P (.cons I r) p
def Fb{pl:vH Bool}(M:Gf X.prog X.w X.K X.mg X.base k C m ps sp)(j:Cc k X.A)(P:jU X W)(U:PE X o ta)
  (d:nU (.Call (.Attribute o m apos) [] [] pos) X.env=(do
   let K <- nU o X.env
   qP apos.atName
   let (f,first) <- pC #[K] (pS K m pl)
   qX pos f first (oB pos (mH [] X.env)) (qC pos (oQ [] X.env))):=by rfl) :
  PE X (.Call (.Attribute o m apos) [] [] pos) (LI C m sp W ta AH):=by
 intro E s p H Q R h;let[f,v,F,b,L]:=M.ex;refine zBv (pl:=pl) (Er (U E s p H _ R h) λu w N=>?_) d;let[x,r,z,S,a,y,n,c,A,l,q]:=N;subst c;obtain rfl:u=mG a:=S;refine Lw z A M.cl L l ?_;exact zCg (first:=#[.ref a]) z.kIn L.kp (Wc (us:=#[.ref a]) (vs:=#[.ref a]) F j b P z (.cons I .nil) q)
end
inductive No where
 |at (n:Nat)|deep
def No.on(k:Nat):No->No
 |.at n=>.at (k+n)
 |.deep=>.deep
def No.on_on(i j:Nat)(f:No):(f.on j).on i=f.on (i+j):=by
 cases f with
 |«at» n=>show No.at (i+(j+n))=No.at (i+j+n);rw[v9]
 |deep=>rfl
inductive Af(nm am:J->Prop)(dy:J->Nat->Prop):List J->Nat->Prop
 |word {ws}:(∀x,ws.head?=g x->x∉#[O "not",O "(",O "always",O "cause",O "thing",O "days",O "over"])->Af nm am dy ws 0
 |cause {ws}:(∀x,ws.head?=g x->¬nm x)->Af nm am dy (O "cause" :: ws) 1
 |thing {ws}:(∀x,ws.head?=g x->¬nm x)->Af nm am dy (O "thing" :: ws) 1
 |over {ws}:(∀x,ws.head?=g x->¬am x)->Af nm am dy (O "over" :: ws) 1
 |day1 {ws}:(∀x,ws.head?=g x->∀n,¬dy x n)->Af nm am dy (O "days" :: ws) 1
 |day2 {x n ws}:dy x n->(∀y,ws.head?=g y->∀m,dy y m->m<n)->Af nm am dy (O "days" :: x::ws) 2
inductive Fl(wc:Co->List J)(φ:Co->Prop)(af:List J->Nat->Prop):Nat->Nat->List J->No->Prop
 |atom {dp ws n}:af ws n->Fl wc φ af 0 dp ws (.at n)
 |deep {dp x ws}:6<=dp->x=O "not" \/ x=O "("->Fl wc φ af 0 dp (x::ws) .deep
 |no {dp ws f}:dp<6->Fl wc φ af 0 (dp+1) ws f->Fl wc φ af 0 dp (O "not" :: ws) (f.on 1)
 |br {dp ws f}:dp<6->Fl wc φ af 2 (dp+1) ws f->Fl wc φ af 0 dp (O "(" :: ws) (f.on 1)
 |open {dp ws t d post}:Rn wc φ 2 ws t d->dp+1+d<=6->(∀x,post.head?=g x->x∉#[O "and",O "or",O ")"])->Fl wc φ af 0 dp (O "(" :: (ws++post)) (.at (1+ws.length))
 |row0 {dp ws f}:Fl wc φ af 0 dp ws f->Fl wc φ af 1 dp ws f
 |rowN {dp wss ts d ws f}:Spls wc φ 0 wss ts d->dp+d<=6->1<=ts.length->ts.length<8->Fl wc φ af 0 dp ws f->Fl wc φ af 1 dp (Dh (O "and") wss++O "and" :: ws) (f.on ((Dh (O "and") wss).length+1))
 |row9 {dp wss ts d ws}:Spls wc φ 0 wss ts d->dp+d<=6->ts.length=8->Fl wc φ af 1 dp (Dh (O "and") wss++O "and" :: ws) (.at ((Dh (O "and") wss).length+1))
 |rows0 {dp ws f}:Fl wc φ af 1 dp ws f->Fl wc φ af 2 dp ws f
 |rowsN {dp wss ts d ws f}:Spls wc φ 1 wss ts d->dp+d<=6->1<=ts.length->ts.length<8->Fl wc φ af 1 dp ws f->Fl wc φ af 2 dp (Dh (O "or") wss++O "or" :: ws) (f.on ((Dh (O "or") wss).length+1))
 |rows9 {dp wss ts d ws}:Spls wc φ 1 wss ts d->dp+d<=6->ts.length=8->Fl wc φ af 2 dp (Dh (O "or") wss++O "or" :: ws) (.at ((Dh (O "or") wss).length+1))
inductive lJ(wc:Co->List J)(φ:Co->Prop)(af:List J->Nat->Prop):List J->No->Prop
 |long {ws}:60<ws.length->lJ wc φ af ws (.at 60)
 |read {ws f}:ws.length<=60->Fl wc φ af 2 0 ws f->lJ wc φ af ws f
 |more {ws t d x post}:(ws++x::post).length<=60->Rn wc φ 2 ws t d->d<=6->x≠O "and"->x≠O "or"->lJ wc φ af (ws++x::post) (.at ws.length)
section
variable {wc:Co->List J} {φ:Co->Prop} {af:List J->Nat->Prop}
def Fl.up{dp:Nat}{ws:List J}{f:No}(h:Fl wc φ af 0 dp ws f):Fl wc φ af 2 dp ws f:=.rows0 (.row0 h)
theorem Fl.ahead:∀{os} {dp:Nat} {ws} {f},(∀o∈os,o=O "not" \/ o=O "(")->dp+os.length<=6->Fl wc φ af 0 (dp+os.length) ws f->Fl wc φ af 0 dp (os++ws) (f.on os.length)
 |[],dp,ws,f,_,_,h=>by
  let e:f.on ([]:List J).length=f:=by
   cases f with
   |«at» n=>show No.at (0+n)=No.at n;rw[wZ]
   |deep=>rfl
  rw[e];exact h
 |o::os,dp,ws,f,z,F,h=>by
  rw[zAd]at F h;let C:=Fl.ahead (os:=os) (dp:=dp+1) (λp H=>z p (zAh _ H)) Z (by rw[show dp+1+os.length=dp+(os.length+1) by lia];exact h);let e:f.on (o::os).length=(f.on os.length).on 1:=by rw[No.on_on,zAd,Nat.add_comm]
  rw[e,zBc];rcases z o (zAl ..)with rfl|rfl
  .exact .no Z C
  .exact .br Z C.up
def Fl.seventh{os ws:List J}(F:∀o∈os,o=O "not" \/ o=O "(")(N:7<=os.length):Fl wc φ af 0 0 (os++ws) .deep:=by
 let e:os++ws=os.take 6++(os.drop 6++ws):=by rw[<- zAw,rZ]
 let L:(os.take 6).length=6:=by rw[zAq];lia
 rw[e];let C:Fl wc φ af 0 (0+(os.take 6).length) (os.drop 6++ws) .deep:=by
  cases z:os.drop 6 with
  |nil=>
   let:=nI oJ z;rw[zBb,rV]at this
   lia
  |cons x H=>
   rw[L];exact .deep (zAm _) (F x (xN (by rw[z];exact zAl ..)))
 exact Fl.ahead (f:=.deep) (λo h=>F o (zAW h)) Z C
end
end L2
namespace L2
open PySem PySem.Spec PyProof PyProof.Rows
def ML(e:T)(c:lV)(d:Option T):HO:=.ext λh=>∃C t,h.get? e=g C/\C.cls=c/\C.dict=d/\C.data=.fields #v[.ref t,.none,.none,.none,.bool lX,.none]
def unt(H:Hp)(e:T):Hp:=λb=>if b=e then M else H b
def My{H:Hp}{e:T}:unt H e e=M:=mS I
def Iv{H:Hp}{e b:T}(n:b≠e):unt H e b=H b:=mK n
section
variable {X:Cx} {pins:List (T×oH)} {σ:St} {H:Hp} {s:lZ} {e:T}
def Am.excN{c:lV}{d:Option T}(C:Am X pins σ H s)(h:H e=g (ML e c d)):∃oe t,s.heap.get? e=g oe/\oe.cls=c/\oe.dict=d/\oe.data=.fields #v[.ref t,.none,.none,.none,.bool lX,.none]:=
 (show Cg X.prog X.w H s.heap e (ML e c d) from C.hok e _ h).1
def Cg.unt{P:mF}{w:mR}{H:Hp}{h:mX}{a e:T}{φ:mX->Prop}(F:H e=g (.ext φ)):∀{o},Cg P w H h a o->Cg P w (L2.unt H e) h a o:=by
 intro o;let U:∀{b:T} {Q:HO},H b=g Q->(∀E,Q≠.ext E)->L2.unt H e b=g Q:=λ{b Q} q n=>by
  rw[Iv]
  .exact q
  .intro z
   rw[z,F]at q;exact n φ (mI q).symm
 induction o with
 |dT L=>
  intro x;let[R,N,W,p,r]:=x;refine[R,N,W,?_,r];exact Paired.mapP p λa b q=>[q.1,U q.2.1 (λy z=>by cases z),q.2.2]
 |ins C K S=>
  intro x;let[R,r]:=x;exact[U R (λy z=>by cases z),r]
 |frz o u A=>
  intro x;exact[x.1,A x.2]
 |_=>intro x;exact x
def Am.unt{φ:mX->Prop}(C:Am X pins σ H s)(F:H e=g (.ext φ)):Am X pins σ (L2.unt H e) s:=by
 let R:∀{b:T} {P:HO},H b=g P->(∀A,P≠.ext A)->L2.unt H e b=g P:=λ{b P} q n=>by
  rw[Iv]
  .exact q
  .intro z
   rw[z,F]at q;exact n φ (mI q).symm
 let Q:∀{b:T},H b=M->L2.unt H e b=M:=λ{b} q=>by
  by_cases z:b=e
  .rw[z,My]
  .rw[Iv z,q]
 refine[C.ok,C.os,C.bare,[C.base.keep,C.base.slot,λb o q n N=>Q (C.base.free b o q n N),C.base.there,λb U q=>R (C.base.tups b U q) (λy z=>by cases z),λb o u q=>R (C.base.frzs b o u q) (λy z=>by cases z),λb W q=>?_],C.loc,C.cell,Q C.free,λx c q=>Q (C.freeC x c q),λp K=>?_,λb u q=>?_,C.len]
 .let[m,z]:=C.base.tbls b W q
  exact[m,R z (λy z=>by cases z)]
 .let[E,S,L]:=C.pin p K
  exact[E,Q S,L]
 .have n:b≠e:=λz=>by rw[z,My]at q;cases q
  rw[Iv n]at q;exact(C.hok b u q).unt F
end
section
variable {a:u4} {A:mZ} {E:lV->lZ->Prop} {env:sB}
variable {nm q:J} {C N:T} {bs bm:List lV} {hdct:Bool} {sn:List J} {sub:List lV} {ab:Bool} {col:Option Bool} {dd:Option T} {k0 k1 k2 k3 k5:Option lV} {newId:String}
def Uw{s:lZ}{x:vH lV}{Q:Flow->lZ->Prop}(z:bm.contains (.type "BaseException")=B)(K:A.handled=M)
  (h:mO a A x (λv W=>∃e oe t,v=.ref e/\W.heap.get? C=g (qF nm q C N bs bm hdct sn sub ab col dd k0 k1 k2 k3 k5 newId) /\
   W.heap.get? e=g oe/\oe.cls=.ref C/\oe.data=.fields #v[.ref t,.none,.none,.none,.bool lX,.none]/\E (.ref e) W) E s) :
  mO a A (yH env (g x) M) Q E s:=by
 let S:(mG C::bm).contains (.type "BaseException")=B:=by rw[tD,z,wL]
 unfold yH;refine zCw (nV h (λv W X=>?_) λy y x=>x);let[e,oe,t,rfl,U,P,L,F,R]:=X;let[f,H,d,c,b]:=W;cases oe;simp only at L F;subst L F
 repeat (first|with_reducible refine oK P ?_|with_reducible refine oK U ?_|(with_reducible refine tS U ?_;rw[S])|wp_step)
 exact wpAny_raiseNew_none K R
end
section
variable {X:Cx} {x f:J} {C:T} {np cpos pos apos:uL} {e o value:nY} {es:List nY} {t:TA} {ta tv:TE} {W:St->XK}
def cH(K:zAa)(ta tv:TE)(f:J):TS:=λD L H=>tv L H λy P=>ta L P λx N=>∃a C,x=.ref a/\N a=g (ML a (.ref C) M)/\XSet K C f /\
 ∀d,N d=M->d≠a->D.nx L (upd (upd N a (ML a (.ref C) (g d))) d (.xd #[(f,y)]))
def F6(ha:PE X o ta)(hv:PE X value tv)(hs:tO value (g (.Attribute o f apos)) pos.line X.env=pure lX):PS X (.Assign #[.Attribute o f apos] value pos) (cH X.K ta tv f):=by
 intro E s K H D A h;refine vE (Er (hv E s K H _ A h) λu s1 ⟨y,r,p,ry,q⟩=>Er (ha E s1 K r _ p q) λw F h9=>?_) hs;let[x,H2,L,rx,a,C,ex,S,R,v]:=h9;subst ex;obtain rfl:w=mG a:=rx;let[oe,t0,j,b,m,d]:=L.excN S;refine OL R L.kIn j b m d λhp tk P n k=>?_;let U:F.heap.get? ⇑F=M:=zBy (zAm _);let N:=L.no U;let c:⇑F≠a:=(zAu (zAo j)).symm;let i:Am X E K (upd H2 a (ML a (.ref C) (g ⇑F))) { F with heap:=hp,toks:=tk }:=by
  refine L.write (x:=a) (e:=a) (by rw[S];exact oX) (.inl I) k [_,P] ?_;refine[[_,t0,P,b,I,d],[_,P],λp1 p2 pp kk=>?_];let[o1,l,y1,y2]:=pp;exact[o1,l,kk _ y1,y2]
 refine[K,_,i.trackO (o:=.xd #[(f,y)]) (L.fxOk U (by rw[Ak c];exact N)) [_,n,λQ=>?_],v _ N c];by_cases z:Q=f
 .subst z
  rw[mS I];simp only[zBR,beq_self_eq_true];exact ry
 .rw[mK z]
  let:(Q==f)=lX:=beq_eq_false_iff_ne.mpr z;simp only[zBR,this];trivial
def BZ(C:T)(sp:Sp)(W:St->XK)(t:TA):TS:=λy L H=>t L H λP N=>P.length<=sizeLine/\∀a,N a=M->sp (.ref a::P) (upd N a (ML a (.ref C) M)) (λv Q=>v=.non/\∃d,Q a=g (ML a (.ref C) (g d))/\W L (.ref C) (g d) (unt Q a)) E0
def Gs{k:Nat}{ps}{sp}(hW:jU X W)(hc:X.calm=B)(M:PD X.prog X.w X.K X.mg X.base k x C ps sp)(hr:Cc (k+1) X.A)(hg:Gl X x)(ha:PA X (e::es) t)
  (a2:(x==("__debug__" : J))=lX:=by lk) (he:mH (e::es) X.env=(lX,nU e X.env)::mH es X.env:=by rfl) (a6:(oB cpos (mH es X.env)).any (·.1)=lX:=by rfl) :
  PS X (.Raise (g (.Call (.Name x np) (e::es) [] cpos)) lW pos) (BZ C sp W t):=by
 intro U s σ H D L h;let[f,fd,[[a8,j,m,P,q,FB],fn,kp],F,hb,p]:=M.ex;let[bm,N,nm,qn,bs,w,sn,a0,ab,a4,dd,k0,k1,k2,k3,k5,mN,hC,hN,i,Q]:=Vh L.mod.kin q;let E:mO (mP X.prog X.w) X.A (nU (.Call (.Name x np) (e::es) [] cpos) X.env) (λv S=>∃a l t,v=.ref a/\S.heap.get? C=g (qF nm qn C N bs bm w sn a0 ab a4 dd k0 k1 k2 k3 k5 j) /\
   S.heap.get? a=g l/\l.cls=.ref C/\l.data=.fields #v[.ref t,.none,.none,.none,.bool lX,.none]/\X.xe (.ref a) S) X.xe s:=by
  refine nQ (Fz L hg p ?_ a2);refine zBk (h₀:=X.base) L.ok.mod.kin kp (Er (ha cpos U s σ H _ L h) λb s1 ⟨vs,H1,c,r,hl,q1⟩=>[c.kIn,?_]) he a6;let[of,lf,cf]:=zAI.mp (show(X.K.lookup f).map (·.cls)=g (.type "function") from beq_iff_eq.mp fn);let a1:=c.bk _ _ hC;let a3:=hN.keeps c.bk;let T1:=Q.keeps c.bk;let[hh,gg,d,tk,os]:=s1;refine T3 FB T1 a1 a3 i (c.kIn _ _ lf) cf (by show b.length<=_;rw[<- r.length];exact hl) λh' R p=>?_;let[t0,ht,a7,_]:=p.there;let nH:=c.no p.new;let fx:Gh X U H1 R:=c.fxOk p.new nH;let n:=(c.kept (t':=tk) p.keeps).trackO (o:=ML R (.ref C) lW) fx [[_,t0,ht,I,I,I],[_,ht],λp1 p2 pp kk=>by
   let[o1,v1,y1,y2]:=pp;exact[o1,v1,kk _ y1,y2]]
  let hq:=q1 R nH;let r2:Bc (V.ref R::vs) (mG R::b):=.cons I r;let e2:(mG R::b)++[]=mG R::b:=zAA _;let a5:((mG R::b)++[]).length=ps.length:=by
   let z:=r2.length;rw[F.len _ _ _ _ hq]at z;rw[e2];exact z.symm
  let bd:=hb _ (mG R::b) n.kIn a5;rw[e2]at bd;refine oV (oG (F.run _ X.stack _ _ [mG R::b,[]] (mG R::b) _ _ E0 (hr.make C b []) (n.env0.make C b []) bd r2 hq) λr s' A=>?_);cases r with
  |error e=>exact Xo U σ _ _ e s' n A
  |ok fl=>
   cases fl with
   |ret u=>
    let[v,H',I3,rv,ev,d',eH,hw]:=n.after A;subst ev;let[l,t1,h1,h2,h3,h4]:=I3.excN eH;exact[rv,R,l,t1,I,I3.bk _ _ hC,h1,h2,h4,hW U σ (unt H' R) s' R (.ref C) (g d') (I3.unt eH) [l,_,h1,h2,h3,h4,by show 1<6;decide,I,[My,fx.2],.inl I] hw]
   |next=>exact nD A
   |brk=>exact nD A
   |cont=>exact nD A
 let hB:=Q.hasType FB.hasBase;let hd:=L.ok.hd hc;rw[arm_exec_Raise]
 first
  |exact zCw (oP (Uw hB hd (zCw (nV E (λv y K=>zCw (oP (zCx K))) λ_ _ z=>z))))
  |(simp only[evalOpt,Option.map];exact zCw (oP (Uw hB hd (zCw (nV E (λv y K=>zCw (oP (zCx K))) λ_ _ z=>z)))))
end
def Xe{X}{K}{f}{C}{e}{H}(F:PE X e H)(L:pI e f X.env (nU e X.env)=nU e X.env)(z:X.K=K:=by rfl):PE X (.Attribute e f C) (TK K H f):=z▸RT F L
def jS.make{k:Nat}{A:mZ}(r:jS (k+1) A)(C:T)(us:List lV)(z:List (J×lV)):jS k (A.under (.builtin "type.__call__" [.ref C::us,z])):=
 [by let:=r.dp;rw[Xy];lia,by let:=r.un;rw[Xk];lia]
section
variable {prog:mF} {w:mR} {A:mZ} {E:lV->lZ->Prop} {env:sB}
variable {nm q:J} {C N:T} {bs bm:List lV} {hdct:Bool} {sn:List J} {sub:List lV} {ab:Bool} {col:Option Bool} {dd:Option T} {k0 k1 k2 k3 k5:Option lV} {newId:String}
def O0{s:lZ}{x cs:vH lV}{Q:Flow->lZ->Prop}(P:bm.contains (.type "BaseException")=B)(n:∀(F:lZ) (R:lV->lZ->Prop),R mT F->mO (mP prog w) A cs R E F)
  (h:mO (mP prog w) A x (λv F=>∃e oe t,v=.ref e/\F.heap.get? C=g (qF nm q C N bs bm hdct sn sub ab col dd k0 k1 k2 k3 k5 newId) /\
   F.heap.get? e=g oe/\oe.cls=.ref C/\oe.data=.fields #v[.ref t,.none,.none,.none,.bool lX,.none] /\
   ∀h',zBa e F.heap h'->h'.get? e=g { oe with data:=.fields #v[.ref t,.none,.none,.none,.bool B,.none] }->mO (mP prog w) A (raiseNew (.ref e):vH Flow) Q E { F with heap:=h' }) E s) :
  mO (mP prog w) A (yH env (g x) (g cs)) Q E s:=by
 let m:(mG C::bm).contains (.type "BaseException")=B:=by rw[tD,P,wL]
 unfold yH;refine zCw (nV h (λv F c=>?_) λ_ _ x=>x);let[e,oe,t,rfl,X,f,S,H,a]:=c;let[K,W,d,tk,os]:=F;let[oc,l,ai,j]:=oe;simp only at S H;subst S H;refine zCw (oE (n _ _ (zCw (zCx ?_))));show mO (mP prog w) A (pC #[mT] (excFromValue (mG e) "exceptions must derive from BaseException") >>= _) _ _ _
 repeat (first|with_reducible refine oK f ?_|with_reducible refine oK X ?_|(with_reducible refine tS X ?_;rw[m])|wp_step)
 let y:C≠e:=by
  intro z;rw[z]at X;rw[X]at f;let:=nI Obj.cls (mI f);cases this
 let k:=zBa.update K e (mW λx=>x.setIfInBounds 3 mT);let i:(K.update e (mW λx=>x.setIfInBounds 3 mT)).get? e=g { cls:=.ref C,dict:=l,data:=.fields #v[.ref t,.none,.none,.none,.bool lX,.none],slots:=j }:=zAT _ f I;let U:=zBa.update (K.update e (mW λx=>x.setIfInBounds 3 mT)) e (mW λx=>x.setIfInBounds 4 (oW B));let L:((K.update e (mW λx=>x.setIfInBounds 3 mT)).update e (mW λx=>x.setIfInBounds 4 (oW B))).get? e=g { cls:=.ref C,dict:=l,data:=.fields #v[.ref t,.none,.none,.none,.bool B,.none],slots:=j }:=zAT _ i I;let p:zBa e K ((K.update e (mW λx=>x.setIfInBounds 3 mT)).update e (mW λx=>x.setIfInBounds 4 (oW B))):=[U.1.trans k.1,λb u=>(U.2 b u).trans (k.2 b u)];let o:=(p.2 C y).trans X;let r:=a _ p L;generalize (K.update e (mW λx=>x.setIfInBounds 3 mT)).update e (mW λx=>x.setIfInBounds 4 (oW B))=h2 at L o r
 repeat (first|with_reducible exact r|with_reducible refine oK L ?_|with_reducible refine oK o ?_|wp_step)
end
structure IU(P:mF)(w:mR)(K:zAa)(mg:J->Option lV)(base:mX)(k:Nat)(x:J)(C:T)(ps:List J)(sp:Sp):Prop where
 ex:∃f fd,hZ K C f/\S1 P w K mg base k f fd ps sp/\Dc K fd ps []/\mg x=g (.ref C)
section
variable {X:Cx} {x f:J} {C:T} {np cpos pos cp:uL} {j:Nat} {e o:nY} {es:List nY} {t:TA} {W:St->XK}
def Zd{k:Nat}{ps:List J}{sp:Sp}(hW:V1 X W)(hh:X.Hn)(M:IU X.prog X.w X.K X.mg X.base k x C ps sp)(hr:jS (k+1) X.A)(hg:Gl X x)(ha:PA X (e::es) t)
  (ag:(x==("__debug__" : J))=lX:=by lk) (he:mH (e::es) X.env=(lX,nU e X.env)::mH es X.env:=by rfl) (a6:(oB cpos (mH es X.env)).any (·.1)=lX:=by rfl) :
  PS X (.Raise (g (.Call (.Name x np) (e::es) [] cpos)) (g (.Constant .none j cp)) pos) (BZ C sp W t):=by
 intro m s σ H D E h;let[f,fd,[[a9,a0,a4,K,q,FB],fn,kp],F,hb,U]:=M.ex;let[bm,N,nm,qn,bs,a3,sn,a5,ab,a7,dd,k0,k1,k2,k3,k5,mN,hC,hN,ac,l]:=Vh E.mod.kin q;let Q:mO (mP X.prog X.w) X.A (nU (.Call (.Name x np) (e::es) [] cpos) X.env) (λv w=>∃a oe t,v=.ref a/\w.heap.get? C=g (qF nm qn C N bs bm a3 sn a5 ab a7 dd k0 k1 k2 k3 k5 a0) /\
   w.heap.get? a=g oe/\oe.cls=.ref C/\oe.data=.fields #v[.ref t,.none,.none,.none,.bool lX,.none] /\
   ∀h',zBa a w.heap h'->h'.get? a=g { oe with data:=.fields #v[.ref t,.none,.none,.none,.bool B,.none] }->mO (mP X.prog X.w) X.A (raiseNew (.ref a):vH Flow) (SP X m D) X.xe { w with heap:=h' }) X.xe s:=by
  refine nQ (Fz E hg U ?_ ag);refine zBk (h₀:=X.base) E.ok.mod.kin kp (Er (ha cpos m s σ H _ E h) λi s1 ⟨vs,H1,S,r,hl,q1⟩=>[S.kIn,?_]) he a6;let[of,lf,cf]:=zAI.mp (show(X.K.lookup f).map (·.cls)=g (.type "function") from beq_iff_eq.mp fn);let ai:=S.bk _ _ hC;let am:=hN.keeps S.bk;let T1:=l.keeps S.bk;let[aq,gg,d,tk,os]:=s1;refine T3 FB T1 ai am ac (S.kIn _ _ lf) cf (by show i.length<=_;rw[<- r.length];exact hl) λh' p U=>?_;let[t0,ht,ar,_]:=U.there;let nH:=S.no U.new;let fx:Gh X m H1 p:=S.fxOk U.new nH;let I2:=(S.kept (t':=tk) U.keeps).trackO (o:=ML p (.ref C) lW) fx [[_,t0,ht,I,I,I],[_,ht],λp1 p2 pp kk=>by
   let[o1,v1,y1,y2]:=pp;exact[o1,v1,kk _ y1,y2]]
  let hq:=q1 p nH;let r2:Bc (V.ref p::vs) (mG p::i):=.cons I r;let e2:(mG p::i)++[]=mG p::i:=zAA _;let ah:((mG p::i)++[]).length=ps.length:=by
   let z:=r2.length;rw[F.len _ _ _ _ hq]at z;rw[e2];exact z.symm
  let bd:=hb _ (mG p::i) I2.kIn ah;rw[e2]at bd;refine oV (oG (F.run _ X.stack _ _ [mG p::i,[]] (mG p::i) _ _ E0 (hr.make C i []) (I2.env0.make C i []) bd r2 hq) λr s' A=>?_);cases r with
  |error e=>exact Xo m σ _ _ e s' I2 A
  |ok fl=>
   cases fl with
   |ret u=>
    let[v,H',I3,rv,ev,d',eH,hw]:=I2.after A;subst ev;let[oe,t1,h1,h2,h3,h4]:=I3.excN eH;refine[rv,p,oe,t1,I,I3.bk _ _ hC,h1,h2,h4,λh' P al=>?_];let I4:=I3.unt eH;let L:Gh X m (unt H' p) p:=[My,fx.2];let a1:∀{h5:mX},zBa p s'.heap h5->Am X m σ (unt H' p) { s' with heap:=h5 }:=λ{h5} P=>by
     let u:Un (Vz X.stack) #[p] (unt H' p) (unt H' p) s'.heap h5:=[λb o z _ _ hx=>(P.2 b (by simpa using hx)).trans z,λb o z _ _ hx=>[o.slots,(P.2 b (by simpa using hx)).trans z],λ_ _ _ n _=>n,λb o z hx=>[o,(P.2 b (by simpa using hx)).trans z],λ_ _ z=>z,λ_ _ _ z=>z,λb ps z=>[#v[],by rw[z];simp]];let aj:jR X.prog X.w (unt H' p) h5:=λb o z=>(I4.hok b o z).stay (λc v hc y=>by
      refine(P.2 c λz2=>?_).trans y;rcases hc with r|r
      .rw[<- r,z2,My]at z;cases z
      .rw[z2,My]at r;cases r) (λ_ y=>y) λ_ _ y=>y
     exact Am.callN (s:=s') (g':=s'.gens) (d':=s'.drawn) (t':=s'.toks) (ch:=#[p]) I4 u aj I4.bare λb hb=>by
      let z:b=p:=by simpa using hb
      subst z;exact[L.2.2.2.1,L.2.1,L.2.2.2.2.1,L.2.2.2.2.2]
    let hn:fA X.A h' λb=>b≠p:=by
     rcases I4.hn hh with z|⟨e0,ao,an,z,g1,g2,g3,_⟩
     .exact .inl z
     .rcases S.hn hh with y|⟨e1,au,as,y,f1,_⟩
      .rw[y]at z;cases z
      .obtain rfl:e1=e0:=by rw[y]at z;injection z with z;injection z
       let ne:e1≠p:=λq=>by rw[q,U.new]at f1;cases f1
       exact .inr [e1,ao,an,z,(P.2 e1 ne).trans g1,g2,g3,ne]
    refine GL (s:={ s' with heap:=h' }) hn al rfl (show 2<6 from by lk) λh6 ae aa ap bc=>?_;let[c1,c2,ad,c3,c4,[ak,c5],c6]:=bc;refine hW m σ (unt H' p) { s' with heap:=h6 } p (.ref C) (g d') ak (a1 (P.trans aa)) [ae,ad,ap,c1.trans h2,c2.trans h3,c3,by rw[c4];exact(show 1<6 from by lk),c5,L,.inl ?_] hw;rw[c6 1 Y];rfl
   |next=>exact nD A
   |brk=>exact nD A
   |cont=>exact nD A
 let hB:=l.hasType FB.hasBase;rw[arm_exec_Raise];let af:∀(w:lZ) (R:lV->lZ->Prop),R mT w->mO (mP X.prog X.w) X.A (do let v <- nU (.Constant .none j cp) X.env;qP pos;pure v) R X.xe w:=λw R hR=>by
  exact zCw (Constant_none (zCw (oP (zCx hR))))
 simp only[evalOpt,Option.map];exact zCw (oP (O0 hB af (zCw (nV Q (λv a8 a2=>zCw (oP (zCx a2))) λ_ _ z=>z))))
end
abbrev Cx.supQ(X:Cx)(e:T)(oe:oH):Cx:={ X with A:=X.A.mark (g (.ref e)),calm:=lX,pn:=(e,oe)::X.pn }
section
variable {X:Cx} {x:J} {Ch:T} {body suite:List nZ} {b₀:nZ} {tb:(St->XK)->TS} {ts:TS} {np hpos pos:uL} {pins:List (T×oH)} {σ:St} {H:Hp} {s:lZ} {e:T} {oe:oH}
def Am.supQ(C:Am X pins σ H s)(L:s.heap.get? e=g oe)(f:Gh X pins H e)(F:∀v,oe.data≠.cell v):Am (X.supQ e oe) pins σ H s:=
 [[C.ok.mod,C.ok.kind,C.ok.glob,C.ok.blt,C.ok.above,C.ok.inj,C.ok.has,C.ok.cab,(λz=>nomatch z),C.ok.frames,C.ok.stk,C.ok.exf,C.ok.bs,C.ok.bsz,C.ok.noex,C.ok.exfs,C.ok.funs,C.ok.frf],C.os,C.bare,C.base,C.loc,C.cell,C.free,C.freeC,λp N=>by
  rcases zAg.mp (show p∈(e,oe)::(X.pn++pins) from N)with z|z
  .subst z
   exact[L,f.1,f.2.1,f.2.2.1,F]
  .exact C.pin p z,C.hok,C.len]
def Am.unsupQ(C:Am (X.supQ e oe) pins σ H s)(N:X.Ok):Am X pins σ H s:=[N,C.os,C.bare,C.base,C.loc,C.cell,C.free,C.freeC,λp L=>C.pin p (show p∈(e,oe)::(X.pn++pins) from zAh _ L),C.hok,C.len]
def SP.unsupQ{D}{f}(h:SP (X.supQ e oe) pins D f s)(N:X.Ok):SP X pins D f s:=by
 cases f with
 |next=>let[z,L,C,q]:=h;exact[z,L,C.unsupQ N,q]
 |brk=>let[z,L,C,q]:=h;exact[z,L,C.unsupQ N,q]
 |cont=>let[z,L,C,q]:=h;exact[z,L,C.unsupQ N,q]
 |ret u=>let[v,z,L,C,r,q]:=h;exact[v,z,L,C.unsupQ N,r,q]
def DM{l:St->XK}(ac:V1 X l)(N:∀e,PassesOwnAt (mP X.prog X.w) (X.A.mark (g (.ref e))) X.A X.env X.xe)(hc:X.calm=B)(R:X.stack=X.env::X.outer)(aa:X.env.frame=g X.env.locals)(hg:Gl X x)(hm:X.mg x=g (.ref Ch))
  (hb:∀pn E W,jU (X.tr pn E) W->tP (mP X.prog X.w) X.A X.env E->PSs (X.tr pn E) body (tb W)) (hs:∀e oe,(X.supQ e oe).Hn->V1 (X.supQ e oe) l->PSs (X.supQ e oe) (b₀ :: suite) ts) (U:(x==("__debug__" : J))=lX:=by lk) :
  PS X (.Try body #[.ExceptHandler (g (.Name x np)) M (b₀ :: suite) hpos] [] [] pos) (XZ X.K Ch tb ts):=by
 intro pins s σ H D Q h;refine vN ?_;refine nV (hb (X.pn++pins) _ _ ?_ ?_ [] s σ H D Q.tr h) (λf s1 q=>?_) λe s1 q=>q
 .intro j K o s' e c d I' i hw
  let[C,rfl,hx,hq]:=hw;let I1:Am X pins K o s':=I'.untr;refine Ni I1 R aa (i.imp λb fb=>fb.untr) λh2 L t=>?_;let[oe,vs,r,S,ad,w,hz,hv,fe,_]:=id t;let m:=L.supQ (e:=e) (oe:=oe) r fe (λv z=>by rw[w]at z;cases z);refine tT (sR (Fz (L.sup (e:=e)) hg hm ?_ U)) (by intro q;cases q);refine(tZ L.kIn (Sr r S) hx).here ?_;refine yS (Sb t ?_);let A:V1 (X.supQ e oe) l:=λn k H2 s2 e2 c2 d2 F a x5 y=>ac n k H2 s2 e2 c2 d2 F (a.unsupQ L.ok) (x5.imp λb f=>[f.1,f.2.1,f.2.2.1,f.2.2.2.1,f.2.2.2.2.1,λp hp=>f.2.2.2.2.2 p (zAh _ hp)]) y;exact nV (hs e oe (.inr [e,oe,vs,I,w,hv,.inr (zAl ..)]) A pins _ K o D m hq) (λf s3 q=>q.unsupQ L.ok) λv s4 z=>N e v s4 z
 .exact sL
 .have P:=q.untr
  cases f with
  |next=>exact pG P
  |brk=>exact P
  |cont=>exact P
  |ret u=>exact P
end
def Sw{X}{K}{f}{C}{e}{H}(F:PE X e H)(L:pI e f X.env (nU e X.env)=nU e X.env)(z:X.K=K:=by rfl):PE X (.Attribute e f C) (bO K H f):=z▸Cj F L
inductive XH(K:zAa)(x:V)(vs:List V)(H:Hp)(Q:VK):Prop
 |mk (z:J) (p:T) (ps:List J) (e:x=.str z) (e':vs=#[.ref p]) (h:Al K H p (ps.map V.str)) (a:ps.length<=1000) (b:z.length<=100) (c:∀y∈ps,y.length<=1000) (q:Q (.str (mE z ps)) H)
def HR{X:Cx}:SG X "str.join" (XH X.K):=by
 intro A s σ H x vs v m Q R K k h;let[z,p,W,rfl,rfl,f,U,j,C,q]:=h;let[t,rfl]:=K;let[w,rfl,d]:=k.one;cases d;let[i,r,F,_]:=R.list f;let[l,rfl,e]:=Wj r;let o:W.length*1000<=1000*1000:=zBq _ U;let n:W.length*z.length<=1000*100:=vU U j;let S:rD (W.toArray.foldl (· + ·.length+z.length) 0)=lX:=xU C Z;let P:(mE z W).length<=sizeLine:=by
  refine zAG (Ik C) ?_;rw[zCy,Nat.mul_add]
  lia
 refine pP vV (qL _ _ _) u9 (uT _ _) (meets_str_join_list z t p l (by rw[e];exact S)) [F.isList,?_];let E:l.length=W.length:=by rw[<- e,zAb]
 match l,E,e with
 |[],_,e=>
  let L:W=[]:=by rw[<- e];rfl
  subst L;let N:joinMade z []=.str (mE z []):=by show xL (qK _ _)=_;rw[qE];rfl
  rw[N];exact[P,[.str _,H,R.tok _,[_,I],q]]
 |#[(y,u)],_,e=>
  let L:W=#[y]:=by rw[<- e];rfl
  subst L;exact[.str y,H,R,[u,I],q]
 |a::b::c,_,e=>
  let N:joinMade z (a::b::c)=.str (mE z W):=by show xL (qK _ _)=_;rw[qE,e]
  rw[N];exact[P,[.str _,H,R.tok _,[_,I],q]]
end L2
namespace CST
open PySem
section
variable {prog:mF} {w:mR} {A:mZ} {E:lV->lZ->Prop} {s:lZ}
def set_of_strs{l:T}{items:Array lV}{ns:List J}{Q:lV->lZ->Prop}(z:A.handled=M)(N:s.heap.IsList l items)(C:∀(i:Nat) (v:lV),items[i]?=g v->∃t,v=.str (ns.getD i qB) t)(F:items.size=ns.length)(L:items.size+1<qM)
  (h:∀(h':mX) (H:Nat) (ks:List J),jX (strKind prog w) h' ⇑s ks->(∀y,y∈ks↔y∈ns)->ks.length<=items.size->(∀b o,s.heap.get? b=g o->h'.get? b=g o)->Q (.ref ⇑s) { s with heap:=h',toks:=H }) :
  mO (mP prog w) A (call (.type "set") #[.ref l]) Q E s:=
 MA (mk:=.str) (λx x=>strKind_is _ _ _ _) (λx x=>I) qB z N C F L h
end
end CST
namespace L2
open PySem PySem.Spec PyProof PyProof.Rows
section
variable {α:Type} [DecidableEq α]
theorem Sj:∀{ks ss:List α},ks.Nodup->(∀y∈ks,y∈ss)->ks.length<=ss.length
 |[],_,_,_=>zAy _
 |k::ks,ss,F,h=>by
  rw[zBn]at F;let L:=h k zAl;let H:=Sj (ks:=ks) (ss:=ss.erase k) F.2 λy C=>(xO (λz=>F.1 (by rw[<- z];exact C))).mpr (h y (zAh _ C));rw[v0 L]at H;let:0<ss.length:=wG L;rw[zAd]
  lia
theorem V6:∀{ss:List α},¬ss.Nodup->∃x,x∈ss/\x∈ss.erase x
 |[],h=>mC List.nodup_nil h
 |y::t,h=>by
  by_cases c:y∈t
  .exact[y,zAl,by rw[List.erase_cons_head];exact c]
  .let[x,C,F]:=V6 (ss:=t) (λz=>h (zBn.mpr [c,z]))
   let H:¬(y==x)=B:=λz=>c (by rw[beq_iff_eq.mp z];exact C);exact[x,zAh _ C,by rw[List.erase_cons_tail H];exact zAh _ F]
def KQ{ks ss:List α}(F:ks.Nodup)(m:∀y,y∈ks↔y∈ss):(ss.Nodup->ks.length=ss.length)/\(¬ss.Nodup->ks.length<ss.length):=by
 refine[λh=>Nat.le_antisymm (Sj F λy z=>(m y).mp z) (Sj h λy z=>(m y).mpr z),λh=>?_];let[x,C,L]:=V6 h;let:=Sj (ss:=ss.erase x) F λy z=>by
  by_cases c:y=x
  .rw[c];exact L
  .exact(xO c).mpr ((m y).mp z)
 rw[v0 C]at this;let:0<ss.length:=wG C
 lia
end
theorem EL:∀{ss:List J} {us:List lV},Bc (ss.map V.str) us->∀(i:Nat) (v:lV),us[i]?=g v->∃t,v=.str (ss.getD i qB) t
 |[],_,.nil,i,v,e=>by simp at e
 |_::_,_::_,.cons r _,0,v,e=>by
  simp at e;subst e;let[t,rfl]:=r;exact[t,I]
 |_::ss,_::us,.cons _ q,i+1,v,e=>by
  let[t,rfl]:=EL q i v (by simpa using e);exact[t,zZ]
def OI(K:zAa)(N:TE):TE:=λP H Q=>N P H λx L=>∃a C,x=.ref a/\Al K L a (oA V.str C)/\C.length<60/\∀n:Nat,(C.Nodup->n=C.length)->(¬C.Nodup->n<C.length)->Q (.int (n:Int)) L
section
variable {X:Cx}
def GG{e:nY}{p:TE}{p1 b F z:uL}(he:PE X e p)(hc:X.calm=B)(R:Gl X "len")(N:X.mg "len"=M)(S:Gl X "set")(ab:X.mg "set"=M)
  (aa:zCz "len"=g (.builtin "len"):=by rfl) (c:zCz "set"=g (.type "set"):=by rfl)
  (E:mH #[.Call (.Name "set" b) #[e] [] z] X.env=#[(lX,nU (.Call (.Name "set" b) #[e] [] z) X.env)]:=by rfl) (K:mH #[e] X.env=#[(lX,nU e X.env)]:=by rfl) :
  PE X (.Call (.Name "len" p1) #[.Call (.Name "set" b) #[e] [] z] [] F) (OI X.K p):=by
 intro A s σ H Q W h;refine nQ (Pe W R N aa ?_ Y Y);refine sH ?_ E I;rw[E];show mO _ _ (spliced ((lX,nU (.Call (.Name "set" b) #[e] [] z) X.env)::oB F [])) _ _ s;refine pV ?_;refine nQ (Pe W S ab c ?_ Y Y);refine oN ?_ K I;rw[K];show mO _ _ (spliced ((lX,nU e X.env)::oB z [])) _ _ s;refine pV (Er (he A s σ H _ W h) λu s1 h9=>?_);let[x,H1,j,r1,a,k,ex,hq,ac,q]:=h9;subst ex;cases r1;refine qU ?_;let[L,w,m,hz]:=j.list hq;let r:=w.length;rw[zAb]at r;let hh:X.A.handled=M:=W.ok.hd hc;let hv:∀(i:Nat) (v:lV),L.toArray[i]?=g v->∃t,v=.str (k.getD i qB) t:=λi v e=>by
  rw[xA]at e;exact EL w i v e
 refine CST.set_of_strs (items:=L.toArray) (ns:=k) hh m.isList hv (by rw[zAj];exact r.symm) (by rw[zAj];unfold qM;lia) λl tk U P f d n=>?_;refine qU ?_;rw[zAj]at d;let[o,es,ep,t,ho,C,hd,hp,nd,ad,hf,_]:=P;let[y,z2]:=KQ nd f;let le:es.size=U.length:=by rw[<- zBd];exact hp.length
 refine call_len_set (s:={ s1 with heap:=l,toks:=tk }) ho C hd hf Z ?_;exact[.int (U.length:Int),H1,j.kept (h':=l) n,[_,by rw[le]],q U.length y z2]
end
end L2
namespace L2
open PySem PySem.Spec PyProof.Rows
structure DfIn(K:zAa)(x:J)(st:nZ)(f:T):Prop where
 ns:zAx K zCB x=g (g (.ref f))
 ex:∃(od an:Option T) (sl:Array (Option lV)) (oc kV dc pm cd ct:lV),K.lookup f=g [oc,od,.func (zAM x x (Fa st) (Dn st) (Av st) .none kV dc pm an cd ct),sl]/\zAX K cd x=B
 kp:zAH K (.ref f)=B
structure MtIn(K:zAa)(x qual:J)(st:nZ)(f:T):Prop where
 fn:zBF K (.ref f)=B
 ex:∃(od an:Option T) (sl:Array (Option lV)) (oc kV dc pm cd ct:lV),K.lookup f=g [oc,od,.func (zAM x qual (Fa st) (Dn st) (Av st) .none kV dc pm an cd ct),sl]/\zAX K cd qual=B
 kp:zAH K (.ref f)=B
structure Gn(K:zAa)(x:J)(C:T):Prop where
 ns:zAx K zCB x=g (g (.ref C))
 pg:zCb K C qB=B
 hd:zBH K C=B
 po:sS K C=B
 sa:zAD K (.ref C) "__setattr__"=g (g (.builtin "object.__setattr__"))
 mi:zCj K C=B
 kp:zAH K (.ref C)=B
def Gn.cl{K}{x}{C}(c:Gn K x C):kF K C:=[c.pg,c.hd,c.po,c.sa]
section
variable {K:zAa} {x qual:J} {st:nZ} {f:T} {ps:List J}
def MtIn.get(d:MtIn K x qual st f)
  (U:∀(kV S L:lV) (N:Option T) (cd z:lV) (us:List lV),us.length=ps.length->bindArgs (zAM x qual (Fa st) (Dn st) (Av st) .none kV S L N cd z) [us,[]]=pure (ps.zip us)):∃P,Fw K x qual st f P/\Dc K P ps []:=by
 let[Q,N,H,C,kV,S,L,cd,z,l,c]:=d.ex;let F:=F1 (x:=x) (qual:=qual) (st:=st) l c d.kp;exact[_,F,F.binds U]
end
def DfIn.of{K}{x}{st}{f}{od L}{U}{S kV C F cd z}(n:zAx K zCB x=g (g (.ref f)))(l:K.lookup f=g [S,od,.func (zAM x x (Fa st) (Dn st) (Av st) .none kV C F L cd z),U])(c:zAX K cd x=B)(k:zAH K (.ref f)=B):DfIn K x st f:=[n,[od,L,U,S,kV,C,F,cd,z,l,c],k]
def MtIn.of{K}{x qual}{st}{f}{od L}{U}{S kV C F cd z}(n:zBF K (.ref f)=B)(l:K.lookup f=g [S,od,.func (zAM x qual (Fa st) (Dn st) (Av st) .none kV C F L cd z),U])(c:zAX K cd qual=B)(k:zAH K (.ref f)=B):MtIn K x qual st f:=[n,[od,L,U,S,kV,C,F,cd,z,l,c],k]
def vC{C:Type}{l:List C}{a:C}{t:List C}{R:C->List C->Prop}(e:l=a::t)(h:R a t):∃v r,l=v::r/\R v r:=[a,t,e,h]
section
variable {X:Cx}
def Mz(xs:List V)(lo:Option Int)(j:Int):List V:=(uO (nL lo M (g j) xs.length).1 (nL lo M (g j) xs.length).2.1 (nL lo M (g j) xs.length).2.2).filterMap (xs[·]?)
theorem F0{xs:List V}(r:Bc xs b):∀l:List Nat,Bc (l.filterMap (xs[·]?)) (l.filterMap (b.toArray[·]?))
 |[]=>.nil
 |i::l=>by
  let q:=F0 r l;rw[zBt,zBt,xA];cases e:xs[i]? with
  |none=>
   rw[r.none_of e];exact q
  |some x=>
   let[u,F,z]:=r.get e;rw[F];exact .cons z q
def aI(K:zAa)(P U:TE):TE:=λN H Q=>P N H λx R=>U N R λk L=>∃a C j,x=.ref a/\k=.int j/\j≠0/\Al K L a C/\(Mz C M j).length<=1000/\∀p,L p=M->Q (.ref p) (upd L p (.lst (Mz C M j)))
def cW{e k:nY}(d:PE X e p)(hk:PE X k tk):PE X (.Subscript e (.Slice M M (g k) p2) f) (aI X.K p tk):=by
 intro W s A H Q R h;refine wT (Er (d W s A H _ R h) λv n S=>?_);let[x,c,K,y,q1]:=S;refine wpAny_Slice ?_;rw[uJ];refine zCx (zCx ?_);rw[uI];refine Er (hk W n A c _ K q1) λvk F S=>?_;let[z,m,I2,u,a,l,j,w,P,i,E,N,q]:=S;subst P w;cases y;let[t,rfl]:=u;let U:Am X W A m { F with heap:=F.heap.push { cls:=.type "slice",data:=.fields #v[.none,.none,.int j t] } }:=I2.kept (t':=F.toks) λb ob q=>zAk _ q;let[aa,r,C,P]:=U.list E;let L:=r.length;refine tail_any (ops:=#[.ref a,.ref ⇑F]) C.isList.typeIs slot_list_getitem.lookup ?_ (by with_unfolding_all rfl);refine rO C.isList (qY ..) .none .none (.int j t) (by simpa using i) ?_ (by rw[zAj]<;>lia);refine[.ref _,_,U.laid (t':=F.toks) (o:=.lst (Mz l M j)) (λb ob q=>zAk _ q) (zAm _) ?_,I,q _ (U.hok.fresh (zAm _))];refine[by rw[zCy];lia,_,0,F0 r _,?_];rw[L];unfold yG;exact zAJ _ I
def WN(K:zAa)(P R A:TE):TE:=λL H Q=>P L H λx U=>R L U λl W=>A L W λk N=>∃a C i j,x=.ref a/\l=.int i/\k=.int j/\j≠0/\Al K N a C/\(Mz C (g i) j).length<=1000/\∀p,N p=M->Q (.ref p) (upd N p (.lst (Mz C (g i) j)))
def O4{e l k:nY}(u:PE X e te)(hl:PE X l tl)(hk:PE X k tk):PE X (.Subscript e (.Slice (g l) M (g k) p2) y) (WN X.K te tl tk):=by
 intro W s E H Q R h;refine wT (Er (u W s E H _ R h) λv s1 L=>?_);let[x,f,d,r1,q1]:=L;refine wpAny_Slice ?_;rw[uI];refine Er (hl W s1 E f _ d q1) λvl s2 L=>?_;let[z,H2,I2,r2,p]:=L;rw[uJ];refine zCx ?_;rw[uI];refine Er (hk W s2 E H2 _ I2 p) λvk A L=>?_;let[z',m,t,r3,a,n,i,j,ex,K,w,j0,c,U,q]:=L;subst ex K w;cases r1;let[F,rfl]:=r2;let[S,rfl]:=r3;let C:Am X W E m { A with heap:=A.heap.push { cls:=.type "slice",data:=.fields #v[.int i F,.none,.int j S] } }:=t.kept (t':=A.toks) λb ob q=>zAk _ q;let[aa,r,P,hz]:=C.list c;let N:=r.length;refine tail_any (ops:=#[.ref a,.ref ⇑A]) P.isList.typeIs slot_list_getitem.lookup ?_ (by with_unfolding_all rfl);refine rO P.isList (qY ..) (.int i F) .none (.int j S) (by simpa using j0) ?_ (by rw[zAj]<;>lia);refine[.ref _,_,C.laid (t':=A.toks) (o:=.lst (Mz n (g i) j)) (λb ob q=>zAk _ q) (zAm _) ?_,I,q _ (C.hok.fresh (zAm _))];refine[by rw[zCy];lia,_,0,F0 r _,?_];rw[N];unfold yG;exact zAJ _ I
end
section
variable {x qual:J} {st:nZ} {ps:List J}
abbrev Z9(x qual:J)(st:nZ)(ps:List J):Prop:=∀(kV N Q:lV) (H:Option T) (L P:lV) (C:List lV),C.length=ps.length->bindArgs (zAM x qual (Fa st) (Dn st) (Av st) .none kV N Q H L P) [C,[]]=pure (ps.zip C)
end
section
variable {P:mF} {w:mR} {K:zAa} {mg:J->Option lV} {base:mX} {x y qual:J} {st:nZ} {C:T} {k:Nat} {ps:List J} {sp:Sp}
abbrev Jw(K:zAa)(x:J)(st:nZ):Prop:=∃f,DfIn K x st f
abbrev Ka(K:zAa)(C:T)(x qual:J)(st:nZ):Prop:=∃f,zAD K (.ref C) x=g (g (.ref f))/\MtIn K x qual st f
def Oo(K:zAa)(x:J)(n:Int):Prop:=∃t,zAx K zCB x=g (g (.int n t))
def OQ(K:zAa)(x:J)(y:J):Prop:=∃t,zAx K zCB x=g (g (.str y t))
def MtD(K:zAa)(C:T)(x qual:J)(st:nZ)(ds:Array lV):Prop:=∃(f H:T) (R A:Option T) (N:Array (Option lV)) (E kV U X L W:lV) (Q:Nat),zAD K (.ref C) x=g (g (.ref f))/\zBF K (.ref f)=B /\
 K.lookup f=g [E,R,.func (zAM x qual (Fa st) (Dn st) (Av st) (.ref H) kV U X A L W),N]/\zAX K L qual=B/\zAH K (.ref f)=B/\K.lookup H=g [.type "tuple",M,.seq ds Q,#v[]]
def lR(K:zAa)(C:lU)(x qual:J)(st:nZ)(T:lU):Prop:=∃(f c:lU) (L U:Option lU) (H:Array (Option lV)) (W kV N R Q:lV),zAD K (.ref C) x=g (g (.ref f))/\zBF K (.ref f)=B /\
 K.lookup f=g [W,L,.func (zAM x qual (Fa st) (Dn st) (Av st) .none kV N R U (.ref c) Q),H]/\zAX K (.ref c) qual=B/\zAH K (.ref f)=B/\xX K c T=B
def BsE(K:zAa)(C:T)(x qual:J)(st:nZ):Prop:=∃f,tY K (.ref C) (.type "type") x=g (.val (.ref f))/\zBZ K (.ref C) "__getattribute__"=g (g (.builtin "type.__getattribute__"))/\tW K C (.type "type")=B/\MtIn K x qual st f
def MtD.of{K}{C}{x qual}{st}{ds}{f z}{od H}{Q}{N kV S L cd F}{U:Nat}(a:zAD K (.ref C) x=g (g (.ref f)))(i:zBF K (.ref f)=B)
  (l:K.lookup f=g [N,od,.func (zAM x qual (Fa st) (Dn st) (Av st) (.ref z) kV S L H cd F),Q]) (c:zAX K cd qual=B) (k:zAH K (.ref f)=B) (d:K.lookup z=g [.type "tuple",M,.seq ds U,#v[]]):MtD K C x qual st ds:=[_,_,_,_,_,_,_,_,_,_,_,_,a,i,l,c,k,d]
def lR.of{K}{C T}{x qual}{st}{f c}{od L}{U}{S kV H F z}(a:zAD K (.ref C) x=g (g (.ref f)))(i:zBF K (.ref f)=B)
  (l:K.lookup f=g [S,od,.func (zAM x qual (Fa st) (Dn st) (Av st) .none kV H F L (.ref c) z),U]) (d:zAX K (.ref c) qual=B) (k:zAH K (.ref f)=B) (h:xX K c T=B):lR K C x qual st T:=[_,_,_,_,_,_,_,_,_,_,a,i,l,d,k,h]
def BsE.of{K:zAa}{C f:T}{x qual:J}{st:nZ}(b:tY K (.ref C) (.type "type") x=g (.val (.ref f)))(H:zBZ K (.ref C) "__getattribute__"=g (g (.builtin "type.__getattribute__")))(r:tW K C (.type "type")=B)(i:MtIn K x qual st f):BsE K C x qual st:=[_,b,H,r,i]
def NT4(K:zAa)(x p q r s:J):Prop:=∃(w:T) (n:Nat) (a b c d:Tok),zAx K zCB x=g (g (.ref w))/\K.lookup w=g [.type "tuple",M,.seq #v[.str p a,.str q b,.str r c,.str s d] n,#v[]]
def NT4.of{K}{x p q r s}{w}{n:Nat}{a b c d}(h:zAx K zCB x=g (g (.ref w)))(l:K.lookup w=g [.type "tuple",M,.seq #v[.str p a,.str q b,.str r c,.str s d] n,#v[]]):NT4 K x p q r s:=[_,_,_,_,_,_,h,l]
structure Zy(P:mF)(w:mR)(K:zAa)(mg:J->Option lV)(base:mX):Prop where
 nv:∀{x:J} {v:lV},zAx K zCB x=g (g v)->mg x=g v
 nn:∀{x:J},zAx K zCB x=g M->mg x=M
def Zy.gi(z:Zy P w K mg base){n:Int}(h:Oo K x n):cM mg x n:=h.imp λa=>z.nv
def Zy.gs(z:Zy P w K mg base){n:J}(h:OQ K x n):ZT mg x n:=h.imp λa=>z.nv
def iM:Nat->(List lV->Prop)->Prop
 |0,P=>P []
 |n+1,P=>∀a,iM n λl=>P (a::l)
theorem iI:∀{n:Nat} {Pr:List lV->Prop},iM n Pr->∀us:List lV,us.length=n->Pr us
 |0,_,h,[],_=>h
 |_+1,_,h,a::us,e=>iI (h a) us (Nat.succ.inj e)
def bd(h:Z9 x qual st ps:=by exactλz z z z z z=>iI (by(repeat intro _);rfl)):Z9 x qual st ps:=h
def jK(z:Zy P w K mg base)(d:Jw K x st)(L:Z9 x x st ps)(h:∀f H,Fw K x x st f H->Ar P w K mg base Jv k f H ps sp):Y4 P w K mg base k x ps sp:=by
 let[_,d]:=d;let[_,_,_,_,_,_,_,_,_,l,c]:=d.ex;let F:=F1 l c d.kp;exact[_,_,h _ _ F,F.binds L,d.kp,z.nv d.ns]
def iS(z:Zy P w K mg base)(m:Ka K C x qual st)(c:kF K C)(L:Z9 x qual st ps)(h:∀f N,Fw K x qual st f N->Ar P w K mg base Jv k f N ps sp):FF P w K mg base k C x ps sp:=by
 let[_,a,i]:=m;let[_,F,H]:=i.get L;exact[[_,_,h _ _ F,H,[a,i.fn,i.kp]],c]
def iF(z:Zy P w K mg base)(q:Gn K y C)(m:Ka K C "__init__" qual st)(L:Z9 "__init__" qual st ps)(h:∀f N,Fw K "__init__" qual st f N->Ar P w K mg base Jv k f N ps sp):HB P w K mg base k y C ps sp:=by
 let[_,a,i]:=m;let[_,F,H]:=i.get L;exact[_,_,[q.mi,a,i.fn,q.kp],h _ _ F,H,z.nv q.ns]
def jG{ds:Array lV}(z:Zy P w K mg base)(q:Gn K y C)(m:MtD K C "__init__" qual st ds)(h:∀f R,kU K "__init__" qual st f R->Ar P w K mg base Jv k f R ps sp)
  (S:∀(F:T) (kV H Q:lV) (U:Option T) (cd L:lV) (N:Nat),K.lookup F=g [.type "tuple",M,.seq ds N,#v[]]->Dc K (zAM "__init__" qual (Fa st) (Dn st) (Av st) (.ref F) kV H Q U cd L) ps []):HB P w K mg base k y C ps sp:=by
 let[_,_,_,_,_,_,_,_,_,_,_,_,a,i,l,c,e,W]:=m;exact[_,_,[q.mi,a,i,q.kp],h _ _ (DC l c e),S _ _ _ _ _ _ _ _ W,z.nv q.ns]
def LJ{CX:GR}{f:T}(h:∀vs H Q E,¬sp vs H Q E):Ar P w K mg base CX k f b ps sp:=
 [λvs H Q E z=>mC z (h vs H Q E),λa a a a a a a a a a a a a z=>mC z (h _ _ _ _)]
end
section
variable {X:Cx} {pos pos' p:uL} {x:J} {e a b:nY} {es:List nY} {te ta tb:TE} {t:TA} {ps:List J} {sp:Sp} {d:rJ} {k n:Nat}
def Fk(S:Cb X.N ps d)(i:Nat)(z:PE X e te)(C:X.N[i]?=g x:=by rfl)(L:VR X.env.scope x:=by exact Or.inl I)(N:tO e (g (.Name x pos')) pos.line X.env=pure lX:=by rfl)(H:X.fn x=B\/X.env.scope.names.lookup x=g .local:=by first|exact .inl I|exact .inr I|assumption) :
  PS X (.Assign #[.Name x pos'] e pos) (QH te (Hy i)):=C8 S.nd C L z N H
def Ot(S:Cb X.N ps d)(i:Nat)(C:X.N[i]?=g x:=by rfl)(L:VR X.env.scope x:=by exact Or.inl I)(H:X.fn x=B\/X.env.scope.names.lookup x=g .local:=by first|exact .inl I|exact .inr I|assumption):PG X (.Name x pos) (Hy i):=EG S.nd C L H
def Xa{NC:List J}(i:Nat)(z:NC.Nodup:=by ac_nf)(C:(Pg X NC d c f j).N[i]?=g x:=by rfl)(L:VR (Pg X NC d c f j).env.scope x:=by exact Or.inl I)(H:(Pg X NC d c f j).fn x=B\/(Pg X NC d c f j).env.scope.names.lookup x=g .local:=by first|exact .inl I|exact .inr I|assumption):PG (Pg X NC d c f j) (.Name x pos) (Hy i):=EG z C L H
def Gg(C:Y4 X.prog X.w X.K X.mg X.base k x ps sp)(N:Cc n X.A)(F:PA X (e::es) t)(z:k<=n:=by lk)(P:Gl X x:=by exact I)(L:(x==("__debug__" : J))=lX:=by lk)(Q:mH (e::es) X.env=(lX,nU e X.env)::mH es X.env:=by rfl)(H:(oB pos (mH es X.env)).any (·.1)=lX:=by rfl) :
  PE X (.Call (.Name x p) (e::es) [] pos) (DP sp [] E0 t):=Gd C (N.mono z) P F L Q H
def iQ(K:zAa)(F:PE X a ta)(L:PE X b tb)(z:X.K=K:=by exact I)(C:M0 b:=by exactλy y=>I):PE X (.Subscript a b pos) (YS (US K) ta tb):=Cr (PY z) F L C
def iO(K:zAa)(F:PE X a ta)(L:PE X b tb)(z:X.K=K:=by exact I)(C:M0 b:=by exactλy y=>I):PE X (.Subscript a b pos) (YS (XT K) ta tb):=Cr (MK z) F L C
def Ix{P}{r:List V->Hp->VK->Prop}(F:Mg X (.builtin P) r)(z:Zy X.prog X.w X.K X.mg X.base)(S:zAx X.K zCB x=g M)(L:PA X (e::es) t)(C:zCz x=g (.builtin P):=by exact I)(Q:Gl X x:=by exact I)(R:x ≠ "__name__":=by lk)(N:(x==("__debug__" : J))=lX:=by lk)
  (U:mH (e::es) X.env=(lX,nU e X.env)::mH es X.env:=by rfl) (H:(oB pos (mH es X.env)).any (·.1)=lX:=by rfl):PE X (.Call (.Name x p) (e::es) [] pos) (gD r t):=Hs F Q (z.nn S) C L R N U H
def Vr{i:Int}(z:Zy X.prog X.w X.K X.mg X.base)(h:Oo X.K x i)(F:Gl X x:=by exact I)(C:(x==("__debug__" : J))=lX:=by lk):PE X (.Name x pos) (tC (.int i)):=OD (z.gi h) F C
def Cf(z:PE X a ta)(F:mH #[a] X.env=(lX,nU a X.env)::mH [] X.env:=by rfl):PA X #[a] (EJ ta AH):=Aw z Iw F
def Dy(z:PE X a ta)(L:PE X b tb)(F:mH #[a,b] X.env=(lX,nU a X.env)::mH #[b] X.env:=by rfl)(C:mH #[b] X.env=(lX,nU b X.env)::mH [] X.env:=by rfl):PA X #[a,b] (EJ ta (EJ tb AH)):=Aw z (Aw L Iw C) F
end
section
variable {P:mF} {w:mR} {K:zAa} {mg:J->Option lV} {base:mX} {x y qual:J} {st:nZ} {C:T} {k:Nat} {ps:List J} {sp:Sp}
structure NY(x qual:J)(st:nZ)(N ps:List J)(sp:Sp):Prop where
 b:Z9 x qual st ps
 s:Cb N ps (Av st)
 l:∀vs H Q E,sp vs H Q E->vs.length=ps.length
def df{N:List J}(b:Z9 x qual st ps:=by exact bd)(s:Cb N ps (Av st):=by injections)(l:∀vs H Q E,sp vs H Q E->vs.length=ps.length:=by intro _ _ _ _ h;first|(cases h;subst_vars;rfl)|(let[_,rfl,_]:=h;rfl)|(let[_,_,rfl,_]:=h;rfl)|(let[_,_,_,rfl,_]:=h;rfl)):NY x qual st N ps sp:=[b,s,l]
def dR{f:T}(F:Fw K x qual st f b)(N:List J)(D:NY x qual st N ps sp)(h:∀{f:T} {L:lV} {A:mZ} {outer:List sB} {s:lZ} {vs:List V} {E:XK},Cb N ps (Av st)->∀(H:Hp) (Q:VK),Cc k (A.deeper (oY qual (Av st) ⇑s f L))->sp vs H Q E ->
   ∃t,PSs (Mq Jv P w K mg base N qual (Av st) f L A outer s H E).nox (Dn st) t/\t { nx:=λz H'=>Q .non H',rt:=Q } (Gx N vs) H):Ar P w K mg base Jv (k+1) f b ps sp:=F.ok D.s D.l λz z z z H z Q z=>h D.s H Q
def Os(z:Zy P w K mg base)(d:Jw K x st)(N:List J)(D:NY x x st N ps sp)(h:∀{f:T} {L:lV} {A:mZ} {outer:List sB} {s:lZ} {vs:List V} {E:XK},Cb N ps (Av st)->∀(H:Hp) (Q:VK),Cc k (A.deeper (oY x (Av st) ⇑s f L))->sp vs H Q E ->
   ∃t,PSs (Mq Jv P w K mg base N x (Av st) f L A outer s H E).nox (Dn st) t/\t { nx:=λa H'=>Q .non H',rt:=Q } (Gx N vs) H):Y4 P w K mg base (k+1) x ps sp:=jK z d D.b λa a F=>dR F N D h
def iK(z:Zy P w K mg base)(m:Ka K C x qual st)(c:kF K C)(N:List J)(D:NY x qual st N ps sp)(h:∀{f:T} {L:lV} {A:mZ} {outer:List sB} {s:lZ} {vs:List V} {E:XK},Cb N ps (Av st)->∀(H:Hp) (Q:VK),Cc k (A.deeper (oY qual (Av st) ⇑s f L))->sp vs H Q E ->
   ∃t,PSs (Mq Jv P w K mg base N qual (Av st) f L A outer s H E).nox (Dn st) t/\t { nx:=λa H'=>Q .non H',rt:=Q } (Gx N vs) H):FF P w K mg base (k+1) C x ps sp:=iS z m c D.b λa a F=>dR F N D h
def OY(z:Zy P w K mg base)(q:Gn K y C)(m:Ka K C "__init__" qual st)(N:List J)(D:NY "__init__" qual st N ps sp)(h:∀{f:T} {L:lV} {A:mZ} {outer:List sB} {s:lZ} {vs:List V} {E:XK},Cb N ps (Av st)->∀(H:Hp) (Q:VK),Cc k (A.deeper (oY qual (Av st) ⇑s f L))->sp vs H Q E ->
   ∃t,PSs (Mq Jv P w K mg base N qual (Av st) f L A outer s H E).nox (Dn st) t/\t { nx:=λa H'=>Q .non H',rt:=Q } (Gx N vs) H):HB P w K mg base (k+1) y C ps sp:=iF z q m D.b λa a F=>dR F N D h
end
section
variable {X:Cx}
inductive AY(n m:Nat)(K:zAa)(x:V)(vs:List V)(H:Hp)(Q:VK):Prop
 |mk (z:J) (p:T) (ps:List J) (e:x=.str z) (e':vs=#[.ref p]) (h:Al K H p (ps.map V.str)\/Da K H p (ps.map V.str)) (a:1<=ps.length) (b:ps.length<=n) (c:z.length<=100) (d:∀y∈ps,y.length<=m) (q:Q (.str (mE z ps)) H)
def O6{n m:Nat}(nm:n*m+n*100<=1100000){K:zAa}(i:X.K=K):SG X "str.join" (AY n m K):=by
 subst i;intro F s σ H x vs v us Q R k rv h;let[z,p,W,rfl,rfl,A,h1,d,hz,f,q]:=h;let[t,rfl]:=k;let[w,rfl,ru]:=rv.one;cases ru;let z1:W.length*m<=n*m:=zBq _ d;let z2:W.length*z.length<=n*100:=vU d hz;let L:rD (W.toArray.foldl (· + ·.length+z.length) 0)=lX:=xU f Z;let E:(mE z W).length<=sizeLine:=by
  refine zAG (Ik f) ?_;rw[zCy,Nat.mul_add]
  lia
 rcases A with A|A
 .let[U,r,N,_]:=R.list A
  let[l,rfl,e]:=Wj r;refine pP vV (qL _ _ _) u9 (uT _ _) (meets_str_join_list z t p l (by rw[e];exact L)) [N.isList,?_];let S:l.length=W.length:=by rw[<- e,zAb]
  match l,S,e with
  |[],z,_=>simp at z;lia
  |#[(y,u)],_,e=>
   let C:W=#[y]:=by rw[<- e];rfl
   subst C;exact[.str y,H,R,[u,I],q]
  |a::b::c,_,e=>
   let P:joinMade z (a::b::c)=.str (mE z W):=by show xL (qK _ _)=_;rw[qE,e]
   rw[P];exact[E,[.str _,H,R.tok _,[_,I],q]]
 .let[U,r,N,_]:=R.tuple A
  let[l,rfl,e]:=Wj r;refine pP vV (qL _ _ _) u9 (uT _ _) (meets_str_join_tuple z t p l (by rw[e];exact L)) [(by let[o,j,e2,n,e3]:=N;exact[o,n,j,e2,e3]),?_];let S:l.length=W.length:=by rw[<- e,zAb]
  match l,S,e with
  |[],z,_=>simp at z;lia
  |#[(y,u)],_,e=>
   let C:W=#[y]:=by rw[<- e];rfl
   subst C;exact[.str y,H,R,[u,I],q]
  |a::b::c,_,e=>
   let P:joinMade z (a::b::c)=.str (mE z W):=by show xL (qK _ _)=_;rw[qE,e]
   rw[P];exact[E,[.str _,H,R.tok _,[_,I],q]]
abbrev VN:=AY 1000 1000
abbrev VT:=AY 70 6200
def Nh{K:zAa}(z:X.K=K):SG X "str.join" (VN K):=O6 Y z
def Wo{K:zAa}(z:X.K=K):SG X "str.join" (VT K):=O6 Y z
end
def AS(h:mX)(e:T)(c:lV)(d:Option T)(P:T->Prop):Prop:=
 ∃L H C N Q R,h.get? e=g L/\L.cls=c/\L.dict=d/\L.data=.fields H/\1<H.size/\H[2]?=g mT/\P e /\
  H[1]?=g (.ref C)/\C≠e/\h.get? C=g N/\N.data=.fields Q/\Q[3]?=g R/\P C
section
variable {X:Cx} {pins:List (T×oH)} {σ:St} {H:Hp} {s:lZ}
def Am.field{T:lU}{ts:Array lV}{v:lV}{i:Nat}(P:Am X pins σ H s)(W:s.heap.get? T=g oT)(C:oT.data=.fields ts)(f:Gh X pins H T) :
  Am X pins σ H { s with heap:=s.heap.update T (mW λz=>z.setIfInBounds i v) }:=by
 let R:∀b o,b≠T->s.heap.get? b=g o->(s.heap.update T (mW λz=>z.setIfInBounds i v)).get? b=g o:=λb o n q=>by
  rw[zAR _ _ (oC n)];exact q
 let Q:=o0 C (λz=>z.setIfInBounds i v);let K:=zAT (mW λz=>z.setIfInBounds i v) W (oR Q);let u:Un (Vz X.stack) #[T] H H s.heap (s.heap.update T (mW λz=>z.setIfInBounds i v)):=by
  refine[λb o q x S F=>R b o (by simpa using F) q,λb o q x x F=>[o.slots,?_],λx x x n x=>n,λb o q F=>[o,R b o (by simpa using F) q],λx x q=>q,λx x x q=>q,λb E q=>[#v[],by rw[q];simp]];exact R b o (by simpa using F) q
 let L:jR X.prog X.w H (s.heap.update T (mW λz=>z.setIfInBounds i v)):=λb o z=>(P.hok b o z).stay (λc v A q=>by
  let N:∃w,H c=g w:=by
   rcases A with r|r
   .exact[o,by rw[r];exact z]
   .exact[_,r]
  let[w,U]:=N;exact R c v (λy=>by rw[y,f.1]at U;cases U) q) (λx q=>q) λx x q=>q
 exact P.callN (g':=s.gens) (d':=s.drawn) (t':=s.toks) (ch:=#[T]) u L P.bare λb S=>by
  let z:b=T:=by simpa using S
  subst z;exact[f.2.2.2.1,f.2.1,f.2.2.2.2.1,f.2.2.2.2.2]
def K5{M:u4}{e:T}{c:lV}{d:Option T}{y:lV->lZ->Prop}{K:Unit->lZ->Prop}(P:Am X pins σ H s)(x:AS s.heap e c d (Gh X pins H))
  (h:∀h',Am X pins σ H { s with heap:=h' }->AS h' e c d (Gh X pins H)->(b=lW->kO h' e c d mT (Gh X pins H))->K () { s with heap:=h' }):mO M m (qV (.ref e) b) K y s:=by
 let[A,t,R,n,w,i,r,l,N,E,q,u,p,k,F,W,Q,v,j]:=x;unfold qV;refine zCw (oM r E k ?_);rw[mS (show(mG R != .none)=B by simp)];let S:=(zBC.mp v).1;refine oU W Q S ?_;let L:=o0 Q (λz=>z.setIfInBounds 3 (b.elim mT λf=>pX f));let C:=zAT (mW λz=>z.setIfInBounds 3 (b.elim mT λf=>pX f)) W (oR L);let U:(s.heap.update R (mW λz=>z.setIfInBounds 3 (b.elim mT λf=>pX f))).get? e=g A:=by
  rw[zAR _ _ F];exact r
 let o:(w.setIfInBounds 3 (b.elim mT λf=>pX f))[3]?=g (b.elim mT λf=>pX f):=zBI S;refine h _ (P.field W Q j) [A,t,R,_,_,_,U,l,N,E,q,u,p,k,F,C,L,o,j] λz=>?_;subst z;exact[A,t,U,l,N,E,q,u,p,.inr [R,_,_,k,F,C,L,o,j]]
def Xg{M:u4}{e L:T}{env1:sB}{outer1:List sB}{oe:oH}{vs:Array lV}{F:Bool}{E:lV->lZ->Prop}{K:Unit->lZ->Prop}(Q:Am X pins σ H s)(S:X.stack=env1::outer1)(al:env1.frame=g L)
  (he:s.heap.get? e=g oe) (hd:oe.data=.fields vs) (l:1<vs.size) (h2:vs[2]?=g mT) (C:Gh X pins H e)
  (h:∀h',Am X pins σ H { s with heap:=h' }->AS h' e oe.cls oe.dict (Gh X pins H)->K () { s with heap:=h' }) :
  mO M X.A (do let a <- frameOf env1;let pl <- entryPlaceOf L F;let b <- qH head a .none (pX L) .none pl;setField (.ref e) 1 b) K E s:=by
 let hl:s.heap.FunFrames X.base (env1::outer1):=by rw[<- S];exact Q.stack
 let aj:X.A.frames=g (env1::outer1):=by rw[<- S];exact Q.ok.frames
 let an:e∉(env1::outer1).filterMap (·.frame):=λU=>by
  let ak:e∈Vz X.stack:=by rw[S];exact U
  rcases zAg.mp (Q.stkSub e ak)with z|z
  .exact C.2.1 z
  .exact C.2.2.1 z
 refine zCw (wpAny_frameOf_fun aj hl al λR P=>?_);refine zCw (wpAny_entryPlaceOf λpl place=>?_);unfold qH;unfold newFields;refine zCw (uV ?_ (place.sizeOk5 _ _ _ _ _));let x:R.get? e=g oe:=(P.2.1 e an).trans he;generalize hO:({ cls:=.type "traceback",dict:=lW,data:=.fields (#[head,.ref L,.none,pX L,.none]++(if pl.isEmpty then zAe 6 mT else pl)).toArray }:oH)=N;let dO:∃A,N.data=.fields A/\3<A.size:=by
  refine[_,by rw[<- hO],?_];rw[zAj,zAc,zAd,zAd,zAd,zAd,zAd]
  lia
 let[A,am,ad]:=dO;let i:=zAk (h:=R) N x;refine oU i hd l ?_;let m:R.objs.size≠e:=zBB (zAo x);let p:=o0 hd (λz=>z.setIfInBounds 1 (mG R.objs.size));let t:=zAT (mW λz=>z.setIfInBounds 1 (mG R.objs.size)) i (oR p);let af:((R.push N).update e (mW λz=>z.setIfInBounds 1 (mG R.objs.size))).get? R.objs.size=g N:=
  (zAR _ _ (oC m)).trans (zAJ R (by rw[<- hO];rfl))
 generalize hF:(R.push N).update e (mW λz=>z.setIfInBounds 1 (mG R.objs.size))=f at t af;let W:∀b o,b≠e->R.get? b=g o->f.get? b=g o:=λb o ah U=>by
  rw[<- hF,zAR _ _ (oC ah)];exact zAk _ U
 let u:Un (Vz X.stack) #[e] H H s.heap f:=by
  refine[λb o q _ U d=>W b o (by simpa using d) ((P.2.1 b ?_).trans q),λb o q _ _ d=>?_,λ_ _ _ n _=>n,λb o q d=>?_,λ_ _ q=>q,λ_ _ _ q=>q,λb ps q=>[#v[],by rw[q];simp]]
  .rw[S]at U
   exact U
  .let[j,z]:=P.2.2 b o q
   exact[j,W b _ (by simpa using d) z]
  .let[j,z]:=P.2.2 b o q
   exact[_,W b _ (by simpa using d) z]
 let ai:jR X.prog X.w H f:=λb o z=>(Q.hok b o z).stay (λc v hc q=>by
  let hs:∃w,H c=g w:=by
   rcases hc with r|r
   .exact[o,by rw[r];exact z]
   .exact[_,r]
  let[w,k]:=hs;refine W c v (λy=>?_) ((P.2.1 c λy=>?_).trans q)
  .rw[y,C.1]at k;cases k
  .have n:=Q.stkFree c (by rw[S];exact y)
   rw[k]at n;cases n) (λ_ q=>q) λ_ _ q=>q
 let I4:Am X pins σ H { s with heap:=f }:=Q.callN (g':=s.gens) (d':=s.drawn) (t':=s.toks) (ch:=#[e]) u ai Q.bare λb U=>by
  let z:b=e:=by simpa using U
  subst z;exact[C.2.2.2.1,C.2.1,C.2.2.2.2.1,C.2.2.2.2.2]
 let gT:s.heap.get? R.objs.size=lW:=zBy (by rw[P.1];exact zAm _);let nT:H R.objs.size=lW:=Q.hok.fresh (by rw[P.1];exact zAm _);let a3:A[3]?=g A[3]:=vM ad;refine h f I4 [_,_,R.objs.size,N,A,_,t,uB _ _,?_,p,by simpa using l,?_,C,by simp[l],m,af,am,a3,Q.fxOk gT nT]
 .let[c0,d0,dt,j]:=oe
  cases dt<;>rfl
 .rw[zBT Y]
  exact h2
def NG{M:u4}{e L:T}{env1 z:sB}{outer1:List sB}{c:lV}{d:Option T}{E:lV->lZ->Prop}{K:Unit->lZ->Prop}(P:Am X pins σ H s)(S:X.stack=env1::outer1)(Q:env1.frame=g L)(j:z.frame=g L)
  (x:kO s.heap e c d mT (Gh X pins H)) (h:∀h',Am X pins σ H { s with heap:=h' }->AS h' e c d (Gh X pins H)->K () { s with heap:=h' }):mO M X.A (sD (.ref e) z) K E s:=by
 let r:vS z=vS env1:=by unfold vS;rw[j,Q]
 let[u,y,C,l,t,U,f,k,b,p]:=x;subst l t;unfold sD;simp only[j,r];rcases p with A|⟨R,o,q,A,v,W,F,N,w⟩
 .refine zCw (oM C U A ?_)
  rw[mK (show ¬(mT != .none)=B by lk)];exact Xg P S Q C U f k b h
 .refine zCw (oM C U A ?_)
  rw[mS (show(mG R != .none)=B by simp)];refine zCw (oM W F N ?_);rw[mK (show ¬(mT==pX L)=B by simp[pX])];refine zCw (oU W F (zBC.mp N).1 ?_);rw[zCl s.heap R o q 3 .none W F N];exact Xg P S Q C U f k b h
def X3{M:u4}{e:T}{c:lV}{d:Option T}{E E':lV->lZ->Prop}{K:Unit->lZ->Prop}(R:Am X pins σ H s)(j:X.stack=X.env::X.outer)(L:X.env.frame=g X.env.locals)
  (x:AS s.heap e c d (Gh X pins H)) (h:∀h',Am X pins σ H { s with heap:=h' }->kO h' e c d mT (Gh X pins H)->K () { s with heap:=h' }) :
  mO M X.A (sD (.ref e) X.env) (λ_ s2=>mO M A' (qV (.ref e) lW) K E' s2) E s:=by
 let t:=x;let[k,vs,P,oT,ts,p,b,m,w,f,hz,y,n,h1,Q,W,F,A,u]:=x;unfold sD;simp only[L];refine zCw (oM b f h1 ?_);rw[mS (show(mG P != .none)=B by simp)];refine zCw (oM W F A ?_);by_cases q:(p==pX X.env.locals)=B
 .rw[mS q]
  exact zCx (K5 R t λh' U _ S=>h h' U (S I))
 .rw[mK q]
  let N:=(zBC.mp A).1;refine zCw (oU W F N ?_);let l:=R.field (i:=3) (v:=mT) W F u;let C:(s.heap.update P (mW λz=>z.setIfInBounds 3 mT)).get? e=g k:=by
   rw[zAR _ _ Q];exact b
  subst m w;exact Xg l j L C f hz y n λh' U S=>K5 U S λr a _ o=>h r a (o I)
def UA(X:Cx)(W:St->XK):Prop:=∀(pins:List (T×oH)) (σ:St) (H:Hp) (s:lZ) (e:T) (c:lV) (d:Option T),Am X pins σ H s->AS s.heap e c d (Gh X pins H)->W σ c d H->X.xe (.ref e) s
end
def LG{P:mF}{w:mR}{K:zAa}{U:J->Option lV}{N:List J}{qual:J}{f:T}{cd:lV}{A:mZ}{E:XK} :
  UA (Mq (Nt P w) P w K U j N qual scope f cd A outer k l E) (λy=>E):=by
 intro R W H s e c d Q x C;show mO _ _ (uX _ (.ref e)) _ _ s;unfold uX;refine zCw (X3 Q I I x λX F S=>?_);refine[e,c,d,H,I,F.os,F.bare,F.base,F.hok,S.imp λb L=>[?_,L.1],C];rcases L.2.2.2.1 with z|z
 .exact nomatch (show b∈([]:List T) from z)
 .exact z
section
def Gh.ofB{X:Cx}{NC:List J}{Q H':Hp}{pins:List (T×oH)}{σ:St}{b:T}(P:Am X pins σ Q d)(L:∀b∈j,Op X pins Q b)(S:X.stack=X.env::X.outer)(N:X.env.frame=g X.env.locals)(f:Gh (Pg X NC scope d Q j) [] H' b):Gh X pins H' b:=by
 let F:∀{a:T},a∈X.env.locals::X.fs->a∈Vz X.stack:=λh=>by
  rw[S];show _∈List.filterMap (·.frame) (X.env::X.outer);rw[zBt,N];exact h
 let H:b∉Vz X.stack:=f.2.2.1;refine[f.1,λz=>H (F (by rw[z];exact zAl ..)),λz=>H (F (zAh _ z)),?_,λx c e z=>?_,λp W z=>?_]
 .rcases f.2.2.2.1 with h|h
  .rcases (L b h).2.2.2.1 with q|q
   .exact .inl q
   .exact .inr (zBy q)
  .by_cases U:b∈X.ex
   .exact .inl U
   refine .inr ?_;cases q:X.s₀.heap.get? b with
   |none=>rfl
   |some o=>
    let[A,R]:=P.base.there b o q U;rw[show d.heap.get? b=M from h]at R;cases R
 .rcases f.2.2.2.1 with h|h
  .exact(L b h).2.2.2.2.1 x c e z
  .let[v,o,C,_]:=P.cell x c e
   rw[z,show d.heap.get? b=M from h]at C;cases C
 .rcases f.2.2.2.1 with h|h
  .exact(L b h).2.2.2.2.2 p W z
  .have q:=(P.pin p W).1
   rw[z,show d.heap.get? b=M from h]at q;cases q
def MD{X:Cx}{W:St->XK}{NC own cs:List J}{ix:List Nat}{te:(St->XK)->TE}(hW:UA X W)(U:X.stack=X.env::X.outer)(z:X.env.frame=g X.env.locals)(a:X.calm=B)(S:Az X.env.scope scope)(hN:NC=own++cs)(aa:jY X scope cs ix)
  (hi:PI X tg iter wi) (hg:∀o l q,PG (Pg X NC scope o l q) tg j) (ht:∀o l q,UK (Pg X NC scope o l q) a0 tc) (w:∀o l q E V,jU (ZW X NC scope o l q E) V->PE (ZW X NC scope o l q E) a1 (te V))
  (hs:∀x,rE iter X.env x=pure x:=by intro _;rfl):PE X (.ListComp a1 #[[tg,iter,a0,0]] scope a3) (λσ H Q=>KS wi j tc (te λ_=>W σ) own.length ix σ H Q):=by
 intro pins s σ H Q R h;rw[eval_ListComp];let ah:∀y∈scope.names,y.2=.free->∃c,X.env.cells.lookup y.1=g c:=λy hy e=>R.ok.has y.1 (S.free y hy e);refine rP (use:=M) I hs (Z4 ah) S.kind S.own (Er (hi pins s σ H _ R h) λv s1 n=>Er n λak s2 N=>?_);let[it,q,tn,k,H2,e,I2,A,ag,f2,N]:=N;subst e;refine Wk a S hN aa hg ht I2 A ag f2 (QQ:=λp=>Q (.ref p)) (RR:=λad C=>compPost (mP X.prog X.w) X.A X.xe M (EP X pins σ Q) ad C)
  (EE:=λo l v i=>∃e c d r t,v=.ref e/\Am (Pg X NC scope o l q) [] r t i/\kO i.heap e c d mT (Gh (Pg X NC scope o l q) [] t)/\W σ c d t)
  (λo l=>w o l q _ (λ_=>W σ) ?_) ?_ N λo l a2 H5 s6 K m J6 qn=>?_
 .intro u r t i e c d I' x' hw
  exact[e,c,d,r,t,I,Am.unpinned (pins:=[]) (pl:=u) I'.ofB,x'.imp λb f=>[f.1,f.2.1,f.2.2.1,f.2.2.2.1,f.2.2.2.2.1,λp hp=>mC (show p∈([]:List (T×oH)) from hp) zZ],hw]
 .rintro o l ad v i K m ⟨e,c,d,r,t,rfl,J3,x,hw⟩
  unfold notedBy;refine NG (X:=Pg X NC scope o l q) J3 (env1:=X.env) (outer1:=X.outer) (L:=X.env.locals) U z z x λh' J4 x4=>?_;let[m6,P,_]:=J4.loc;refine[m6,P,λh5 F ai aj=>?_];let I5:=Qi K m J4 F;let x5:AS h5 e c d (Gh X pins t):=by
   let[oe,vs,A,oT,ts,fl,w,a,ac,hd,hz,N,fe,n,ab,hT,ae,h3,fT]:=x4;exact[oe,vs,A,oT,ts,fl,(F.2 e fe.2.1).trans w,a,ac,hd,hz,N,fe.ofB K m U z,n,ab,(F.2 A fT.2.1).trans hT,ae,h3,fT.ofB K m U z]
  let x6:=x5;let[oe,vs,A,oT,ts,fl,w,a,ac,hd,hz,N,fe,n,ab,hT,ae,h3,fT]:=x5;unfold PySem.passOn;refine zCw (oM w hd n ?_);rw[mK (show ¬(mG A == .none)=B by simp)];refine zCw (K5 I5 x6 λh7 I7 x7 _=>?_);exact wpAny_throw (hW pins σ t _ e c d I7 x7 hw)
 .let[m6,P,_]:=J6.loc
  exact[m6,P,λh7 af=>[.ref ⇑s2,H5,Qi K m J6 af,I,qn]]
end
section
variable {P:mF} {w:mR} {K:zAa} {mg:J->Option lV} {base:mX} {x y qual:J} {st:nZ} {C:T} {k:Nat} {ps:List J} {sp:Sp}
def W2(z:Zy P w K mg base)(d:Jw K x st)(L:Z9 x x st ps):lK K mg x st ps:=by
 let[_,d]:=d;let[_,_,_,_,_,_,_,_,_,l,c]:=d.ex;let F:=F1 l c d.kp;exact[_,_,F,F.binds L,z.nv d.ns]
def Sq(m:Ka K C x qual st)(c:kF K C)(z:Z9 x qual st ps)(h:∀f L,Fw K x qual st f L->Ar P w K mg base Jv k f L ps sp):FF P w K mg base k C x ps sp:=by
 let[_,a,i]:=m;let[_,F,H]:=i.get z;exact[[_,_,h _ _ F,H,[a,i.fn,i.kp]],c]
def NZ(m:Ka K C x qual st)(c:kF K C)(z:Z9 x qual st ps)(h:∀f L,Fw K x qual st f L->Ar P w K mg base (Nt P w) k f L ps sp):Gf P w K mg base k C x ps sp:=by
 let[_,a,i]:=m;let[_,F,H]:=i.get z;exact[[_,_,h _ _ F,H,[a,i.fn,i.kp]],c]
def iB(z:Zy P w K mg base)(q:Gn K y C)(m:Ka K C "__init__" qual st)(L:Z9 "__init__" qual st ps)(h:∀f N,Fw K "__init__" qual st f N->Ar P w K mg base (Nt P w) k f N ps sp):Te P w K mg base k y C ps sp:=by
 let[_,a,i]:=m;let[_,F,H]:=i.get L;exact[_,_,[q.mi,a,i.fn,q.kp],h _ _ F,H,z.nv q.ns]
def iU(z:Zy P w K mg base)(q:Gn K y C)(m:BsE K C x qual st)(L:Z9 x qual st ps)(h:∀f Q,Fw K x qual st f Q->Ar P w K mg base (Nt P w) k f Q ps sp):NI P w K mg base k y x ps sp:=by
 let[_,b,H,r,i]:=m;let[_,F,N]:=i.get L;exact[_,_,_,h _ _ F,N,[H,r,b,i.kp],z.nv q.ns]
def jF{ds:Array lV}(z:Zy P w K mg base)(q:Gn K y C)(m:MtD K C "__init__" qual st ds)(h:∀f R,kU K "__init__" qual st f R->Ar P w K mg base (Nt P w) k f R ps sp)
  (S:∀(F:T) (kV H Q:lV) (U:Option T) (cd L:lV) (N:Nat),K.lookup F=g [.type "tuple",M,.seq ds N,#v[]]->Dc K (zAM "__init__" qual (Fa st) (Dn st) (Av st) (.ref F) kV H Q U cd L) ps []):Te P w K mg base k y C ps sp:=by
 let[_,_,_,_,_,_,_,_,_,_,_,_,a,i,l,c,e,W]:=m;exact[_,_,[q.mi,a,i,q.kp],h _ _ (DC l c e),S _ _ _ _ _ _ _ _ W,z.nv q.ns]
def EmE(K:zAa)(C:T)(qual:J)(st:nZ):Prop:=∃f,Su K C f #[.type "ValueError",.type "Exception",.type "BaseException",.type "object"] "ValueError.__new__"=B/\zAH K (.ref C)=B/\MtIn K "__init__" qual st f
def EmE.of{f:T}(a:zAD K (.ref C) "__init__"=g (g (.ref f)))(i:MtIn K "__init__" qual st f)(w:Su K C f #[.type "ValueError",.type "Exception",.type "BaseException",.type "object"] "ValueError.__new__"=B)(k:zAH K (.ref C)=B):EmE K C qual st:=[f,w,k,i]
def hX(z:Zy P w K mg base)(q:zAx K zCB y=g (g (.ref C)))(m:EmE K C qual st)(L:Z9 "__init__" qual st ps)(h:∀f N,Fw K "__init__" qual st f N->Ar P w K mg base Jv k f N ps sp):PD P w K mg base k y C ps sp:=by
 let[_,o,e,i]:=m;let[_,F,H]:=i.get L;exact[_,_,[[_,_,_,_,o,qO],i.fn,e],h _ _ F,H,z.nv q]
def jM(z:Zy P w K mg base)(q:zAx K zCB y=g (g (.ref C)))(m:EmE K C qual st)(L:Z9 "__init__" qual st ps)(h:∀f N,Fw K "__init__" qual st f N->S1 P w K mg base k f N ps sp):IU P w K mg base k y C ps sp:=by
 let[_,o,e,i]:=m;let[_,F,H]:=i.get L;exact[_,_,[[_,_,_,_,o,qO],i.fn,e],h _ _ F,H,z.nv q]
def Ar.ofW{f:T}(F:Ar P w K mg base (LU P w) k f c ps sp):Ar P w K mg base Jv k f c ps (λvs H Q a=>sp vs H Q E0):=
 [λvs H Q a h=>F.len vs H Q E0 h,λA R s H L U vs Q E W e b r h=>oG (F.run A R s H L U vs Q E0 W e b r h) λq X N=>by
  cases q with
  |error v=>
   let[_,_,_,_,_,_,_,_,_,_,_,z]:=(show LU P w _ _ _ _ _ _ from N);exact z
  | ok S=>cases S<;>exact N]
end
section
variable {P:mF} {w:mR} {K:zAa} {mg:J->Option lV} {base:mX} {x:J} {C:T}
def Zf(z:Zy P w K mg base)(q:zAx K zCB x=g (g (.ref C)))(r:zBD K C #[.type "ValueError",.type "Exception",.type "BaseException",.type "object"] "ValueError.__new__"=B):cC K x mg C:=[z.nv q,_,_,_,_,r,qO]
def UF{p q r s:J}(z:Zy P w K mg base)(h:NT4 K x p q r s):YT K mg x #[.str p,.str q,.str r,.str s]:=by
 let[_,_,_,_,_,_,a,b]:=h;exact[_,z.nv a,λH=>.inr [_,_,_,b,I,I,by show 4<=sizeLine;rw[zCy];decide,.cons [_,I] (.cons [_,I] (.cons [_,I] (.cons [_,I] .nil)))]]
def fK(z:Zy P w K mg base)(q:Gn K x C)(n:zAD K (.ref C) "__init__"=g (g (.builtin "object.__init__"))):fX K mg x C:=[q.mi,n,q.kp,z.nv q.ns]
end
section
variable {P:mF} {w:mR} {K:zAa} {mg:J->Option lV} {base:mX} {x y qual:J} {st:nZ} {C:T} {k:Nat} {ps:List J} {sp:Sp}
def dg{N:List J}(l:∀vs H Q E,sp vs H Q E->vs.length=ps.length)(b:Z9 x qual st ps:=by exact bd)(s:Cb N ps (Av st):=by injections):NY x qual st N ps sp:=[b,s,l]
def fM{f:T}(F:Fw K x qual st f b)(N:List J)(D:NY x qual st N ps sp)(h:∀{f:T} {L:lV} {A:mZ} {outer:List sB} {s:lZ} {vs:List V},Cb N ps (Av st)->∀(H:Hp) (Q:VK) (E:XK),Cc k (A.deeper (oY qual (Av st) ⇑s f L))->sp vs H Q E ->
   ∃t,PSs (Mq (Nt P w) P w K mg base N qual (Av st) f L A outer s H E) (Dn st) t/\t { nx:=λz H'=>Q .non H',rt:=Q } (Gx N vs) H):Ar P w K mg base (Nt P w) (k+1) f b ps sp:=F.okX D.s D.l λz z z z H z Q E=>h D.s H Q E
def TX(z:Zy P w K mg base)(d:Jw K x st)(N:List J)(D:NY x x st N ps sp)(h:∀{f:T} {L:lV} {A:mZ} {outer:List sB} {s:lZ} {vs:List V},Cb N ps (Av st)->∀(H:Hp) (Q:VK) (E:XK),Cc k (A.deeper (oY x (Av st) ⇑s f L))->sp vs H Q E ->
   ∃t,PSs (Mq (Nt P w) P w K mg base N x (Av st) f L A outer s H E) (Dn st) t/\t { nx:=λa H'=>Q .non H',rt:=Q } (Gx N vs) H):Qr P w K mg base (k+1) x ps sp:=(W2 z d D.b).calX λa a F=>fM F N D h
def cZ(m:Ka K C x qual st)(c:kF K C)(N:List J)(D:NY x qual st N ps sp)(h:∀{f:T} {L:lV} {A:mZ} {outer:List sB} {s:lZ} {vs:List V},Cb N ps (Av st)->∀(H:Hp) (Q:VK) (E:XK),Cc k (A.deeper (oY qual (Av st) ⇑s f L))->sp vs H Q E ->
   ∃t,PSs (Mq (Nt P w) P w K mg base N qual (Av st) f L A outer s H E) (Dn st) t/\t { nx:=λz H'=>Q .non H',rt:=Q } (Gx N vs) H):Gf P w K mg base (k+1) C x ps sp:=NZ m c D.b λz z F=>fM F N D h
def dX(z:Zy P w K mg base)(q:Gn K y C)(m:Ka K C "__init__" qual st)(N:List J)(D:NY "__init__" qual st N ps sp)(h:∀{f:T} {L:lV} {A:mZ} {outer:List sB} {s:lZ} {vs:List V},Cb N ps (Av st)->∀(H:Hp) (Q:VK) (E:XK),Cc k (A.deeper (oY qual (Av st) ⇑s f L))->sp vs H Q E ->
   ∃t,PSs (Mq (Nt P w) P w K mg base N qual (Av st) f L A outer s H E) (Dn st) t/\t { nx:=λa H'=>Q .non H',rt:=Q } (Gx N vs) H):Te P w K mg base (k+1) y C ps sp:=iB z q m D.b λa a F=>fM F N D h
end
end L2
namespace CR
def at0(l:List Int)(k:Int):Int:=l.getD k.toNat 0
structure GW(ws:List Int):Prop where
 lo:1<=ws.length
 hi:ws.length<=8
 pos:∀w∈ws,1<=w
 sum:ws.sum<=100
def may(ws ds:List Int)(t k:Int):Bool:=decide (at0 ds k*ws.sum<at0 ws k*(t+1))
def due(ws ds:List Int)(k:Int):Int:=((at0 ds k+1)*ws.sum+at0 ws k-1)/at0 ws k
def placesTo(ws ds:List Int)(t:Int)(n:Nat):List Int:=((zAU n).map λk:Nat=>(k:Int)).filter λk=>may ws ds t k
def places(ws ds:List Int)(t:Int):List Int:=placesTo ws ds t ws.length
def pick(f:Int->Int)(b:Int)(l:List Int):Int:=l.foldl (λb p=>if f p<f b then p else b) b
def place(ws ds:List Int)(t:Int):Int:=pick (due ws ds) ((places ws ds t).headD 0) (places ws ds t)
def put(ds:List Int)(p:Int):List Int:=ds.set p.toNat (at0 ds p+1)
def run(ws:List Int):Nat->List Int×List Int
 |0=>(zAe ws.length 0,[])
 |t+1=>(put (run ws t).1 (place ws (run ws t).1 t),(run ws t).2++#[place ws (run ws t).1 t])
def wheel(ws:List Int):List Int:=(run ws ws.sum.toNat).2
def placesTo_succ(ws ds:List Int)(t:Int)(n:Nat):placesTo ws ds t (n+1)=placesTo ws ds t n++(if may ws ds t n=B then #[(n:Int)] else []):=by
 unfold placesTo;rw[zCn,zAf,yM]
 congr 1
 by_cases h:may ws ds t n=B
 .simp[h]
 .simp[h]
def placesTo_le(ws ds:List Int)(t:Int)(n:Nat):(placesTo ws ds t n).length<=n:=by
 unfold placesTo;refine zAG (zBM _ _) ?_;rw[zAb,zBl];exact zAm _
def placesTo_mem{ws ds:List Int}{t:Int}{n:Nat}{k:Int}(h:k∈placesTo ws ds t n):0<=k/\k<n/\may ws ds t k=B:=by
 unfold placesTo at h;let[C,F]:=List.mem_filter.mp h;let[j,z,rfl]:=zAv.mp C;let:=zBs.mp z;exact[Z,Z,F]
theorem S5(f:Int->Int):∀(l:List Int) (b:Int),pick f b l=b\/pick f b l∈l
 |[],b=>.inl I
 |p::l,b=>by
  show pick f (if f p<f b then p else b) l=b\/pick f (if f p<f b then p else b) l∈p::l;rcases S5 f l (if f p<f b then p else b)with h|h
  .rw[h]
   split
   .exact .inr zAl
   .exact .inl I
  .exact .inr (zAh _ h)
def FT{ws ds:List Int}{t:Int}(h:places ws ds t≠[]):place ws ds t∈places ws ds t:=by
 unfold place;rcases S5 (due ws ds) (places ws ds t) ((places ws ds t).headD 0)with e|e
 .rw[e]
  cases q:places ws ds t with
  |nil=>exact mC q h
  |cons p l=>exact zAl
 .exact e
theorem HK:∀(ws ds:List Int) (T c:Int),ds.length=ws.length->(∀k:Nat,k<ws.length->ws.getD k 0*c<=ds.getD k 0*T)->ws.sum*c<=ds.sum*T
 |[],[],_,_,_,_=>by simp
 |[],_::_,_,_,h,_=>by simp at h
 |_::_,[],_,_,h,_=>by simp at h
 |w::ws,d::ds,T,c,h,F=>by
  let C:=HK ws ds T c (by simpa using h) λk z=>by simpa using F (k+1) (by simpa using z)
  let L:=F 0 zZ;simp only[zBx,yB]at *;rw[Int.add_mul,Int.add_mul]
  lia
def sum_pos{ws:List Int}(C:GW ws):1<=ws.sum:=by
 let z:∀l:List Int,(∀w∈l,1<=w)->(l.length:Int)<=l.sum:=by
  intro l
  induction l with
  |nil=>intro _;simp
  |cons w l H=>
   intro h;let N:=h w zAl;let L:=H λx F=>h x (zAh _ F);rw[zBx,zAd]
   lia
 let:=z ws C.pos;let:=C.lo
 lia
def places_ne{ws ds:List Int}{t:Nat}(C:GW ws)(H:ds.length=ws.length)(L:ds.sum=t):places ws ds t≠[]:=by
 intro h;let z:∀k:Nat,k<ws.length->ws.getD k 0*((t:Int)+1)<=ds.getD k 0*ws.sum:=λk F=>by
  by_cases c:ds.getD k 0*ws.sum<ws.getD k 0*((t:Int)+1)
  .have m:(k:Int)∈places ws ds t:=by
    unfold places placesTo;refine List.mem_filter.mpr [zAv.mpr [k,zBs.mpr F,I],?_];unfold may at0
    simpa using c
   rw[h]at m;cases m
  .lia
 let q:=HK ws ds ws.sum ((t:Int)+1) H z;rw[L]at q;let p:=sum_pos C;let e:ws.sum*((t:Int)+1)=(t:Int)*ws.sum+ws.sum:=by rw[Int.mul_add,Int.mul_comm,Int.mul_one]
 lia
def AD(ds:List Int)(p:Int):(put ds p).length=ds.length:=by unfold put;rw[List.length_set]
theorem CP:∀(ds:List Int) (k:Nat) (x:Int),k<ds.length->(ds.set k x).sum=ds.sum-ds.getD k 0+x
 |[],_,_,h=>by simp at h
 |d::ds,0,x,_=>by simp only[List.set_cons_zero,zBx,yB];lia
 |d::ds,k+1,x,h=>by
  let C:=CP ds k x (by simpa using h);simp only[List.set_cons_succ,zBx,List.getD_cons_succ,C];lia
def QI{ds:List Int}{p:Int}(z:0<=p)(h:p<ds.length):(put ds p).sum=ds.sum+1:=by
 unfold put at0;rw[CP ds p.toNat _ Z]
 lia
def Yu(n:Nat):(zAe n (0:Int)).sum=0:=by
 induction n with
 |zero=>rfl
 |succ n C=>rw[zAN,zBx,C];rfl
structure At(ws:List Int)(t:Nat):Prop where
 len:(run ws t).1.length=ws.length
 sum:(run ws t).1.sum=t
 row:(run ws t).2.length=t
 inr:∀p∈(run ws t).2,0<=p/\p<ws.length
def place_in{ws ds:List Int}{t:Nat}(C:GW ws)(H:ds.length=ws.length)(z:ds.sum=t):0<=place ws ds t/\place ws ds t<ws.length/\may ws ds t (place ws ds t)=B:=
 placesTo_mem (FT (places_ne C H z))
theorem run_at{ws:List Int}(C:GW ws):∀t:Nat,At ws t
 |0=>[by simp[run],by show(zAe _ 0).sum=_;rw[Yu];rfl,I,λx h=>by cases h]
 |t+1=>by
  let a:=run_at C t;let[z,H,_]:=place_in (t:=t) C a.len a.sum;refine[?_,?_,?_,λp L=>?_]
  .show (put _ _).length=_
   rw[AD,a.len]
  .show (put _ _).sum=_
   rw[QI z (by rw[a.len];exact H),a.sum]
   lia
  .show (_++#[_]).length=_
   rw[zAc,a.row];rfl
  .rcases zAE.mp L with h|h
   .exact a.inr p h
   .rw[zAp.mp h]
    exact[z,H]
end CR
namespace CRL
open PySem L2
def top(i:Nat):nZ:=PySem.Challenge.pw_coverroll_k92_no_texts.main.body.getD i (.Pass [0,0,0,0])
abbrev Im:nZ:=Cu (top 5) 0
abbrev Gy:nZ:=Cu (top 10) 0
abbrev Ky:nZ:=Cu (top 14) 0
abbrev Jf:nZ:=Cu (top 36) 0
abbrev Pl:nZ:=Cu (top 37) 2
abbrev Mt:nZ:=Cu (top 38) 2
abbrev Mr:nZ:=Cu (top 39) 2
abbrev Lz:nZ:=top 44
abbrev Ny:nZ:=top 45
abbrev Jh:nZ:=Cu (top 46) 1
abbrev Ei:nZ:=Cu (top 46) 2
abbrev Kw:nZ:=Cu (top 47) 2
abbrev Kx:nZ:=Cu (top 48) 2
abbrev Lq:nZ:=Cu (top 49) 2
abbrev Oj:nZ:=Cu (top 50) 2
abbrev Pa:nZ:=Cu (top 51) 2
abbrev Pq:nZ:=Cu (top 52) 2
abbrev Rh:nZ:=Cu (top 52) 3
abbrev Nq:nZ:=Cu (top 53) 2
abbrev Ox:nZ:=Cu (top 53) 3
abbrev Il:nZ:=Cu (top 62) 0
abbrev Ff:nZ:=Cu (top 67) 0
abbrev Iu:nZ:=Cu (top 74) 3
abbrev Jn:nZ:=Cu (top 74) 4
abbrev Ib:nZ:=Cu (top 74) 6
abbrev Fq:nZ:=Cu (top 74) 7
abbrev Gw:nZ:=Cu (top 74) 8
abbrev Ht:nZ:=Cu (top 74) 12
abbrev Kc:nZ:=top 75
abbrev Hu:nZ:=Cu (top 79) 1
abbrev Mn:nZ:=top 80
abbrev Kv:nZ:=top 86
abbrev Nn:nZ:=top 87
abbrev Mf:nZ:=top 88
abbrev Mo:nZ:=top 102
abbrev Jz:nZ:=top 106
abbrev Pn:nZ:=top 107
abbrev Mc:nZ:=top 111
abbrev NQ:nZ:=top 114
def Ag:T:=453
def An:T:=495
def Ao:T:=535
def Aq:T:=575
def Bd:T:=615
def Bj:T:=655
def Bp:T:=702
def Ba:T:=749
def Bl:T:=298
def De:T:=333
def Br:T:=366
def Bx:T:=399
def Eo:T:=816
def Bw:T:=878
def Fy:T:=178
def As:T:=990
def Ci:T:=1032
def Cp:T:=31
def Me:T:=44
def Go:T:=56
def Cd:T:=75
def Cz:T:=87
def Gp:T:=99
def Kl:T:=111
def V9:T:=123
def Db:T:=142
def Tv:T:=154
structure Pk(K:zAa):Prop where
 qk:Jw K "is_whole" (top 18)
 j8:Jw K "has_figures_alone" (top 19)
 lu:Jw K "writes_whole" (top 20)
 kr:Jw K "is_cents_part" (top 21)
 p3:Jw K "read_cents" (top 22)
 p4:Jw K "show_cents" (top 23)
 j9:Jw K "has_letters_alone" (top 29)
 qu:Jw K "is_name" (top 30)
 qz:Jw K "is_day" (top 31)
 pw:Jw K "is_amount" (top 32)
 jx:Jw K "checked_amount" (top 35)
 lv:Jw K "words_within" Lz
 p5:Jw K "words_with" Ny
 gj:Jw K "are_weights" (top 57)
 ql:Jw K "may_have" (top 58)
 r9:Jw K "due_by" (top 59)
 ku:Jw K "place_of_turn" (top 60)
 me:Jw K "turns" (top 61)
 mf:Jw K "check_houses" (top 66)
 re:Jw K "day_of" (top 73)
 jy:Jw K "read_condition" Kc
 ka:Jw K "show_condition" (top 76)
 ie:Jw K "new_draft" Mn
 q0:Jw K "take_when" (top 81)
 qa:Jw K "weight_of" (top 82)
 p6:Jw K "take_share" (top 83)
 p7:Jw K "take_waits" (top 84)
 qb:Jw K "clause_of" (top 85)
 e9:Jw K "take_of_cover" Kv
 qm:Jw K "take_row" Nn
 ig:Jw K "read_book" Mf
 p8:Jw K "show_share" (top 89)
 p9:Jw K "show_cover" (top 90)
 qc:Jw K "show_book" (top 91)
 qd:Jw K "_law_cell" (top 93)
 nq:Jw K "_law_spread" (top 94)
 pb:Jw K "_law_names" (top 95)
 o5:Jw K "_law_amount" (top 96)
 qe:Jw K "_law_unit" (top 97)
 pd:Jw K "_law_world" (top 98)
 qf:Jw K "_law_cond" (top 99)
 ja:Jw K "_law_drawn_clause" (top 100)
 o6:Jw K "_law_houses" (top 101)
 oa:Jw K "_law_covers" Mo
 pe:Jw K "_law_money" (top 103)
 kc:Jw K "_law_bracketed" Jz
 ii:Jw K "_law_text" Pn
 jo:Jw K "_law_clause_row" (top 108)
 jp:Jw K "_law_cover_rows" (top 109)
 qg:Jw K "_law_rows" (top 110)
 mh:Jw K "_law_refused" Mc
 ky:Jw K "_law_bad_rows" (top 112)
 og:Jw K "_law_spoilt" (top 113)
 rn:Jw K "law" NQ
 bq:Gn K "Condition" Ag
 bh:Gn K "CauseIs" An
 ee:Bk K An "name"
 bi:Gn K "ThingIs" Ao
 f7:Bk K Ao "name"
 ba:Gn K "DaysIn" Aq
 f8:Bk K Aq "first"
 g8:Bk K Aq "last"
 d5:Gn K "Over" Bd
 gk:Bk K Bd "cents"
 f9:Gn K "Not" Bj
 ik:Bk K Bj "part"
 ff:Gn K "All" Bp
 g9:Bk K Bp "several"
 d7:Gn K "Some" Ba
 fh:Bk K Ba "several"
 ke:Gn K "Clause" Bl
 pf:Bk K Bl "by"
 fk:Gn K "Own" De
 gu:Bk K De "cents"
 jd:Bk K De "by"
 b7:Gn K "Layer" Br
 bu:Bk K Br "first"
 cm:Bk K Br "upto"
 im:Bk K Br "by"
 bv:Gn K "Limit" Bx
 gm:Bk K Bx "most"
 io:Bk K Bx "by"
 gx:Gn K "Deal" Eo
 oh:Bk K Eo "wheel"
 bp:Bk K Eo "weights"
 ao:Gn K "Cover" Bw
 bj:Bk K Bw "name"
 d9:Bk K Bw "condition"
 bn:Bk K Bw "clauses"
 bf:Bk K Bw "houses"
 cn:Bk K Bw "deal"
 bg:Bk K Bw "waits"
 gz:Gn K "Book" Fy
 gb:Bk K Fy "covers"
 mj:Bk K Fy "asking"
 aa:Gn K "Reader" As
 cq:Bk K As "row"
 ah:Bk K As "place"
 ai:Bk K As "depth"
 ae:Gn K "Draft" Ci
 b9:Bk K Ci "name"
 ap:Bk K Ci "condition"
 ax:Bk K Ci "clauses"
 aq:Bk K Ci "shares"
 au:Bk K Ci "waits"
 kf:Ka K Ag "rank" "Condition.rank" Ei
 dn:Ka K Ag "words" "Condition.words" Jh
 je:Ka K An "__init__" "CauseIs.__init__" (Cu (top 47) 0)
 fq:Ka K An "words" "CauseIs.words" Kw
 jf:Ka K Ao "__init__" "ThingIs.__init__" (Cu (top 48) 0)
 ft:Ka K Ao "words" "ThingIs.words" Kx
 jq:Ka K Aq "__init__" "DaysIn.__init__" (Cu (top 49) 0)
 gc:Ka K Aq "words" "DaysIn.words" Lq
 kz:Ka K Bd "__init__" "Over.__init__" (Cu (top 50) 0)
 i6:Ka K Bd "words" "Over.words" Oj
 ml:Ka K Bj "__init__" "Not.__init__" (Cu (top 51) 0)
 ip:Ka K Bj "words" "Not.words" Pa
 mn:Ka K Bp "__init__" "All.__init__" (Cu (top 52) 0)
 qo:Ka K Bp "rank" "All.rank" Rh
 iq:Ka K Bp "words" "All.words" Pq
 l0:Ka K Ba "__init__" "Some.__init__" (Cu (top 53) 0)
 qh:Ka K Ba "rank" "Some.rank" Ox
 i7:Ka K Ba "words" "Some.words" Nq
 mq:Ka K De "__init__" "Own.__init__" (Cu (top 37) 0)
 qi:Ka K De "words" "Own.words" Pl
 kg:Ka K Br "__init__" "Layer.__init__" (Cu (top 38) 0)
 ol:Ka K Br "words" "Layer.words" Mt
 kh:Ka K Bx "__init__" "Limit.__init__" (Cu (top 39) 0)
 oo:Ka K Bx "words" "Limit.words" Mr
 lg:Ka K Eo "__init__" "Deal.__init__" Il
 mv:MtD K Bw "__init__" "Cover.__init__" Ff #v[.none,.none,.bool lX]
 li:Ka K Fy "__init__" "Book.__init__" Ky
 jr:Ka K As "__init__" "Reader.__init__" (Cu (top 74) 0)
 mx:Ka K As "ahead" "Reader.ahead" (Cu (top 74) 1)
 oq:Ka K As "step" "Reader.step" (Cu (top 74) 2)
 jg:Ka K As "read_rows" "Reader.read_rows" Iu
 jt:Ka K As "read_row" "Reader.read_row" Jn
 ki:Ka K As "goes_on" "Reader.goes_on" (Cu (top 74) 5)
 cy:Ka K As "read_piece" "Reader.read_piece" Ib
 bz:Ka K As "read_deeper" "Reader.read_deeper" Fq
 bw:Ka K As "read_bracket" "Reader.read_bracket" Gw
 jh:Ka K As "read_name" "Reader.read_name" (Cu (top 74) 9)
 ji:Ka K As "read_days" "Reader.read_days" (Cu (top 74) 10)
 ju:Ka K As "read_day" "Reader.read_day" (Cu (top 74) 11)
 iy:Ka K As "read_amount" "Reader.read_amount" Ht
 kj:Ka K Ci "__init__" "Draft.__init__" (Cu (top 79) 0)
 dw:Ka K Ci "as_cover" "Draft.as_cover" Hu
 my:Ka K An "rank" "Condition.rank" Ei
 mz:Ka K Ao "rank" "Condition.rank" Ei
 ot:Ka K Aq "rank" "Condition.rank" Ei
 qj:Ka K Bd "rank" "Condition.rank" Ei
 qp:Ka K Bj "rank" "Condition.rank" Ei
 rg:BsE K Bl "__init__" "Clause.__init__" Jf
 pi:zAD K (.ref Ag) "__init__"=g (g (.builtin "object.__init__"))
 ou:OQ K "COVERED_ONE" "self"
 qv:OQ K "FIGURES" "0123456789"
 qq:Oo K "LAST_DAY" 1000000
 qw:OQ K "LETTERS" "abcdefghijklmnopqrstuvwxyz"
 n9:Oo K "LONGEST_NAME" 8
 pj:Oo K "MOST_CENTS" 999999999999
 ng:Oo K "MOST_CLAUSES" 8
 cr:Oo K "MOST_COVERS" 8
 jj:Oo K "MOST_DAY_FIGURES" 7
 oy:Oo K "MOST_IN_ROW" 8
 ir:Oo K "MOST_OPEN" 6
 gq:Oo K "MOST_PLACES" 8
 i9:Oo K "MOST_TURNS" 100
 iu:Oo K "MOST_WEIGHT_FIGURES" 3
 j1:Oo K "MOST_WHOLE_FIGURES" 10
 ia:Oo K "MOST_WORDS" 60
 cx:Oo K "RANK_OF_ALL" 2
 km:Oo K "RANK_OF_OTHERS" 3
 ge:Oo K "RANK_OF_SOME" 1
 pk:zAx K zCB "ValueError"=g M
 pq:zAx K zCB "bool"=g M
 bt:zAx K zCB "enumerate"=g M
 dk:zAx K zCB "int"=g M
 ad:zAx K zCB "isinstance"=g M
 ag:zAx K zCB "len"=g M
 az:zAx K zCB "list"=g M
 rq:zAx K zCB "min"=g M
 ay:zAx K zCB "range"=g M
 sd:zAx K zCB "set"=g M
 ar:zAx K zCB "str"=g M
 gr:zAx K zCB "sum"=g M
 qr:zAx K zCB "zip"=g M
 de:zAx K zCB "CoverError"=g (g (.ref Cp))
 fw:zAx K zCB "NoAmount"=g (g (.ref Me))
 j3:zAx K zCB "NoShares"=g (g (.ref Go))
 jk:zAx K zCB "NoWords"=g (g (.ref Cd))
 jm:zAx K zCB "TooDeep"=g (g (.ref Cz))
 cg:zAx K zCB "NoClause"=g (g (.ref Gp))
 dh:zAx K zCB "NoCover"=g (g (.ref Kl))
 rh:zAx K zCB "NoBook"=g (g (.ref V9))
 ib:zAx K zCB "NoText"=g (g (.ref Db))
 b8:zAx K zCB "NoRow"=g (g (.ref Tv))
 qx:EmE K Cd "NoWords.__init__" Im
 qy:XSet K Cd "at"
 j4:zAY K (.ref Cd) (.ref Cp)=g B
 jn:zBD K Cz #[.type "ValueError",.type "Exception",.type "BaseException",.type "object"] "ValueError.__new__"=B
 j5:zAY K (.ref Cz) (.ref Cp)=g B
 j6:zBD K Me #[.type "ValueError",.type "Exception",.type "BaseException",.type "object"] "ValueError.__new__"=B
 av:zAY K (.ref Me) (.ref Cp)=g B
 bb:zBD K Tv #[.type "ValueError",.type "Exception",.type "BaseException",.type "object"] "ValueError.__new__"=B
 aj:zAY K (.ref Tv) (.ref Cp)=g B
 g7:zBD K Gp #[.type "ValueError",.type "Exception",.type "BaseException",.type "object"] "ValueError.__new__"=B
 aw:zAY K (.ref Gp) (.ref Cp)=g B
 gf:zBD K Kl #[.type "ValueError",.type "Exception",.type "BaseException",.type "object"] "ValueError.__new__"=B
 j7:zAY K (.ref Kl) (.ref Cp)=g B
 qt:zBD K Go #[.type "ValueError",.type "Exception",.type "BaseException",.type "object"] "ValueError.__new__"=B
 iw:zAY K (.ref Go) (.ref Cp)=g B
 kn:EmE K Db "NoText.__init__" Gy
 ck:XSet K Db "at"
 rj:PU K Db
 rm:zAL K (.ref Db) (.type "ValueError")=g B
 lj:zAL K (.ref Db) (.ref V9)=g lX
 jv:zAL K (.ref Db) (.ref Gp)=g lX
 ko:zAL K (.ref Db) (.ref Kl)=g lX
 nj:zAL K (.ref Db) (.ref Tv)=g lX
 jw:zAL K (.ref Db) (.ref Go)=g lX
 kq:zAL K (.ref Db) (.ref Cd)=g lX
 lq:zAL K (.ref Db) (.ref Db)=g B
 jb:zAY K (.ref Db) (.ref Cp)=g B
 pr:NT4 K "WAYS" "event" "thing" "year" "loss"
structure Pm(P:mF)(w:mR)(K:zAa)(mg:J->Option lV)(base:mX):Prop extends Pk K where
 z:Zy P w K mg base
abbrev Jc{P:mF}{w:mR}{K:zAa}{H:J->Option lV}{C:mX}(_:Pm P w K H C):=Y4 P w K H C
abbrev Jm{P:mF}{w:mR}{K:zAa}{H:J->Option lV}{C:mX}(_:Pm P w K H C):=FF P w K H C
abbrev Jk{P:mF}{w:mR}{K:zAa}{H:J->Option lV}{C:mX}(_:Pm P w K H C):=HB P w K H C
def eZ:(#[Ag,An,Ao,Aq,Bd,Bj,Bp,Ba,Bl,De,Br,Bx,Eo,Bw,Fy,As,Ci]:List T).Nodup:=by lk
def b6{K:zAa}(z:T)(kV S L:lV)(H:Option T)(cd F:lV)(U:Nat)(C:K.lookup z=g [.type "tuple",M,.seq #v[.none,.none,.bool lX] U,#v[]]):Dc K (zAM "__init__" "Cover.__init__" (Fa Ff) (Dn Ff) (Av Ff) (.ref z) kV S L H cd F) #["self","name","condition","clauses","houses","waits"] []:=λs P X N=>by
 rw[zAA]at N⊢
 match P,N with|#[_,_,_,_,_,_],_=>exact BindsTo.of_defaults I (X _ _ C) I I I
def Rg{P:mF}{w:mR}{K:zAa}{H:J->Option lV}(C:Pm P w K H b):fX K H "Condition" Ag:=fK C.z C.bq C.pi
def dT{c A B:Prop}[Decidable c](h:c)(q:A):if decide c=lY then A else B:=by rw[mV h,mS I];exact q
def dF{c A B:Prop}[Decidable c](h:¬c)(q:B):if decide c=lY then A else B:=by rw[mQ h,mK zAn];exact q
def nT{c A B:Prop}[Decidable c](h:¬c)(q:A):if (!decide c)=lY then A else B:=by rw[mQ h];exact q
def nF{c A B:Prop}[Decidable c](h:c)(q:B):if (!decide c)=lY then A else B:=by rw[mV h];exact q
def bT{c:Bool}{A B:Prop}(h:c=lY)(q:A):if c=lY then A else B:=by rw[mS h];exact q
def bF{c:Bool}{A B:Prop}(h:c=lX)(q:B):if c=lY then A else B:=by rw[mK (by rw[h];exact zAn)];exact q
def IB:V->Bool
 |.int _=>B
 |_=>lX
def FP{K:zAa}{H:Hp}{x:V}{T:String}(h:Cy K H x (.type T)):∃F z,zAL K (.type T) (.type "int")=g F/\zAL K (.type T) (.type "bool")=g z/\IB x=(F && !z):=by
 cases h with
 |non=>exact[lX,lX,by kernel_rfl,by kernel_rfl,I]
 |bl b=>exact[B,B,by kernel_rfl,by kernel_rfl,I]
 |int i=>exact[B,lX,by kernel_rfl,by kernel_rfl,I]
 |str i=>exact[lX,lX,by kernel_rfl,by kernel_rfl,I]
 |flt i=>exact[lX,lX,by kernel_rfl,by kernel_rfl,I]
 |lst e=>exact[lX,lX,by kernel_rfl,by kernel_rfl,I]
 |frz e=>exact[lX,lX,by kernel_rfl,by kernel_rfl,I]
 |tup e=>exact[lX,lX,by kernel_rfl,by kernel_rfl,I]
 |dK e=>exact[lX,lX,by kernel_rfl,by kernel_rfl,I]
 |dT e=>exact[lX,lX,by kernel_rfl,by kernel_rfl,I]
def K0{K:zAa}:zAL K (.type "list") (.type "list")=g B:=by kernel_rfl
def WB{K:zAa}:zAL K (.type "int") (.type "int")=g B:=by kernel_rfl
def UI{K:zAa}:zAL K (.type "int") (.type "bool")=g lX:=by kernel_rfl
inductive S9(K:zAa)(vs:List V)(H:Hp)(Q:VK):Prop
 |mk (x:_) (T:_) (z0:vs=#[x]) (z1:Cy K H x (.type T)) (z2:Q (.bl (IB x)) H):S9 K vs H Q
def OR(K:zAa):Sp:=λC H Q x=>S9 K C H Q
section
variable {P:mF} {w:mR} {K:zAa} {mg:J->Option lV} {base:mX}
def Qm(C:Pm P w K mg base):Jc C 1 "is_whole" #["thing"] (OR K):=Os C.z C.qk #["thing"] df λX H Q U h=>by
 let[x,W,rfl,z,q]:=h;refine[_,(Ac (Ay (Yh (Ix Ec C.z C.ad (Dy (pv 0) (La "int" rfl (C.z.nn C.dk) I))) (Ye (XA (Ix Ec C.z C.ad (Dy (pv 0) (La "bool" rfl (C.z.nn C.pq) I)))))))),?_];let[F,L,R,N,e]:=FP z;rw[e]at q;refine[_,I,_,_,_,_,_,I,Ie,z,R,_,I,?_];cases F with
 |false=>exact q
 |true=>exact[_,I,_,_,_,_,_,I,Ie,z,N,_,I,q]
end
def fS(m:Int):V->Bool
 |.int i=>decide (0<=i/\i<=m)
 |_=>lX
inductive HI(K:zAa)(m:Int)(vs:List V)(H:Hp)(Q:VK):Prop
 |mk (x:_) (T:_) (z0:vs=#[x]) (z1:Cy K H x (.type T)) (z2:Q (.bl (fS m x)) H):HI K m vs H Q
def cQ(K:zAa)(m:Int):Sp:=λC H Q x=>HI K m C H Q
section
variable {P:mF} {w:mR} {K:zAa} {mg:J->Option lV} {base:mX}
def BH(C:Pm P w K mg base):Jc C 2 "is_amount" #["thing"] (cQ K 999999999999):=Os C.z C.pw #["thing"] df λU H Q N h=>by
 let[x,R,rfl,L,q]:=h;refine[_,(Ac (Ay (Yh (Gg (Qm C) N (Cf (pv 0))) (Ye (Wy Tg Tg Ah (pv 0) (Vr C.z C.pj)))))),?_];refine[_,I,_,_,I,L,_,I,?_];cases x with
 |int i=>
  refine Fc [_,I,_,_,I,I,_,I,?_];by_cases z:(0:Int)<=i
  .refine dT z [_,_,I,I,?_]
   show Q (.bl (decide (i<=999999999999))) H;let e:decide (0<=i/\i<=999999999999)=decide (i<=999999999999):=by
    by_cases F:i<=999999999999
    .rw[mV F,mV [z,F]]
    .rw[mQ F,mQ (λy=>F y.2)]
   rw[<- e];exact q
  .refine dF z ?_
   rw[show fS 999999999999 (.int i)=lX from mQ (λy=>z y.1)]at q;exact q
 |_=>exact Gr q
end
def Kh(c:Nat):Prop:=97<=c/\c<=122
instance:DecidablePred Kh:=λc=>by unfold Kh;exact inferInstance
def Oz(l:List Nat):Prop:=∀c∈l,Kh c
instance(l:List Nat):Decidable (Oz l):=by unfold Oz;exact inferInstance
def Si(l:List Nat):Prop:=(1<=l.length/\l.length<=8)/\Oz l
instance(l:List Nat):Decidable (Si l):=by unfold Si;exact inferInstance
def kZ{c:Nat}:(c∈(O "abcdefghijklmnopqrstuvwxyz").cps.toList)↔Kh c:=by
 let e:(O "abcdefghijklmnopqrstuvwxyz").cps.toList=(zAU 26).map (97 + ·):=by ac_nf
 rw[e,zAv];unfold Kh;constructor
 .rintro ⟨k,z,rfl⟩
  let:=zBs.mp z
  lia
 .intro h
  exact[c-97,zBs.mpr Z,Z]
def C9:V->Bool
 |.str _=>B
 |_=>lX
def nameV:V->Bool
 |.str z=>decide (Si z.cps.toList)
 |_=>lX
def okX(x:V):Prop:=∀z,x=.str z->z.length<=900
def DA{K:zAa}{H:Hp}{x:V}{T:String}(h:Cy K H x (.type T)):zAL K (.type T) (.type "str")=g (C9 x):=by
 cases h with
 |non=>kernel_rfl
 |bl b=>kernel_rfl
 |int i=>kernel_rfl
 |str i=>kernel_rfl
 |flt i=>kernel_rfl
 |lst e=>kernel_rfl
 |frz e=>kernel_rfl
 |tup e=>kernel_rfl
 |dK e=>kernel_rfl
 |dT e=>kernel_rfl
inductive NM  (vs:List V)(H:Hp)(Q:VK):Prop
 |mk (l:_) (z0:vs=#[.str (tx l)]) (z1:Q (.bl (decide (Oz l))) H):NM  vs H Q
def bE:Sp:=λC H Q x=>NM  C H Q
inductive CK(K:zAa)(vs:List V)(H:Hp)(Q:VK):Prop
 |mk (x:_) (T:_) (z0:vs=#[x]) (z1:Cy K H x (.type T)) (z2:okX x) (z3:Q (.bl (nameV x)) H):CK K vs H Q
def WS(K:zAa):Sp:=λC H Q x=>CK K C H Q
def WU{l:List Nat}(h:l.length<=900):okX (.str (tx l)):=λz e=>by cases e;rw[Dg];exact h
section
seal L2.PS L2.PSs L2.PE
variable {P:mF} {w:mR} {K:zAa} {mg:J->Option lV} {base:mX} (b:Pm P w K mg base)
def Se:Jc b 1 "has_letters_alone" #["text"] bE:=Os b.z b.j9 #["text","sign"] df λX H Q A h=>by
 let[l,rfl,q]:=h;refine[_,(Ab (Gc nK I (HU (pv 0)) (Ot X 1)
    (Ac (Ce (Ax Zb (pv 1) (E4 (b.z.gs b.qw) I) I)
    (Ac (Ay Hw))
    Be)))
   (Ac (Ay Hw))),?_]
 refine[_,I,_,I,(DI (l:=l) (λi U S=>((∃o,U=#[g (.str (tx l)),o])/\S=H)/\∀j c,j<i->l[j]?=g c->Kh c) [[[M,I],I],λx x z=>mC z (zBL _)] ?_ ?_)]
 .rintro i c U S W ⟨⟨⟨o,rfl⟩,rfl⟩,N⟩
  refine[_,I,c,_,I,I,_,I,?_];by_cases F:Kh c
  .refine nF (kZ.mpr F) [[[_,I],I],λj d C L=>?_]
   by_cases e:j=i
   .subst e
    rw[W]at L;cases L;exact F
   .exact N j d Z L
  .refine nT (λz=>F (kZ.mp z)) ?_
   let n:¬Oz l:=λz=>F (z c (zAz W));rw[mQ n]at q;exact q
 .rintro U S ⟨⟨⟨o,rfl⟩,rfl⟩,N⟩
  let R:Oz l:=λc F=>by
   let[j,C,e]:=zBu F;exact N j c C (by rw[zAi C,e])
  rw[mV R]at q;exact q
def Yd:Jc b 2 "is_name" #["thing"] (WS K):=Os b.z b.qu #["thing"] df λA H Q W h=>by
 let[x,X,rfl,F,R,q]:=h;refine[_,(Ab (Ce (Et (Eb (Ix Ec b.z b.ad (Dy (pv 0) (La "str" rfl (b.z.nn b.ar) I)))))
    (Ac (Ay Hw))
    Be)
   (Ac (Ay (Yh (Wy Tg Tg Ah (Ix Ji b.z b.ag (Cf (pv 0))) (Vr b.z b.n9)) (Ye (Gg (Se b) W (Cf (pv 0)))))))),?_]
 refine[_,I,_,_,_,_,_,I,Ie,F,DA F,_,I,?_];cases x with
 |str z=>
  let C:=R z I;let S:tx z.cps.toList=z:=Hq z;refine Gr [_,I,_,I,Ck Z,?_];let U:(z.length:Int)=(z.cps.toList.length:Int):=by rw[<- Dg,S]
  refine[_,_,I,I,_,I,?_];by_cases L:1<=(z.length:Int)
  .refine dT L [_,_,I,I,_,I,?_]
   by_cases N:(z.length:Int)<=8
   .refine dT N [_,I,z.cps.toList,by rw[S];rfl,?_]
    let e:decide (Si z.cps.toList)=decide (Oz z.cps.toList):=by
     by_cases a:Oz z.cps.toList
     .rw[mV a,mV (show Si _ from [[Z,Z],a])]
     .rw[mQ a,mQ (λy=>a y.2)]
    rw[<- e];exact q
   .refine dF N ?_
    rw[show nameV (.str z)=lX from mQ (λy=>N (by let:=y.1.2;lia))]at q;exact q
  .refine dF L [_,I,Gr ?_]
   rw[show nameV (.str z)=lX from mQ (λy=>L (by let:=y.1.1;lia))]at q;exact q
 |_=>exact Fc q
end
def Je{t u}{D}{σ}{H}(h:∀N:St->Hp->Prop,N=u D->t { D with nx:=N } σ H):QN t u D σ H:=h _ rfl
def W9{i:Nat}{v}{N:St->Hp->Prop}{σ}{H}{t u}{D}(F:N=QN t u D)(z:St)(e:σ.set i (g v)=z)(h:∀N:St->Hp->Prop,N=u D->t { D with nx:=N } z H):Hy i v σ H N:=by
 subst F e;exact h _ I
def Fn{N:St->Hp->Prop}{σ}{H}{t u}{D}(z:N=QN t u D)(h:∀N:St->Hp->Prop,N=u D->t { D with nx:=N } σ H):N σ H:=by
 subst z;exact h _ I
def El(n:Nat):List Nat:=Di (n/100)++#[46,48+n/10%10,48+n%10]
def Ql{d:Nat}(h:d<10):((toString (d:Int):String):J)=tx #[48+d]:=by rw[Jo,Gm h]
def VE{r:Nat}(h:r<100):wC (tx (Di r)) 2=tx #[48+r/10,48+r%10]:=by
 by_cases z:r<10
 .rw[Gm z]
  let:r=0\/r=1\/r=2\/r=3\/r=4\/r=5\/r=6\/r=7\/r=8\/r=9:=by omega
  rcases this with rfl|rfl|rfl|rfl|rfl|rfl|rfl|rfl|rfl|rfl<;>rfl
 .have e:Di r=#[48+r/10,48+r%10]:=by
   rw[Qc zY,Gm zY,Gm (zBK r Y)];rfl
  rw[e];unfold wC;rw[mS];rw[Dg];exact Int.le_refl 2
def Lm(n:Nat):(El n).length=(Di (n/100)).length+3:=by unfold El;rw[zAc];rfl
def AX(n:Nat):46∉Di n:=λh=>by let:=Lr n 46 h;omega
def GE(n:Nat):Fj 46 (El n)=#[Di (n/100),#[48+n/10%10,48+n%10]]:=by
 unfold El;rw[Qh _ (AX _),Nj];intro h;let C:46=48+n/10%10\/46=48+n%10:=by simpa using h
 omega
def ON(a b:Nat)(z:a<10)(F:b<10):nA #[48+a,48+b]=10*a+b:=by
 show(0*10+(48+a-48))*10+(48+b-48)=10*a+b;omega
def YG(n:Nat):((toString ((n:Int)/100):String):J)++(O ".")++((toString ((n:Int)/10%10):String):J)++((toString ((n:Int)%10):String):J)=tx (El n):=by
 let z:(n:Int)/100=((n/100:Nat):Int):=by omega
 let C:(n:Int)/10%10=((n/10%10:Nat):Int):=by omega
 let F:(n:Int)%10=((n%10:Nat):Int):=by omega
 let L:(O ".")=tx #[46]:=by ac_nf
 rw[z,C,F,L,Jo,Ql (zBK _ Y),Ql (zBK _ Y),En,En,En];unfold El;simp
def kY{c:Nat}:(c∈(O "0123456789").cps.toList)↔(48<=c/\c<=57):=by
 let e:(O "0123456789").cps.toList=#[48,49,50,51,52,53,54,55,56,57]:=by ac_nf
 rw[e];simp;omega
def G3{l:List Nat}(h:nR l)(C:l≠[])(z:l.length<=640):intText? (tx l)=g ((nA l:Nat):Int):=intText_digits (x:=tx l) h C (by rw[Dg];omega)
instance(l:List Nat):Decidable (nR l):=by unfold nR;exact inferInstance
def Io(k:Nat)(l:List Nat):Prop:=1<=l.length/\l.length<=k/\(l.head?=g 48->l.length=1)/\nR l
instance(k:Nat)(l:List Nat):Decidable (Io k l):=by unfold Io;exact inferInstance
def Rt(l:List Nat):Prop:=l.length=2/\nR l
instance(l:List Nat):Decidable (Rt l):=by unfold Rt;exact inferInstance
def Rx:List (List Nat)->Option Nat
 |#[a,b]=>if Rt b/\Io 10 a then g (nA a*100+nA b) else M
 |_=>M
def Lp(l:List Nat):Option Nat:=Rx (Fj 46 l)
inductive EZ  (vs:List V)(H:Hp)(Q:VK):Prop
 |mk (l:_) (z0:vs=#[.str (tx l)]) (z1:Q (.bl (decide (nR l))) H):EZ  vs H Q
def XN:Sp:=λC H Q x=>EZ  C H Q
inductive Xc  (vs:List V)(H:Hp)(Q:VK):Prop
 |mk (l:_) (k:Nat) (z0:vs=#[.str (tx l),.int k]) (z1:l.length<=1000) (z2:Q (.bl (decide (Io k l))) H):Xc  vs H Q
def GI:Sp:=λC H Q x=>Xc  C H Q
inductive Zc  (vs:List V)(H:Hp)(Q:VK):Prop
 |mk (l:_) (z0:vs=#[.str (tx l)]) (z1:l.length<=1000) (z2:Q (.bl (decide (Rt l))) H):Zc  vs H Q
def LY:Sp:=λC H Q x=>Zc  C H Q
def MO(Q:VK)(E:XK)(C:T)(H:Hp):Option Nat->Prop
 |some n=>Q (.int n) H
 |none=>E (.ref C) M H
inductive FZ(K:zAa)(Cn:T)(vs:List V)(H:Hp)(Q:VK)(E:XK):Prop
 |mk (l:_) (z0:vs=#[.str (tx l)]) (z1:l.length<=900) (z2:∀H',Ae H H'->MO Q E Cn H' (Lp l))
inductive GF(K:zAa)(Cn:lU)(vs:List V)(H:Hp)(E:XK):Prop
 |mk (x:_) (T:_) (z0:vs=#[x]) (z1:Cy K H x (.type T)) (z2:zAL K (.type T) (.type "str")=g lX) (z3:E (.ref Cn) M H)
def QK(K:zAa)(L:T):Sp:=λC H Q E=>FZ K L C H Q E\/GF K L C H E
theorem EB(c:Nat):∀(l:List Nat),∀p∈Fj c l,p.length<=l.length
 |[],p,h=>by
  let e:p=[]:=by simpa[Fj]using h
  rw[e];exact zAm _
 |x::l,p,h=>by
  let C:=EB c l;unfold Fj at h;by_cases e:x=c
  .rw[mS e]at h
   rcases zAg.mp h with z|z
   .rw[z];exact zAy _
   .exact uF (C p z)
  .rw[mK e]at h
   cases q:Fj c l with
   |nil=>exact mC q (U7 c l)
   |cons a r=>
    rw[q]at h C;rcases zAg.mp h with z|z
    .rw[z,zAd,zAd]
     exact uR (C a (zAl ..))
    .exact uF (C p (zAh _ z))
theorem Q9(c:Nat):∀(l:List Nat),(Fj c l).length<=l.length+1
 |[]=>by simp[Fj]
 |x::l=>by
  let C:=Q9 c l;unfold Fj;by_cases e:x=c
  .rw[mS e]
   exact uR C
  .rw[mK e]
   cases q:Fj c l with
   |nil=>exact mC q (U7 c l)
   |cons a r=>
    rw[q]at C;exact uF C
section
variable {P:mF} {w:mR} {K:zAa} {mg:J->Option lV} {base:mX} (f:Pm P w K mg base)
def Lx:Jc f 1 "has_figures_alone" #["text"] XN:=Os f.z f.j8 #["text","sign"] df λX H Q A h=>by
 let[l,rfl,q]:=h;refine[_,(Ab (Gc nK I (HU (pv 0)) (Ot X 1)
    (Ac (Ce (Ax Zb (pv 1) (E4 (f.z.gs f.qv) I) I)
    (Ac (Ay Hw))
    Be)))
   (Ac (Ay Hw))),?_]
 refine[_,I,_,I,DI (l:=l) (λi U S=>((∃o,U=#[g (.str (tx l)),o])/\S=H)/\∀j c,j<i->l[j]?=g c->48<=c/\c<=57) [[[M,I],I],λx x z=>mC z (zBL _)] ?_ ?_]
 .rintro i c U S W ⟨⟨⟨o,rfl⟩,rfl⟩,N⟩
  refine[_,I,c,_,I,I,_,I,?_];by_cases F:48<=c/\c<=57
  .refine nF (kY.mpr F) [[[_,I],I],λj d C L=>?_]
   by_cases e:j=i
   .subst e
    rw[W]at L;cases L;exact F
   .exact N j d zY L
  .refine nT (λz=>F (kY.mp z)) ?_
   let n:¬nR l:=λz=>F (z c (zAz W));rw[mQ n]at q;exact q
 .rintro U S ⟨⟨⟨o,rfl⟩,rfl⟩,N⟩
  let R:nR l:=λc F=>by
   let[j,C,e]:=zBu F;exact N j c C (by rw[zAi C,e])
  rw[mV R]at q;exact q
def Mp:Jc f 2 "writes_whole" #["text","most_figures"] GI:=Os f.z f.lu #["text","most_figures"] df λb H Q A h=>by
 let[l,L,rfl,E,q]:=h;refine[_,(Ab (Ce (PW.pt (Jg (Ax Mm (Ix Ji f.z f.ag (Cf (pv 0))) Ah (Bf _)) (Gv (Ax Tq (Ix Ji f.z f.ag (Cf (pv 0))) (pv 1) (Bf _)))))
    (Ac (Ay Hw))
    Be)
   (Ab (Ce (PW.pt (Sa (Ax Dv (Cr AE (pv 0) Ah (λx x=>I)) Aj (Bf _)) (Py (Ax Tq (Ix Ji f.z f.ag (Cf (pv 0))) Ah (Bf _)))))
    (Ac (Ay Hw))
    Be)
   (Ac (Ay (Gg (Lx f) A (Cf (pv 0))))))),?_]
 let C:(tx l).length=l.length:=Dg _;let N:(tx l).length<=sizeLine:=by rw[C];exact Ck E
 let U:∀{k:Prop} [Decidable k],¬Io L l->Q (.bl lX) H:=λz=>by rw[mQ z]at q;exact q
 refine[_,I,_,I,N,_,_,I,I,_,I,?_];by_cases F:l.length<1
 .exact dT (by rw[C];omega) (Fc (U (k:=True) λz=>by let:=z.1;omega))
 refine dF (by rw[C];omega) ?_;refine[_,I,_,I,N,_,I,_,_,I,I,_,I,?_];by_cases o:L<l.length
 .exact dT (by rw[C];omega) (U (k:=True) λz=>by let:=z.2.1;omega)
 refine dF (by rw[C];omega) ?_;cases l with
 |nil=>simp at F
 |cons a r=>
  let S:Ob (tx (a::r)).cps.toList 0=g a:=Gk (j:=0) I;let W:O "0"=tx #[48]:=by ac_nf
  refine[_,I,_,_,a,I,I,N,S,I,_,I,?_];refine HD (λc=>?_) (λc=>?_)
  .have R:a=48:=by
    let X:V.str (tx #[a])=V.str (O "0"):=mU c;rw[W]at X;let:=WT (V.str.inj X)
    simpa using this
   refine[_,I,_,I,N,_,_,I,I,_,I,?_];by_cases d:1<(a::r).length
   .exact dT (by rw[C];omega) (U (k:=True) λz=>by let:=z.2.2.1 (by rw[R];rfl);omega)
   .refine dF (by rw[C];omega) [_,I,a::r,I,?_]
    let e:Io L (a::r)↔nR (a::r):=[λz=>z.2.2.2,λz=>[zY,zY,λx=>zY,z]];simp only[e]at q;exact q
  .have R:a≠48:=λz=>c (by rw[z,W];exact mV I)
   refine Gr [_,I,a::r,I,?_];let e:Io L (a::r)↔nR (a::r):=[λz=>z.2.2.2,λz=>[zY,zY,λy=>mC (mI y) R,z]];simp only[e]at q;exact q
def Yi:Jc f 2 "is_cents_part" #["text"] LY:=Os f.z f.kr #["text"] df λU H Q N h=>by
 let[l,rfl,R,q]:=h;refine[_,(Ac (Ay (Yh (Nr Dv (Ix Ji f.z f.ag (Cf (pv 0))) Ah (Bf _)) (Ye (Gg (Lx f) N (Cf (pv 0))))))),?_];let C:(tx l).length=l.length:=Dg _;refine[_,I,_,I,by rw[C];exact Ck R,I,_,I,?_];by_cases F:l.length=2
 .refine dT (by rw[C,F];rfl) [_,I,l,I,?_]
  let e:Rt l↔nR l:=[λz=>z.2,λz=>[F,z]];simp only[e]at q;exact q
 .have L:¬V.int ((tx l).length:Nat)=V.int 2:=λz=>F (by rw[<- C];let:=V.int.inj z;omega)
  refine dF L ?_;rw[mQ (λz=>F z.1)]at q;let e:decide (V.int ((tx l).length:Nat)=V.int 2)=lX:=mQ L
  first
   |exact q
   |(rw[e];exact q)
def Ku(f:Pm P w K mg base):Qr P w K mg base 3 "read_cents" #["text"] (QK K Me):=TX f.z f.p3 #["text","pieces"] (dg λvs H Q E h=>by
  rcases h with ⟨_,rfl,_⟩ | ⟨_,_,rfl,_⟩<;>rfl) λr H Q E k h=>by
 refine[_,(Ab (Ce (Et (Eb (Ix Ec f.z f.ad (Dy (pv 0) (La "str" rfl (f.z.nn f.ar) I)))))
    (Ac (Eh Bt I (Zf f.z f.fw f.j6) I (Cf Aj)))
    Be)
   (Ab (Fk r 1 (Fg mY pZ pY Tn (pv 0) (Cf Aj)))
   (Ab (Ce (PW.pt (Jg (Ax Sl (Ix Bg f.z f.ag (Cf (pv 1))) Ah (Bf _)) (Jg (Et (Eb (Gg (Yi f) k (Cf (Cr By (pv 1) Ah (λ_ _=>I)))))) (Gv (Et (Eb (Gg (Mp f) k (Dy (Cr By (pv 1) Ah (λ_ _=>I)) (Vr f.z f.j1)))))))))
    (Ac (Eh Bt I (Zf f.z f.fw f.j6) I (Cf Aj)))
    Be)
   (Ac (Ay (Au Ea (Au Jq (Dq Kn I (f.z.nn f.dk) (show zCz _=g (.type "int") from rfl) (Cf (Cr By (pv 1) Ah (λ_ _=>I)))) Ah) (Dq Kn I (f.z.nn f.dk) (show zCz _=g (.type "int") from rfl) (Cf (Cr By (pv 1) Ah (λ_ _=>I)))))))))),?_]
 rcases h with ⟨l,rfl,hn,q⟩|⟨x,ty,rfl,d,hk,q⟩
 rotate_left
 .exact[_,I,_,_,_,_,_,I,Ie,d,hk,_,I,Fc [Ck (by show 1<=1000;decide),q]]
 let n:(tx l).length=l.length:=Dg _;refine[_,I,_,_,_,_,_,I,Ie,.str _,(by kernel_rfl:zAL K (.type "str") (.type "str")=g B),_,I,Gr ?_];refine[_,I,I,_,_,I,I,I,?_,λp y=>?_]
 .rw[n,zCy]
  omega
 let u:(O ".")=tx #[46]:=by ac_nf
 let v:rA (tx l) (O ".")=(Fj 46 l).map tx:=by rw[u,Zn]
 rw[v];let C:=EB 46 l;let S:=Q9 46 l;generalize F:Fj 46 l=L at C S;let m:∀c,Ae H c->MO Q E Me c (Rx L):=λc s=>by
  let z:=q c s;unfold Lp at z;rw[F]at z;exact z
 let o:=Ad y (.lst (oA V.str (L.map tx)));let A:upd H p (.lst (oA V.str (L.map tx))) p=g (.lst (oA V.str (L.map tx))):=Aa;generalize upd H p (.lst (oA V.str (L.map tx)))=j at o A;let U:=m j o;let X:(1:Nat)<=sizeLine:=Ck Y;refine[_,I,p,_,I,.inl (Al.of A),I,_,I,?_];by_cases W:L.length=2
 rotate_left
 .have e:Rx L=M:=by
   unfold Rx
   split
   .simp at W
   .rfl
  rw[e]at U;exact nT (by rw[zAb,zAb];intro z;exact W (by let z':=V.int.inj z;omega)) (Fc [X,U])
 obtain⟨a,b,rfl⟩:∃a b,L=#[a,b]:=by
  match L,W with
  |#[a,b],_=>exact[a,b,I]
 let la:=C a zZ;let lb:=C b zZ;refine nF I ?_;refine[_,I,p,_,_,_,I,I,Al.of A,I,b,I,zY,_,I,?_];by_cases N:Rt b
 rotate_left
 .have e:Rx #[a,b]=M:=mK λz=>N z.1
  rw[e]at U;rw[mQ N];exact Fc (Fc [X,U])
 rw[mV N];refine Gr [_,I,p,_,_,_,I,I,Al.of A,I,a,10,I,zY,_,I,?_];by_cases R:Io 10 a
 rotate_left
 .have e:Rx #[a,b]=M:=mK λz=>R z.2
  rw[e]at U;rw[mQ R];exact Fc [X,U]
 rw[mV R];let e:Rx #[a,b]=g (nA a*100+nA b):=mS [N,R];rw[e]at U;let na:a≠[]:=λz=>by let:=R.1;rw[z]at this;simp at this
 let i:b≠[]:=λz=>by let:=N.1;rw[z]at this;simp at this
 refine Gr [_,I,p,_,_,_,I,I,Al.of A,I,_,_,I,G3 R.2.2.2 na (by let:=R.2.1;omega),by rw[Dg];let:=R.2.1;omega,?_];refine[_,_,I,I,.inr [Y,Y],?_];refine[_,I,p,_,_,_,I,I,Al.of A,I,_,_,I,G3 N.2 i (by let:=N.1;omega),by rw[Dg];let:=N.1;omega,?_];refine[_,_,I,I,?_];let t:((nA a:Nat):Int)*100+((nA b:Nat):Int)=((nA a*100+nA b:Nat):Int):=by omega
 show Q (.int (((nA a:Nat):Int)*100+((nA b:Nat):Int))) j;rw[t];exact U
end
inductive DV  (vs:List V)(H:Hp)(Q:VK):Prop
 |mk (n:Nat) (z0:vs=#[.int n]) (z1:n<10^60) (z2:Q (.str (tx (El n))) H):DV  vs H Q
def JL:Sp:=λC H Q x=>DV  C H Q
section
variable {P:mF} {w:mR} {K:zAa} {mg:J->Option lV} {base:mX}
def Kq(R:Pm P w K mg base):Jc R 1 "show_cents" #["cents"] JL:=Os R.z R.p4 #["cents","whole","rest"] df λX H Q c h=>by
 let[n,rfl,d,q]:=h;refine[_,(Ab (Fk X 1 (Au Dt (pv 0) Ah))
   (Ab (Fk X 2 (Fg mY PySem.F.slot_str_zfill PySem.F.type_str_zfill IQ (Dq Ep I (R.z.nn R.ar) (show zCz _=g (.type "str") from rfl) (Cf (Au Dk (pv 0) Ah))) (Cf Ah)))
   (Ac (Ay (FH (F5 (JG (pv 1)) (F5 Aj (F5 (JG (pv 2)) XO)))))))),?_]
 let S:(n:Int)/100=((n/100:Nat):Int):=by omega
 let W:(n:Int)%100=((n%100:Nat):Int):=by omega
 refine[_,I,_,_,I,I,[Y,Y],?_];refine[_,I,_,_,I,I,(by show(0:Int)<100;decide),_,I,Ge zY zY,I,_,_,I,I,I,?_];let f:(Di (n/100)).length<=60:=Es Y zY;let C:wC ((toString ((n:Int)%100):String):J) 2=tx #[48+n%100/10,48+n%100%10]:=by rw[W,Jo,VE (zBK _ Y)]
 rw[C];let L:(O ".")=tx #[46]:=by ac_nf
 let F:((toString ((n:Int)/100):String):J)=tx (Di (n/100)):=by rw[S,Jo]
 let E:qB=tx []:=rfl;let z:qB++tx (Di (n/100))=tx (Di (n/100)):=En [] _;let b:=zCy;let U:#[48+n%100/10,48+n%100%10]=#[48+n/10%10,48+n%10]:=by
  let N:n%100/10=n/10%10:=by omega
  let A:n%100%10=n%10:=by omega
  rw[N,A]
 rw[U];refine[_,I,.inl [_,I,Ge zY zY,_,I,?_,_,I,?_,_,I,.inr [_,I,?_,_,I,?_,?_,?_]]]
 .rw[F,z,Dg];omega
 .rw[F,L,z,En,Dg,zAc];show _+1<=_;omega
 .rw[Dg];show 2<=_;omega
 .rw[F,L,z,En,En,Dg,zAc,zAc];show _+1+2<=_;omega
 .rw[F,L,z,En,En,Dg,zAc,zAc];show _+1+2<=_;omega
 .rw[F,L,z,En,En,zAw]
  exact q
end
def N6(n:J):Prop:=∃l,n=tx l/\Si l
def Ej:Co->Prop
 |.alw=>True
 |.cau n=>N6 n
 |.thi n=>N6 n
 |.day a b=>0<=a/\a<=b/\b<=1000000
 |.ovr m=>0<=m/\m<=999999999999
def Ic{i:Nat}{v:V}{nx:St->Hp->Prop}{σ:St}{H:Hp}(z:St)(e:σ.set i (g v)=z)(h:nx z H):Hy i v σ H nx:=by
 unfold Hy;rw[e];exact h
def at0{C:Type}(x:C)(xs:List C):Ob (x::xs) 0=g x:=Gk (j:=0) I
def T7{H H':Hp}{p:T}{o:HO}(h:H p=M)(s:Ae H H'):Ae H (upd H' p o):=λb u e=>by rw[Ak (Ai e h)];exact s _ _ e
def Df{C:Type}{l:List C}{i:Nat}{x:C}(h:l[i]?=g x):l.take (i+1)=l.take i++#[x]:=by
 rw[yV,h];rfl
def Ho{H:Hp}{y d:T}{o1 o2:HO}(F:H y=M)(z:H d=M):Ae H (upd (upd H d o1) y o2):=λb o e=>by rw[Ak (Ai e F),Ak (Ai e z)];exact e
def Nz{H:Hp}{y d:T}{o1 o2 L:HO}(z:H y=M)(F:H d=M):Ae H (upd (upd (upd H d o1) y o2) y L):=λb o e=>by rw[Ak (Ai e z),Ak (Ai e z),Ak (Ai e F)];exact e
def kK(p:T)(H:Hp):Hp:=λb=>if b=p then M else H b
def kK.at{p b:T}{H:Hp}{o:HO}(h:kK p H b=g o):b≠p/\H b=g o:=by
 unfold kK at h;by_cases e:b=p
 .rw[mS e]at h;cases h
 .rw[mK e]at h;exact[e,h]
def kK.of{p b:T}{H:Hp}{o:HO}(n:b≠p)(h:H b=g o):kK p H b=g o:=by
 unfold kK;rw[mK n];exact h
def Xb{K:zAa}:zAL K (.type "str") (.type "str")=g B:=by kernel_rfl
inductive LH(C:T)(f:J)(vs:List V)(H:Hp)(Q:VK):Prop
 |mk (p:_) (dx:_) (v:_) (z0:vs=#[.ref p,v]) (z1:H p=g (.ins C dx [])) (z2:Q .non (upd H p (.ins C dx (Cw f v [])))):LH C f vs H Q
def CU(C:T)(f:J):Sp:=λL H Q x=>LH C f L H Q
inductive NO(C:T)(vs:List V)(H:Hp)(Q:VK):Prop
 |mk (p:_) (dx:_) (v:_) (w:_) (z0:vs=#[.ref p,v,w]) (z1:H p=g (.ins C dx [])) (z2:∀H',(∀b,b≠p->H' b=H b)->H' p=g (.ins C dx (Cw "last" w (Cw "first" v [])))->Q .non H'):NO C vs H Q
def aK(C:T):Sp:=λL H Q x=>NO C L H Q
inductive HV(C:T)(vs:List V)(H:Hp)(Q:VK):Prop
 |mk (p:_) (dx:_) (a:_) (xs:_) (z0:vs=#[.ref p,.ref a]) (z1:H p=g (.ins C dx [])) (z2:H a=g (.lst xs)) (z3:∀l H',H l=M->(∀b,b≠p->b≠l->H' b=H b)->H' p=g (.ins C dx (Cw "several" (.ref l) []))->H' l=g (.lst xs)->Q .non H'):HV C vs H Q
def SK(C:T):Sp:=λL H Q x=>HV C L H Q
section
variable {P:mF} {w:mR} {K:zAa} {mg:J->Option lV} {base:mX} (c:Pm P w K mg base)
def MU:(A8.mk Ag An Ao Aq Bd Bj Bp Ba).l.Nodup:=by
 first
  |exact eZ
  |exact sA (vZ (A8.mk Ag An Ao Aq Bd Bj Bp Ba).l _) eZ
def LB:Jk c 1 "CauseIs" An #["self","name"] (CU An "name"):=OY c.z c.bh c.je #["self","name"] df λR H Q N h=>by
 let[p,C,n,rfl,L,q]:=h;refine[_,(Ac (Dj (pv 0) (pv 1) I)),?_];exact[_,I,_,I,p,_,C,_,I,L,c.bh.cl,c.ee,(by show 0<1000;decide),q]
def MM:Jk c 1 "ThingIs" Ao #["self","name"] (CU Ao "name"):=OY c.z c.bi c.jf #["self","name"] df λR H Q N h=>by
 let[p,C,n,rfl,L,q]:=h;refine[_,(Ac (Dj (pv 0) (pv 1) I)),?_];exact[_,I,_,I,p,_,C,_,I,L,c.bi.cl,c.f7,(by show 0<1000;decide),q]
def ZM:Jk c 1 "Over" Bd #["self","cents"] (CU Bd "cents"):=OY c.z c.d5 c.kz #["self","cents"] df λR H Q N h=>by
 let[p,C,n,rfl,L,q]:=h;refine[_,(Ac (Dj (pv 0) (pv 1) I)),?_];exact[_,I,_,I,p,_,C,_,I,L,c.d5.cl,c.gk,(by show 0<1000;decide),q]
def ZC:Jk c 1 "Not" Bj #["self","part"] (CU Bj "part"):=OY c.z c.f9 c.ml #["self","part"] df λR H Q N h=>by
 let[p,C,n,rfl,L,q]:=h;refine[_,(Ac (Dj (pv 0) (pv 1) I)),?_];exact[_,I,_,I,p,_,C,_,I,L,c.f9.cl,c.ik,(by show 0<1000;decide),q]
def QA:Jk c 1 "DaysIn" Aq #["self","first","last"] (aK Aq):=OY c.z c.ba c.jq #["self","first","last"] df λR H Q N h=>by
 let[p,C,a,b,rfl,L,q]:=h;refine[_,(Ab (Dj (pv 0) (pv 1) I)
   (Ac (Dj (pv 0) (pv 2) I))),?_]
 refine[_,I,_,I,p,_,C,_,I,L,c.ba.cl,c.f8,(by show 0<1000;decide),?_];exact[_,I,_,I,p,_,C,_,I,Aa,c.ba.cl,c.g8,(by show 1<1000;decide),q _ (λb n=>by rw[Ak n,Ak n]) Aa]
def eU:Jk c 1 "All" Bp #["self","several"] (SK Bp):=OY c.z c.ff c.mn #["self","several"] df λX H Q A h=>by
 let[p,U,a,W,rfl,R,C,q]:=h;refine[_,(Ac (Dj (pv 0) (Dq Fm I (c.z.nn c.az) (show zCz _=g (.type "list") from rfl) (Cf (pv 1))) I)),?_];refine[_,I,a,_,I,.inl (Al.of C),λl N=>?_];let z:p≠l:=Ai R N;exact[_,I,p,_,U,_,I,(by rw[Ak z];exact R),c.ff.cl,c.g9,(by show 0<1000;decide),q l _ N (λb L F=>by rw[Ak L,Ak F]) Aa (by rw[Ak z.symm,Aa])]
def ZD:Jk c 1 "Some" Ba #["self","several"] (SK Ba):=OY c.z c.d7 c.l0 #["self","several"] df λX H Q A h=>by
 let[p,U,a,W,rfl,R,C,q]:=h;refine[_,(Ac (Dj (pv 0) (Dq Fm I (c.z.nn c.az) (show zCz _=g (.type "list") from rfl) (Cf (pv 1))) I)),?_];refine[_,I,a,_,I,.inl (Al.of C),λl N=>?_];let z:p≠l:=Ai R N;exact[_,I,p,_,U,_,I,(by rw[Ak z];exact R),c.d7.cl,c.fh,(by show 0<1000;decide),q l _ N (λb L F=>by rw[Ak L,Ak F]) Aa (by rw[Ak z.symm,Aa])]
end
def JY:Ev->Int
 |.al _=>2
 |.so _=>1
 |_=>3
inductive CQ(κ:A8)(C:T)(vs:List V)(H:Hp)(Q:VK):Prop
 |mk (p:T) (t:Ev) (z0:vs=#[.ref p]) (z1:κ.of t=C) (z2:Q (.int (JY t)) H):CQ κ C vs H Q
def G6(κ:A8)(C:T):Sp:=λL H Q x=>CQ κ C L H Q
section
variable {P:mF} {w:mR} {K:zAa} {mg:J->Option lV} {base:mX}
def Tt:Cb #["self"] #["self"] (Av Ei):=by injections
def Ew(N:Pm P w K mg base){f:T}(F:Fw K "rank" "Condition.rank" Ei f b){C:T}(R:C≠Bp)(L:C≠Ba):Ar P w K mg base Jv 1 f b #["self"] (G6 (A8.mk Ag An Ao Aq Bd Bj Bp Ba) C):=by
 let sc:=Tt;bv_omega
 .let[_,_,rfl,_]:=h
  rfl
 let[p,t,rfl,z,q]:=h;let e:JY t=3:=by
  cases t with
  |al _=>exact mC z.symm R
  |so _=>exact mC z.symm L
  |_=>rfl
 rw[e]at q;exact[_,(Ac (Ay (Vr N.z N.km))),q]
def Q5:Cb #["self"] #["self"] (Av Rh):=by injections
def V8(C:Pm P w K mg base){f:T}(F:Fw K "rank" "All.rank" Rh f b):Ar P w K mg base Jv 1 f b #["self"] (G6 (A8.mk Ag An Ao Aq Bd Bj Bp Ba) Bp):=by
 let sc:=Q5;bv_omega
 .let[_,_,rfl,_]:=h
  rfl
 let[p,t,rfl,z,q]:=h;let[u,rfl]:=iE (κ:=A8.mk Ag An Ao Aq Bd Bj Bp Ba) (MU) z;exact[_,(Ac (Ay (Vr C.z C.cx))),q]
def M3:Cb #["self"] #["self"] (Av Ox):=by injections
def L0(C:Pm P w K mg base){f:T}(F:Fw K "rank" "Some.rank" Ox f b):Ar P w K mg base Jv 1 f b #["self"] (G6 (A8.mk Ag An Ao Aq Bd Bj Bp Ba) Ba):=by
 let sc:=M3;bv_omega
 .let[_,_,rfl,_]:=h
  rfl
 let[p,t,rfl,z,q]:=h;let[u,rfl]:=iG (κ:=A8.mk Ag An Ao Aq Bd Bj Bp Ba) (MU) z;exact[_,(Ac (Ay (Vr C.z C.ge))),q]
def ZB(H:Pm P w K mg base):KF P w K mg base 1 (A8.Fam (A8.mk Ag An Ao Aq Bd Bj Bp Ba)) "rank" #["self"] (G6 (A8.mk Ag An Ao Aq Bd Bj Bp Ba)):=[λC Q=>by
  let L:=MU;unfold A8.l at L;simp only[zBn,zAg,zAV,xT,pR]at L;rcases Q with rfl|rfl|rfl|rfl|rfl|rfl|rfl|rfl
  .exact Sq H.kf H.bq.cl bd λf N F=>Ew H F L.1.2.2.2.2.2.1 L.1.2.2.2.2.2.2
  .exact Sq H.my H.bh.cl bd λf N F=>Ew H F L.2.1.2.2.2.2.1 L.2.1.2.2.2.2.2
  .exact Sq H.mz H.bi.cl bd λf N F=>Ew H F L.2.2.1.2.2.2.1 L.2.2.1.2.2.2.2
  .exact Sq H.ot H.ba.cl bd λf N F=>Ew H F L.2.2.2.1.2.2.1 L.2.2.2.1.2.2.2
  .exact Sq H.qj H.d5.cl bd λf N F=>Ew H F L.2.2.2.2.1.2.1 L.2.2.2.2.1.2.2
  .exact Sq H.qp H.f9.cl bd λf N F=>Ew H F L.2.2.2.2.2.1.1 L.2.2.2.2.2.1.2
  .exact Sq H.qo H.ff.cl bd λf N F=>V8 H F
  .exact Sq H.qh H.d7.cl bd λf N F=>L0 H F]
end
def Bb:Co->List J
 |.alw=>#[O "always"]
 |.cau n=>#[O "cause",n]
 |.thi n=>#[O "thing",n]
 |.day a b=>#[O "days",tx (Di a.toNat),tx (Di b.toNat)]
 |.ovr m=>#[O "over",tx (El m.toNat)]
def Xv(c:Co):((Bb c).length:Int)=R5 c:=by cases c<;>rfl
inductive T9(κ:A8)(m:Nat)(C:T)(vs:List V)(H:Hp)(Q:VK):Prop
 |mk (p:_) (t:_) (z0:vs=#[.ref p]) (z1:Bv κ H (.ref p) t) (z2:κ.of t=C) (z3:Mx t<m) (z4:Fd Ej t) (z5:(Bz Bb t).length<=60) (z6:∀l H',Ae H H'->H l=M->H' l=g (.lst ((Bz Bb t).map V.str))->Q (.ref l) H'):T9 κ m C vs H Q
def Jp(κ:A8)(m:Nat)(C:T):Sp:=λL H Q x=>T9 κ m C L H Q
inductive SI(κ:A8)(m:Nat)(vs:List V)(H:Hp)(Q:VK):Prop
 |mk (v:_) (t:_) (h:Int) (z0:vs=#[v,.int h]) (z1:Bv κ H v t) (z2:Mx t<m) (z3:Fd Ej t) (z4:(Lv Bb (h+1) t).length<=60) (z5:∀l H',Ae H H'->H l=M->H' l=g (.lst ((Lv Bb (h+1) t).map V.str))->Q (.ref l) H'):SI κ m vs H Q
def OU(κ:A8)(m:Nat):Sp:=λC H Q x=>SI κ m C H Q
inductive NJ(κ:A8)(m:Nat)(vs:List V)(H:Hp)(Q:VK):Prop
 |mk (a:_) (us:_) (ts:_) (b:_) (h:Int) (z0:vs=#[.ref a,.str b,.int h]) (z1:H a=g (.lst us)) (z2:CdsAt κ H us ts) (z3:hgts ts<m) (z4:okTs Ej ts) (z5:(Dh b (ts.map (Lv Bb (h+1)))).length<=60) (z6:∀l H',Ae H H'->H l=M->H' l=g (.lst ((Dh b (ts.map (Lv Bb (h+1)))).map V.str))->Q (.ref l) H'):NJ κ m vs H Q
def CI(κ:A8)(m:Nat):Sp:=λC H Q x=>NJ κ m C H Q
def Ks{κ:A8}{C:T}{vs:List V}{H:Hp}{Q:VK}{E:XK}(h:Jp κ 0 C vs H Q E):False:=by
 let[_,_,_,_,_,h,_]:=h;exact mC h (zBL _)
def Yo(b:J)(ws:List (List J))(i:Nat):(Dm b (ws.take i)).length<=(Dm b ws).length:=by
 induction ws generalizing i with
 |nil=>rw[List.take_nil];exact zAm _
 |cons w ws C=>
  cases i with
  |zero=>rw[zBA];exact zAy _
  |succ i=>rw[xZ,Dm,Dm,zAd,zAd,zAc,zAc];let:=C i;lia
def Yx(b:J)(ws:List (List J))(i:Nat):(Dh b (ws.take i)).length<=(Dh b ws).length:=by
 cases ws with
 |nil=>rw[List.take_nil];exact zAm _
 |cons w ws=>
  cases i with
  |zero=>rw[zBA];exact zAy _
  |succ i=>rw[xZ,Dh,Dh,zAc,zAc];let:=Yo b ws i;lia
def K7(b:J){ws:List (List J)}{w:List J}(h:w∈ws):w.length<=(Dm b ws).length:=by
 induction ws with
 |nil=>cases h
 |cons v H C=>
  rw[Dm,zAd,zAc];rcases zAg.mp h with rfl|h
  .lia
  .have:=C h;lia
def Jr(b:J){ws:List (List J)}{w:List J}(h:w∈ws):w.length<=(Dh b ws).length:=by
 cases ws with
 |nil=>cases h
 |cons v C=>
  rw[Dh,zAc];rcases zAg.mp h with rfl|h
  .lia
  .have:=K7 b h;lia
def Nl{n:Nat}(h:n<=1000000):n<10^7:=by lia
section
variable {P:mF} {w:mR} {K:zAa} {mg:J->Option lV} {base:mX}
def Rp:Cb #["self"] #["self"] (Av Jh):=by injections
def Sc(C:Pm P w K mg base){f:T}(F:Fw K "words" "Condition.words" Jh f b){m:Nat}:Ar P w K mg base Jv 2 f b #["self"] (Jp (A8.mk Ag An Ao Aq Bd Bj Bp Ba) m Ag):=by
 let sc:=Rp;bv_omega
 .let[_,_,rfl,_]:=h
  rfl
 let[p,t,rfl,R,z,L,ok,N,q]:=h;obtain rfl:=jL (κ:=A8.mk Ag An Ao Aq Bd Bj Bp Ba) (MU) z;unfold Fd at ok;rw[Iy]at q;unfold Bv at R;let[_,W,e,R]:=R;cases e;exact[_,(Ac (Ay (Ca (Cf Aj)))),by show 1<=sizeLine;rw[zCy];decide,λl U=>q l _ (Ad U _) U Aa]
def Tz:Cb #["self"] #["self"] (Av Kw):=by injections
def Uu(C:Pm P w K mg base){f:T}(F:Fw K "words" "CauseIs.words" Kw f b){m:Nat}:Ar P w K mg base Jv 2 f b #["self"] (Jp (A8.mk Ag An Ao Aq Bd Bj Bp Ba) m An):=by
 let sc:=Tz;bv_omega
 .let[_,_,rfl,_]:=h
  rfl
 let[p,t,rfl,R,z,L,ok,N,q]:=h;let[X,rfl]:=jD (κ:=A8.mk Ag An Ao Aq Bd Bj Bp Ba) (MU) z;unfold Fd at ok;rw[Iy]at q;unfold Bv at R;let[_,W,e,R]:=R;cases e;refine[_,(Ac (Ay (Ca (Dy Aj (Cj (pv 0) I))))),?_];exact[_,I,p,_,W,_,_,I,R,C.bh.cl,C.ee,JF X,by show 2<=sizeLine;rw[zCy];decide,λl U=>q l _ (Ad U _) U Aa]
def Uf:Cb #["self"] #["self"] (Av Kx):=by injections
def Tx(C:Pm P w K mg base){f:T}(F:Fw K "words" "ThingIs.words" Kx f b){m:Nat}:Ar P w K mg base Jv 2 f b #["self"] (Jp (A8.mk Ag An Ao Aq Bd Bj Bp Ba) m Ao):=by
 let sc:=Uf;bv_omega
 .let[_,_,rfl,_]:=h
  rfl
 let[p,t,rfl,R,z,L,ok,N,q]:=h;let[X,rfl]:=iW (κ:=A8.mk Ag An Ao Aq Bd Bj Bp Ba) (MU) z;unfold Fd at ok;rw[Iy]at q;unfold Bv at R;let[_,W,e,R]:=R;cases e;refine[_,(Ac (Ay (Ca (Dy Aj (Cj (pv 0) I))))),?_];exact[_,I,p,_,W,_,_,I,R,C.bi.cl,C.f7,HJ X,by show 2<=sizeLine;rw[zCy];decide,λl U=>q l _ (Ad U _) U Aa]
def Vy:Cb #["self"] #["self"] (Av Lq):=by injections
def Vv(R:Pm P w K mg base){f:T}(F:Fw K "words" "DaysIn.words" Lq f j){m:Nat}:Ar P w K mg base Jv 2 f j #["self"] (Jp (A8.mk Ag An Ao Aq Bd Bj Bp Ba) m Aq):=by
 let sc:=Vy;bv_omega
 .let[_,_,rfl,_]:=h
  rfl
 let[p,t,rfl,X,S,N,ok,U,q]:=h;let[a,b,rfl]:=jJ (κ:=A8.mk Ag An Ao Aq Bd Bj Bp Ba) (MU) S;unfold Fd at ok;rw[Iy]at q;unfold Bv at X;let[_,d,e,X]:=X;cases e;refine[_,(Ac (Ay (Ca (Aw Aj (Dy (Dq Ep I (R.z.nn R.ar) (show zCz _=g (.type "str") from rfl) (Cf (Cj (pv 0) I))) (Dq Ep I (R.z.nn R.ar) (show zCz _=g (.type "str") from rfl) (Cf (Cj (pv 0) I)))))))),?_];let[W,k,C]:=ok;let z:((toString a:String):J)=tx (Di a.toNat):=by rw[<- Jo];congr 2;lia
 let L:((toString b:String):J)=tx (Di b.toNat):=by rw[<- Jo];congr 2;lia
 refine[_,I,p,_,d,_,_,I,X,R.ba.cl,R.f8,KJ a b,_,I,Ge W Z,_,I,p,_,d,_,_,I,X,R.ba.cl,R.g8,RG a b,_,I,Ge Z Z,by show 3<=sizeLine;rw[zCy];decide,λl c=>q l _ (Ad c _) c ?_];show upd _ _ _ _=g (HO.lst #[.str (O "days"),.str (tx (Di a.toNat)),.str (tx (Di b.toNat))]);rw[<- z,<- L];exact Aa
def Ys:Cb #["self"] #["self"] (Av Oj):=by injections
def Yr(R:Pm P w K mg base){f:T}(F:Fw K "words" "Over.words" Oj f d){m:Nat}:Ar P w K mg base Jv 2 f d #["self"] (Jp (A8.mk Ag An Ao Aq Bd Bj Bp Ba) m Bd):=by
 let sc:=Ys;bv_omega
 .let[_,_,rfl,_]:=h
  rfl
 let[p,t,rfl,X,W,N,ok,U,q]:=h;let[c,rfl]:=jH (κ:=A8.mk Ag An Ao Aq Bd Bj Bp Ba) (MU) W;unfold Fd at ok;rw[Iy]at q;unfold Bv at X;let[_,j,e,X]:=X;cases e;refine[_,(Ac (Ay (Ca (Dy Aj (Gg (Kq R) hr (Cf (Cj (pv 0) I))))))),?_];let[C,S]:=ok;let z:(#[V.int c]++[]:List V)=#[.int (c.toNat:Nat)]:=by rw[zAA];congr 2;lia
 let L:c.toNat<10^60:=zAF (show c.toNat<10^13 by lia) (zCe Y Y);exact[_,I,p,_,j,_,_,I,X,R.d5.cl,R.gk,LA c,c.toNat,z,L,by show 2<=sizeLine;rw[zCy];decide,λl b=>q l _ (Ad b _) b Aa]
def Vw:Cb #["part","highest_in_brackets"] #["part","highest_in_brackets"] (Av Lz):=by injections
def Vt(W:Pm P w K mg base){f:T}(F:Fw K "words_within" "words_within" Lz f fd){m:Nat}(Mwords:KF P w K mg base (3*m+2) (A8.Fam (A8.mk Ag An Ao Aq Bd Bj Bp Ba)) "words" #["self"] (Jp (A8.mk Ag An Ao Aq Bd Bj Bp Ba) m)):Ar P w K mg base Jv (3*m+2+1) f fd #["part","highest_in_brackets"] (OU (A8.mk Ag An Ao Aq Bd Bj Bp Ba) m):=by
 let sc:=Vw;bv_omega
 .let[_,_,_,rfl,_]:=h
  rfl
 let[v,t,h,rfl,U,y,ok,N,q]:=h;let[L,b,C,rfl,R,_,a,p,_]:=U.obj;let X:1<=sizeLine:=by rw[zCy];decide
 let o:JY t=Fe t:=by cases t<;>rfl
 refine[_,(Ab (Ce (Ax Tg (Na (ZB W) (hr.mono Z) (pv 0)) (pv 1) (Bf _))
    (Ac (Ay (Au Ef (Au Ef (Ca (Cf Aj)) (Na Mwords (hr.mono Z) (pv 0))) (Ca (Cf Aj)))))
    Be)
   (Ac (Ay (Na Mwords (hr.mono Z) (pv 0))))),?_]
 refine[_,I,L,_,b,C,I,R,A8.fam _ t,a,L,t,I,I,_,I,_,_,I,I,_,I,HD (λc=>?_) (λc=>?_)]
 .have c:Fe t<h+1:=by rw[<- o];let:=mU c;lia
  let l:Lv Bb (h+1) t=O "(" :: (Bz Bb t++#[O ")"]):=mS c;rw[l]at q N;rw[zAd,zAc]at N;let N:(Bz Bb t).length+2<=60:=by let:#[O ")"].length=1:=rfl;lia
  refine[X,λx n1=>?_];let k:=Ad n1 (.lst #[.str (O "(")]);refine[_,I,L,_,b,C,I,k _ _ R,A8.fam _ t,p,L,t,I,U.same k,I,y,ok,Z,λd n S r j=>?_];refine[x,d,_,_,I,I,S _ _ Aa,j,(by rw[zAb,zCy];show 1+_<=_;lia),λl3 n3=>?_];let s3:=Ad n3 (.lst (#[.str (O "(")]++(Bz Bb t).map V.str));refine[X,λl4 n4=>?_];let u:=Ad n4 (.lst #[.str (O ")")]);refine[l3,l4,_,_,I,I,u _ _ Aa,Aa,(by rw[zAc,zAb,zCy];show 1+_+1<=_;lia),λl5 i=>?_];let e:=k.trans (S.trans (s3.trans u));refine q l5 _ (e.trans (Ad i _)) (e.free i) ?_;rw[zAr,zAf];exact Aa
 .have c:¬Fe t<h+1:=λz=>c (mV (by rw[o];lia))
  let l:Lv Bb (h+1) t=Bz Bb t:=mK c;rw[l]at q N;exact[_,I,L,_,b,C,I,R,A8.fam _ t,p,L,t,I,U,I,y,ok,N,λd n S r j=>q d n S r j]
def Yq:Cb #["several","between","highest_in_brackets","told","k","part"] #["several","between","highest_in_brackets"] (Av Ny):=by injections
def Yy(d:Pm P w K mg base){f:T}(F:Fw K "words_with" "words_with" Ny f fd){m:Nat}(L:Y4 P w K mg base (3*m+2+1) "words_within" #["part","highest_in_brackets"] (OU (A8.mk Ag An Ao Aq Bd Bj Bp Ba) m)):Ar P w K mg base Jv (3*m+2+1+1) f fd #["several","between","highest_in_brackets"] (CI (A8.mk Ag An Ao Aq Bd Bj Bp Ba) m):=by
 let sc:=Yq;bv_omega
 .let[_,_,_,_,_,rfl,_]:=h
  rfl
 let[a,us,k,b,h,rfl,ha,C,hg,ac,hm,q]:=h;let X:=C.len;refine[_,(Ab (Fk sc 3 (Ca Iw))
   (Ab (Gc nK I (Wa I (d.z.nn d.bt) (Cf (pv 0))) (Oc (n:=2) I (Dw (Ot sc 4) (Dw (Ot sc 5) Km)))
    (Ab (Ce (Ax Tq (pv 4) Ah (Bf _))
    (Ac (Ct (Fg mJ mM mL Dx (pv 3) (Cf (pv 1)))))
    Be)
   (Ac (Ct (Fg mJ pM pL Qg (pv 3) (Cf (Gd L (hr.mono Z) I (Dy (pv 5) (pv 2)))))))))
   (Ac (Ay (pv 3))))),?_]
 refine[zAy _,λj W=>?_];let s0:=Ad W (.lst []);refine Ic #[g (.ref a),g (.str b),g (.int h),g (.ref j),M,M] rfl ?_;refine[_,I,a,I,[_,Al.of (s0 _ _ ha)],Sh (K:=K) (a:=a) (xs:=us) (λi r U=>(∃y t,r=#[g (.ref a),g (.str b),g (.int h),g (.ref j),y,t])/\Ae H U/\U j=g (.lst ((Dh b ((k.take i).map (Lv Bb (h+1)))).map V.str))) [[M,M,I],s0,Aa] (λi r U _ ⟨_,e,_⟩=>Al.of (e _ _ ha)) ?_ ?_]
 .rintro i v r U tt hi ⟨⟨y,t,rfl⟩,s2,p⟩ ab
  let[u,o,hu]:=C.get hi;let s3:=Ad ab (.tup #[.int (i:Int),v]);let S:=s3 _ _ p;let S3:=s2.trans s3;let ad:∀{x:T},upd U tt (.tup #[.int (i:Int),v]) x=M->x≠j:=λ{x} z e=>by rw[e,S]at z;cases z
  let up:=zAz o;let aa:(Lv Bb (h+1) u).length<=60:=zAG (Jr b (zAv.mpr [u,up,I])) hm;let ae:(Dh b ((k.take i).map (Lv Bb (h+1)))).length<=60:=by rw[sU];exact zAG (Yx b _ i) hm
  let sn:Dh b ((k.take (i+1)).map (Lv Bb (h+1)))=(if i=0 then [] else Dh b ((k.take i).map (Lv Bb (h+1)))++#[b])++Lv Bb (h+1) u:=by
   rw[Df o,zAf];by_cases c:i=0
   .subst c
    rw[mS I,zBA];show Lv Bb (h+1) u++[]=_;rw[zAA];rfl
   .rw[mK c]
    show Dh b (_++#[Lv Bb (h+1) u])=_;rw[Y9]
    .rw[zAw];rfl
    .intro z
     let e:=nI oJ z;rw[zAb,zAq,rV]at e;let:=(zAs.mp o).1
     lia
  refine[_,I,_,_,I,I,_,I,?_];refine SL (λa0 H'=>a0=#[g (.ref a),g (.str b),g (.int h),g (.ref j),g (.int (i:Int)),g v]/\Ae H H'/\H' j=g (.lst ((if i=0 then [] else Dh b ((k.take i).map (Lv Bb (h+1)))++#[b]).map V.str))) (λc N R=>?_) (λc N R=>?_) ?_
  .have c:(0:Int)<(i:Int):=mU c
   refine[_,I,.inl [I,_,Al.of S],_,I,j,_,_,I,I,S,by rw[zAb,zCy];lia,R _ _ [I,T7 W S3,?_]];rw[mK Z,zAf];exact Aa
  .have c:¬(0:Int)<(i:Int):=λz=>c (mV z)
   let i0:i=0:=by lia
   refine R _ _ [I,S3,?_];rw[mS i0,S,i0,zBA];rfl
  rintro _ H4 ⟨rfl,s4,h4⟩;refine[_,I,.inl [I,_,Al.of h4],_,I,_,I,v,u,h,I,hu.same s4,G5 hg i o,Jl ac u up,aa,λl H5 s5 nl h5=>?_];refine[j,l,_,_,I,I,s5 _ _ h4,h5,?_,[_,_,I],T7 W (s4.trans s5),?_]
  .rw[zAb,zAb,zCy]
   let:(if i=0 then [] else Dh b ((k.take i).map (Lv Bb (h+1)))++#[b]).length<=61:=by
    split
    .simp
    .rw[zAc];show _+1<=_;lia
   lia
  .rw[sn,zAf]
   exact Aa
 .rintro r U ⟨⟨y,t,rfl⟩,s2,p⟩
  rw[X,zAB]at p;exact[_,I,q j U s2 W p]
def L6:Cb #["self"] #["self"] (Av Pa):=by injections
def L3(R:Pm P w K mg base){f:T}(F:Fw K "words" "Not.words" Pa f j){m:Nat}(z:Y4 P w K mg base (3*m+2+1) "words_within" #["part","highest_in_brackets"] (OU (A8.mk Ag An Ao Aq Bd Bj Bp Ba) m)):Ar P w K mg base Jv (3*m+2+1+1) f j #["self"] (Jp (A8.mk Ag An Ao Aq Bd Bj Bp Ba) (m+1) Bj):=by
 let sc:=L6;bv_omega
 .let[_,_,rfl,_]:=h
  rfl
 let[p,t,rfl,X,c,d,ok,S,q]:=h;let[u,rfl]:=jI (κ:=A8.mk Ag An Ao Aq Bd Bj Bp Ba) (MU) c;unfold Mx at d;unfold Fd at ok;rw[Ua]at q S;unfold Bv at X;let[_,r,v,e,X,l]:=X;cases e;rw[zAd]at S;let b:1<=sizeLine:=by rw[zCy];decide
 refine[_,(Ac (Ay (Au Ef (Ca (Cf Aj)) (Gd z (hr.mono Z) I (Dy (Cj (pv 0) I) (Vr R.z R.cx)))))),?_];refine[b,λC k=>?_];let L:=Ad k (.lst #[.str (O "not")]);refine[_,I,p,_,r,_,_,I,L _ _ X,R.f9.cl,R.ik,Z7 _ _,v,u,2,I,l.same L,Z,ok,by show(Lv Bb 3 u).length<=60;lia,λN i W n y=>?_];refine[C,N,_,_,I,I,W _ _ Aa,y,(by rw[zAb,zCy];show 1+(Lv Bb 3 u).length<=_;lia),λo U=>?_];refine q o _ (L.trans (W.trans (Ad U _))) ((L.trans W).free U) ?_;rw[zAr];exact Aa
def G7:Cb #["self"] #["self"] (Av Pq):=by injections
def D5(R:Pm P w K mg base){f:T}(F:Fw K "words" "All.words" Pq f b){m:Nat}(z:Y4 P w K mg base (3*m+2+1+1) "words_with" #["several","between","highest_in_brackets"] (CI (A8.mk Ag An Ao Aq Bd Bj Bp Ba) m)):Ar P w K mg base Jv (3*m+2+1+1+1) f b #["self"] (Jp (A8.mk Ag An Ao Aq Bd Bj Bp Ba) (m+1) Bp):=by
 let sc:=G7;bv_omega
 .let[_,_,rfl,_]:=h
  rfl
 let[p,t,rfl,X,U,N,ok,L,q]:=h;let[j,rfl]:=iE (κ:=A8.mk Ag An Ao Aq Bd Bj Bp Ba) (MU) U;unfold Mx at N;unfold Fd at ok;rw[Uc]at q L;unfold Bv at X;let[_,k,a,c,e,X,W,S]:=X;cases e;refine[_,(Ac (Ay (Gd z (hr.mono Z) I (Aw (Cj (pv 0) I) (Dy Aj (Vr R.z R.cx)))))),?_];exact[_,I,p,_,k,_,_,I,X,R.ff.cl,R.g9,Z7 _ _,a,c,j,O "and",2,I,W,S,Z,ok.2.2,L,λl o d C r=>q l o d C r]
def Yw:Cb #["self"] #["self"] (Av Nq):=by injections
def Za(R:Pm P w K mg base){f:T}(F:Fw K "words" "Some.words" Nq f b){m:Nat}(z:Y4 P w K mg base (3*m+2+1+1) "words_with" #["several","between","highest_in_brackets"] (CI (A8.mk Ag An Ao Aq Bd Bj Bp Ba) m)):Ar P w K mg base Jv (3*m+2+1+1+1) f b #["self"] (Jp (A8.mk Ag An Ao Aq Bd Bj Bp Ba) (m+1) Ba):=by
 let sc:=Yw;bv_omega
 .let[_,_,rfl,_]:=h
  rfl
 let[p,t,rfl,X,U,N,ok,L,q]:=h;let[j,rfl]:=iG (κ:=A8.mk Ag An Ao Aq Bd Bj Bp Ba) (MU) U;unfold Mx at N;unfold Fd at ok;rw[Ut]at q L;unfold Bv at X;let[_,k,a,c,e,X,W,S]:=X;cases e;refine[_,(Ac (Ay (Gd z (hr.mono Z) I (Aw (Cj (pv 0) I) (Dy Aj (Vr R.z R.ge)))))),?_];exact[_,I,p,_,k,_,_,I,X,R.d7.cl,R.fh,Z7 _ _,a,c,j,O "or",1,I,W,S,Z,ok.2.2,L,λl o d C r=>q l o d C r]
def Mwords(H:Pm P w K mg base):∀m,KF P w K mg base (3*m+2) (A8.Fam (A8.mk Ag An Ao Aq Bd Bj Bp Ba)) "words" #["self"] (Jp (A8.mk Ag An Ao Aq Bd Bj Bp Ba) m):=by
  intro m
  induction m with
  |zero=>
   refine[λC S=>?_];rcases S with rfl|rfl|rfl|rfl|rfl|rfl|rfl|rfl
   .exact Sq H.dn H.bq.cl bd λf Q F=>LJ λx x x x=>Ks
   .exact Sq H.fq H.bh.cl bd λf Q F=>LJ λx x x x=>Ks
   .exact Sq H.ft H.bi.cl bd λf Q F=>LJ λx x x x=>Ks
   .exact Sq H.gc H.ba.cl bd λf Q F=>LJ λx x x x=>Ks
   .exact Sq H.i6 H.d5.cl bd λf Q F=>LJ λx x x x=>Ks
   .exact Sq H.ip H.f9.cl bd λf Q F=>LJ λx x x x=>Ks
   .exact Sq H.iq H.ff.cl bd λf Q F=>LJ λx x x x=>Ks
   .exact Sq H.i7 H.d7.cl bd λf Q F=>LJ λx x x x=>Ks
  |succ m R=>
   let z:Y4 P w K mg base (3*m+2+1) "words_within" #["part","highest_in_brackets"] (OU (A8.mk Ag An Ao Aq Bd Bj Bp Ba) m):=(W2 H.z H.lv bd).cal λf Q F=>Vt H F R;let L:Y4 P w K mg base (3*m+2+1+1) "words_with" #["several","between","highest_in_brackets"] (CI (A8.mk Ag An Ao Aq Bd Bj Bp Ba) m):=(W2 H.z H.p5 bd).cal λf Q F=>Yy H F z;refine[λC S=>?_];let N:2<=3*(m+1)+2:=by omega
   rcases S with rfl|rfl|rfl|rfl|rfl|rfl|rfl|rfl
   .exact Sq H.dn H.bq.cl bd λf Q F=>(Sc H F).mono N
   .exact Sq H.fq H.bh.cl bd λf Q F=>(Uu H F).mono N
   .exact Sq H.ft H.bi.cl bd λf Q F=>(Tx H F).mono N
   .exact Sq H.gc H.ba.cl bd λf Q F=>(Vv H F).mono N
   .exact Sq H.i6 H.d5.cl bd λf Q F=>(Yr H F).mono N
   .exact Sq H.ip H.f9.cl bd λf Q F=>(L3 H F z).mono zY
   .exact Sq H.iq H.ff.cl bd λf Q F=>D5 H F L
   .exact Sq H.i7 H.d7.cl bd λf Q F=>Za H F L
end
def Ed{X:Cx}{k:Nat}{C:T}{ps:List J}{sp:Sp}{o:nY}{pl:vH Bool}(M:FF X.prog X.w X.K X.mg X.base k C m ps sp)(P:Cc k X.A)(z:PE X o d)
  (H:nU (.Call (.Attribute o m apos) [] [] c) X.env=(do
   let N <- nU o X.env
   qP apos.atName
   let (f,first) <- pC #[N] (pS N m pl)
   qX c f first (oB c (mH [] X.env)) (qC c (oQ [] X.env))):=by rfl) :
  PE X (.Call (.Attribute o m apos) [] [] c) (SN C m sp [] E0 d AH):=by
 let[f,Q,F,b,L]:=M.ex;exact NU z M.cl L F P b .nil Xo H
def Ug(rw:T)(pl dp:Int):List (J×V):=#[(O "row",.ref rw),(O "place",.int pl),(O "depth",.int dp)]
def KA(rw:T)(pl dp:Int):(Ug rw pl dp).lookup (O "row")=g (.ref rw):=rfl
def Gq(rw:T)(pl dp:Int):(Ug rw pl dp).lookup (O "place")=g (.int pl):=rfl
def Ma(rw:T)(pl dp:Int):(Ug rw pl dp).lookup (O "depth")=g (.int dp):=rfl
def Bu(C:T)(H:Hp)(r rw:T)(pl:Nat)(dp:Int)(L:List J):Prop:=(∃N,H r=g (.ins C N (Ug rw pl dp)))/\H rw=g (.lst (L.map V.str))/\pl<=L.length/\L.length<=60
def Kb(r:T)(H H':Hp):Prop:=∀b o,H b=g o->b≠r->H' b=g o
def Kb.refl(r:T)(H:Hp):Kb r H H:=λx x e x=>e
def Kb.trans{r:T}{H C H2:Hp}(a:Kb r H C)(b:Kb r C H2):Kb r H H2:=λc o e n=>b c o (a c o e n) n
def Kb.of{r:T}{H H':Hp}(s:Ae H H'):Kb r H H':=λb o e x=>s b o e
def Kb.nw{r:T}{H C H2:Hp}{o:HO}(h:H r=g o)(k:Kb r C H2):Ae (Nw H C) (Nw H H2):=Nw.grow λb L F e=>k b L e λz=>by rw[z,h]at F;cases F
def Kb.later{r:T}{H C H2:Hp}{o1:HO}(k:Kb r H C)(N:C r=g o1):Ae (Nw C H2) (Nw H H2):=λb o e=>by
 let[F,e]:=Nw.at e;refine Nw.of ?_ e;cases z:H b with
 |none=>rfl
 |some L=>
  by_cases c:b=r
  .rw[c,N]at F;cases F
  .rw[k b L z c]at F;cases F
def Kb.free{r:T}{H C:Hp}{o1:HO}(k:Kb r H C)(N:C r=g o1){b:T}(e:C b=M):H b=M:=by
 cases z:H b with
 |none=>rfl
 |some L=>
  by_cases c:b=r
  .rw[c,N]at e;cases e
  .rw[k b L z c]at e;cases e
def Cq{C xs:List J}{pl:Nat}(h:C.drop pl=xs):C[pl]?=xs.head?:=by rw[<- h,List.head?_drop]
def Lk{C xs ys:List J}{pl:Nat}(h:C.drop pl=xs++ys):C.drop (pl+xs.length)=ys:=by
 rw[<- zAQ,h,List.drop_left]
def Ij{C:List J}{x:J}{xs:List J}{pl:Nat}(h:C.drop pl=x::xs):pl+1<=C.length:=by
 let:=nI oJ h;rw[zBb,zAd]at this
 lia
def Ir(C:List J)(pl:Nat):J:=(C[pl]?).getD (O "")
inductive N2(C:T)(vs:List V)(H:Hp)(Q:VK):Prop
 |mk (r:_) (rw:_) (pl:_) (dp:_) (row:_) (z0:vs=#[.ref r]) (z1:Bu C H r rw pl dp row) (z2:Q (.str (Ir row pl)) H):N2 C vs H Q
def RY(C:T):Sp:=λL H Q x=>N2 C L H Q
inductive N1(C:T)(vs:List V)(H:Hp)(Q:VK):Prop
 |mk (r:_) (rw:_) (pl:_) (dp:_) (row:_) (z0:vs=#[.ref r]) (z1:Bu C H r rw pl dp row) (z2:pl+1<=row.length) (z3:∀H',Kb r H H'->Bu C H' r rw (pl+1) dp row->Q .non H'):N1 C vs H Q
def OB(C:T):Sp:=λL H Q x=>N1 C L H Q
inductive B0(C:T)(vs:List V)(H:Hp)(Q:VK):Prop
 |mk (r:_) (rw:_) (pl:_) (dp:_) (row:_) (nm:_) (z0:vs=#[.ref r]) (z1:Bu C H r rw pl dp row) (z2:row[pl]?=g nm) (z3:N6 nm) (z4:∀H',Kb r H H'->Bu C H' r rw (pl+1) dp row->Q (.str nm) H'):B0 C vs H Q
def HY(C:T):Sp:=λL H Q x=>B0 C L H Q
inductive B4(κ:A8)(C:T)(vs:List V)(H:Hp)(Q:VK):Prop
 |mk (r:_) (rw:_) (pl:_) (dp:_) (row:_) (n m:Nat) (z0:vs=#[.ref r]) (z1:Bu C H r rw pl dp row) (z2:row[pl]?=g (tx (Di n))) (z3:row[pl+1]?=g (tx (Di m))) (z4:n<=m) (z5:m<=1000000) (z6:∀u H',Kb r H H'->Bu C H' r rw (pl+2) dp row->Bv κ (Nw H H') u (.at (.day n m))->Q u H'):B4 κ C vs H Q
def LN(κ:A8)(C:T):Sp:=λL H Q x=>B4 κ C L H Q
inductive Q4(C:T)(vs:List V)(H:Hp)(Q:VK):Prop
 |mk (r:_) (rw:_) (pl:_) (dp:_) (row:_) (n:Nat) (z0:vs=#[.ref r]) (z1:Bu C H r rw pl dp row) (z2:row[pl]?=g (tx (El n))) (z3:n<10^12) (z4:∀H',Kb r H H'->Bu C H' r rw (pl+1) dp row->Q (.int n) H'):Q4 C vs H Q
def DB(C:T):Sp:=λL H Q x=>Q4 C L H Q
inductive TB(κ:A8)(C:T)(m:Nat)(vs:List V)(H:Hp)(Q:VK):Prop
 |mk (r:_) (rw:_) (pl:_) (dp:Nat) (row:_) (ws:_) (post:_) (t:_) (d:_) (z0:vs=#[.ref r]) (z1:Bu C H r rw pl dp row) (z2:row.drop pl=ws++post) (z3:Rn Bb Ej 0 ws t d) (z4:d<=m) (z5:dp+d<=6) (z6:∀u H',Kb r H H'->Bu C H' r rw (pl+ws.length) dp row->Bv κ (Nw H H') u t->Q u H'):TB κ C m vs H Q
def dS(κ:A8)(C:T)(m:Nat):Sp:=λL H Q x=>TB κ C m L H Q
inductive SS(κ:A8)(C:T)(m:Nat)(vs:List V)(H:Hp)(Q:VK):Prop
 |mk (r:_) (rw:_) (pl:_) (dp:Nat) (row:_) (ws:_) (post:_) (t:_) (d:_) (z0:vs=#[.ref r]) (z1:Bu C H r rw pl dp row) (z2:row.drop pl=ws++post) (z3:Rn Bb Ej 1 ws t d) (z4:d<=m) (z5:dp+d<=6) (z6:post.head?≠g (O "and")) (z7:∀u H',Kb r H H'->Bu C H' r rw (pl+ws.length) dp row->Bv κ (Nw H H') u t->Q u H'):SS κ C m vs H Q
def fD(κ:A8)(C:T)(m:Nat):Sp:=λL H Q x=>SS κ C m L H Q
inductive IY(κ:A8)(C:T)(m:Nat)(vs:List V)(H:Hp)(Q:VK):Prop
 |mk (r:_) (rw:_) (pl:_) (dp:Nat) (row:_) (ws:_) (post:_) (t:_) (d:_) (z0:vs=#[.ref r]) (z1:Bu C H r rw pl dp row) (z2:row.drop pl=ws++post) (z3:Rn Bb Ej 2 ws t d) (z4:d<=m) (z5:dp+d<=6) (z6:post.head?≠g (O "and")) (z7:post.head?≠g (O "or")) (z8:∀u H',Kb r H H'->Bu C H' r rw (pl+ws.length) dp row->Bv κ (Nw H H') u t->Q u H'):IY κ C m vs H Q
def bZ(κ:A8)(C:T)(m:Nat):Sp:=λL H Q x=>IY κ C m L H Q
inductive TV(κ:A8)(C:T)(m:Nat)(vs:List V)(H:Hp)(Q:VK):Prop
 |mk (r:_) (rw:_) (pl:_) (dp:Nat) (row:_) (ws:_) (post:_) (t:_) (d:_) (z0:vs=#[.ref r]) (z1:Bu C H r rw pl dp row) (z2:row.drop pl=ws++O ")" :: post/\Rn Bb Ej 2 ws t d/\d<=m/\dp+d<=6/\∀u H',Kb r H H'->Bu C H' r rw (pl+ws.length+1) dp row->Bv κ (Nw H H') u t->Q u H'):TV κ C m vs H Q
def fG(κ:A8)(C:T)(m:Nat):Sp:=λL H Q x=>TV κ C m L H Q
inductive SM(κ:A8)(C:T)(m:Nat)(vs:List V)(H:Hp)(Q:VK):Prop
 |mk (r:_) (rw:_) (pl:_) (dp:Nat) (row:_) (ws:_) (post:_) (t:_) (d:_) (wd:_) (z0:vs=#[.ref r,.str wd]) (z1:Bu C H r rw pl dp row) (z2:row.drop pl=wd::ws++post) (z3:d<m) (z4:dp+d+1<=6) (z5:((wd=O "not"/\∃t',t=.no t'/\Rn Bb Ej 0 ws t' d)\/(wd=O "("/\∃ws',ws=ws'++#[O ")"]/\Rn Bb Ej 2 ws' t d))) (z6:∀u H',Kb r H H'->Bu C H' r rw (pl+1+ws.length) dp row->Bv κ (Nw H H') u t->Q u H'):SM κ C m vs H Q
def gQ(κ:A8)(C:T)(m:Nat):Sp:=λL H Q x=>SM κ C m L H Q
def Eg{C:List J}{pl:Nat}{x:J}(h:C[pl]?=g x):Ir C pl=x:=by unfold Ir;rw[h];rfl
def Yl{C post:List J}{pl:Nat}{b:J}(h:C.drop pl=post)(n:post.head?≠g b)(F:b≠O ""):Ir C pl≠b:=by
 unfold Ir;rw[Cq h];cases e:post.head? with
 |none=>exactλz=>F z.symm
 |some x=>exactλz=>n (by rw[e];exact nI g z)
def Bu.step{C:T}{H:Hp}{r rw:T}{pl:Nat}{dp q:Int}{P:List J}{dx:T}{p:Nat}(h:Bu C H r rw pl dp P)(R:p<=P.length):Bu C (upd H r (.ins C dx (Ug rw p q))) r rw p q P:=by
 let[[L,Q],F,_,N]:=h;exact[[dx,Aa],by rw[Ak (Jy F Q (by intro z;cases z))];exact F,R,N]
def Kb.upd{r:T}{H:Hp}{o:HO}:Kb r H (L2.upd H r o):=λb C e n=>by rw[Ak n];exact e
section
seal L2.PS L2.PSs L2.PE L2.PA
variable {P:mF} {w:mR} {K:zAa} {mg:J->Option lV} {base:mX} (a:Pm P w K mg base)
def Um:Jm a 1 As "ahead" #["self"] (RY As):=iK a.z a.mx a.aa.cl #["self"] df λb H Q d h=>by
 let[r,rw,L,N,W,rfl,U,q]:=h;refine[_,(Ab (Ce (Ax Dv (Cj (pv 0) I) (Ix Bg a.z a.ag (Cf (Cj (pv 0) I))) (Bf _))
    (Ac (Ay Aj))
    Be)
   (Ac (Ay (Cr By (Cj (pv 0) I) (Cj (pv 0) I) (λx x=>I))))),?_]
 let[[X,F],R,C,S]:=U;let E:(W.map V.str).length=W.length:=zAb _;refine[_,I,r,_,X,_,_,I,F,a.aa.cl,a.ah,Gq _ _ _,_,I,r,_,X,_,_,I,F,a.aa.cl,a.cq,KA _ _ _,rw,_,I,.inl (Al.of R),I,_,I,HD (λc=>?_) (λc=>?_)]
 .have c:(L:Int)=((W.map V.str).length:Int):=V.int.inj (mU c)
  let e:W[L]?=M:=xB Z;unfold Ir at q;rw[e]at q;exact q
 .have c:¬(L:Int)=((W.map V.str).length:Int):=λz=>c (mV (by rw[z]))
  let A:L<W.length:=by lia
  let e:W[L]?=g W[L]:=zAi A;unfold Ir at q;rw[e]at q;exact[_,I,r,_,X,_,_,I,F,a.aa.cl,a.cq,KA _ _ _,_,I,r,_,X,_,_,I,F,a.aa.cl,a.ah,Gq _ _ _,rw,_,_,_,I,I,Al.of R,Gk (by rw[zAt,e];rfl),q]
def Vm:Jm a 1 As "step" #["self"] (OB As):=iK a.z a.oq a.aa.cl #["self"] df λE H Q b h=>by
 let[r,rw,S,C,X,rfl,L,A,q]:=h;refine[_,(Ac (Dj (pv 0) (Au Ea (Cj (pv 0) I) Ah) I)),?_];let F:=L;let[[W,z],N,U,R]:=L;refine[_,I,r,_,W,_,_,I,z,a.aa.cl,a.ah,Gq _ _ _,_,_,I,I,_,I,r,_,W,_,I,z,a.aa.cl,a.ah,(by show 3<1000;decide),?_];exact q _ Kb.upd (Bu.step (p:=S+1) F A)
end
inductive JP(C:T)(f:J)(vs:List V)(H:Hp)(Q:VK):Prop
 |mk (a:_) (v:_) (z0:vs=#[.ref a,v]) (z1:H a=g (ML a (.ref C) M)) (z2:∀d,H d=M->d≠a->Q .non (upd (upd H a (ML a (.ref C) (g d))) d (.xd #[(f,v)])))
def Qb(C:T)(f:J):Sp:=λL H Q N=>JP C f L H Q
def jP(L:T)(r:T)(H:Hp)(E:XK)(n:Int):Prop:=∀d C,Kb r H C->C d=g (.xd #[(O "at",.int n)])->E (.ref L) (g d) C
inductive UL(CN C:T)(vs:List V)(H:Hp)(Q:VK)(E:XK):Prop
 |mk (r:_) (rw:_) (pl:_) (dp:_) (row:_) (b:_) (n:Int) (z0:vs=#[.ref r,.str b,.int n]) (z1:Bu C H r rw pl dp row) (z2:((Ir row pl≠b/\Q (.bl lX) H)\/(row[pl]?=g b/\n≠8/\∀H',Kb r H H'->Bu C H' r rw (pl+1) dp row->Q (.bl B) H')\/(row[pl]?=g b/\n=8/\jP CN r H E (pl+1))))
def bJ(N C:T):Sp:=λL H Q E=>UL N C L H Q E
def Ig{r:T}{H P:Hp}{a d:T}{S o1 o2:HO}(k:Kb r H P)(U:P a=M)(N:upd P a S d=M):Kb r H (unt (upd (upd (upd P a S) a o1) d o2) a):=λb o e n=>by
 let F:=k b o e n;let L:b≠a:=λz=>by rw[z,U]at F;cases F
 let C:b≠d:=λz=>by rw[<- z,Ak L,F]at N;cases N
 rw[Iv L,Ak C,Ak L,Ak L,F]
section
seal L2.PS L2.PSs L2.PE L2.PA
variable {P:mF} {w:mR} {K:zAa} {mg:J->Option lV} {base:mX}
def Qo:Cb #["self","at"] #["self","at"] (Av Im):=by injections
def Qp(C:Pm P w K mg base){f:T}(F:Fw K "__init__" "NoWords.__init__" Im f b):Ar P w K mg base Jv 1 f b #["self","at"] (Qb Cd "at"):=by
 let sc:=Qo;bv_omega
 .let[_,_,rfl,_]:=h
  rfl
 let[e,n,rfl,L,q]:=h;refine[_,(Ac (F6 (pv 0) (pv 1) I)),?_];exact[_,I,_,I,e,Cd,I,L,C.qy,λd z N=>q d z N]
def Kr(C:Pm P w K mg base):PD P w K mg base 1 "NoWords" Cd #["self","at"] (Qb Cd "at"):=hX C.z C.jk C.qx bd λf H F=>Qp C F
def M8(W:Pm P w K mg base):Gf P w K mg base 3 As "goes_on" #["self","between","so_far"] (bJ Cd As):=cZ W.ki W.aa.cl #["self","between","so_far"] (dg λx H Q E h=>by
  let[_,_,_,_,_,_,_,rfl,_]:=h;rfl) λm H Q E f h=>by
 let[r,rw,S,j,X,b,n,rfl,o,C]:=h;refine[_,(Ab (Ce (Ax Sl (Ed (Um W) (f.mono zY) (pv 0)) (pv 1) (Bf _))
    (Ac (Ay Hw))
    Be)
   (Ab (Ct (Ed (Vm W) (f.mono zY) (pv 0)))
   (Ab (Ce (Ax Dv (pv 2) (Vr W.z W.oy) (Bf _))
    (Ac (Gs Bt I (Kr W) (f.mono zY) I (Cf (Cj (pv 0) I))))
    Be)
   (Ac (Ay Hw))))),?_]
 let N:=o;let[[l,F],i,v,y]:=o;refine[_,I,r,l,_,I,F,I,r,rw,S,j,X,I,N,_,I,I,_,I,?_];rcases C with ⟨A,q⟩|⟨e,R,q⟩|⟨e,R,q⟩
 .exact nT (λz=>A (V.str.inj z)) q
 .refine nF (by rw[Eg e]) ?_
  let k:S+1<=X.length:=(zAs.mp e).1;refine[_,I,r,l,_,I,F,I,r,rw,S,j,X,I,N,k,λp c L=>?_];exact[_,I,I,_,I,dF (λz=>R (V.int.inj z)) (q p c L)]
 .refine nF (by rw[Eg e]) ?_
  let k:S+1<=X.length:=(zAs.mp e).1;refine[_,I,r,l,_,I,F,I,r,rw,S,j,X,I,N,k,λp c L=>?_];let[[U,t],_]:=L;refine[_,I,I,_,I,dT (by rw[R]) ?_];refine[_,I,r,_,U,_,_,I,t,W.aa.cl,W.ah,Gq _ _ _,Ck (by show 1<=1000;decide),λa s=>?_];refine[a,_,I,Aa,λd u A=>[I,d,by rw[Ak A.symm,Aa],?_]];exact q d _ (Ig c s u) (by rw[Iv A,Aa];rfl)
def kQ(N L r:T)(H:Hp)(E:XK)(pl:Nat):No->Prop
 |.at n=>jP N r H E ((pl+n:Nat):Int)
 |.deep=>∀C,Kb r H C->E (.ref L) M C
def jP.kb{z r:T}{H C:Hp}{E:XK}{n:Int}(k:Kb r H C)(h:jP z r H E n):jP z r C E n:=λd L F e=>h d L (k.trans F) e
theorem kQ.kb{z F r:T}{H C:Hp}{E:XK}{pl:Nat}(k:Kb r H C):∀{f},kQ z F r H E pl f->kQ z F r C E pl f
 |.at _,h=>jP.kb k h
 |.deep,h=>λN L=>h N (k.trans L)
theorem kQ.on{z F r:T}{H:Hp}{E:XK}{pl i:Nat}:∀{f},kQ z F r H E pl (f.on i)->kQ z F r H E (pl+i) f
 |.at n,h=>by
  show jP z r H E ((pl+i+n:Nat):Int);rw[v9];exact h
 |.deep,h=>h
def Xx(l:List Nat):Option Nat:=if Io 7 l/\nA l<=1000000 then g (nA l) else M
def bQ(x:J):Prop:=nameV (.str x)=B
def OA(x:J)(n:Nat):Prop:=Xx x.cps.toList=g n
def iY(x:J):Prop:=Lp x.cps.toList≠M
def Xl(ws:List J)(n:Nat):Prop:=((∀x∈ws,x.length<=100)/\ws.head?≠g (O "over"))/\Af bQ iY OA ws n
inductive gV(k:Nat)(CN CD C:T)(m:Nat)(vs:List V)(H:Hp)(E:XK):Prop
 |mk (r:_) (rw:_) (pl:_) (dp:Nat) (row:_) (f:_) (z0:vs=#[.ref r]) (z1:Bu C H r rw pl dp row) (z2:dp<=6) (z3:6<=dp+m) (z4:Fl Bb Ej Xl k dp (row.drop pl) f) (z5:kQ CN CD r H E pl f)
def gU(k:Nat)(Q N C:T)(m:Nat):Sp:=λL H R E=>gV k Q N C m L H E
def EU(κ:A8)(R N C:T)(m:Nat):Sp:=λL H Q E=>dS κ C m L H Q E\/gU 0 R N C m L H Q E
def SQ(κ:A8)(R N C:T)(m:Nat):Sp:=λL H Q E=>fD κ C m L H Q E\/gU 1 R N C m L H Q E
def Wx(κ:A8)(R N C:T)(m:Nat):Sp:=λL H Q E=>bZ κ C m L H Q E\/gU 2 R N C m L H Q E
inductive cF(CN CD C:T)(m:Nat)(vs:List V)(H:Hp)(E:XK):Prop
 |mk (r:_) (rw:_) (pl:_) (dp:Nat) (row:_) (z0:vs=#[.ref r]) (z1:Bu C H r rw pl dp row) (z2:dp<=6) (z3:6<=dp+m) (z4:((∃f,Fl Bb Ej Xl 2 dp (row.drop pl) f/\kQ CN CD r H E pl f)\/∃ws post t d,row.drop pl=ws++post/\Rn Bb Ej 2 ws t d/\dp+d<=6/\(∀x,post.head?=g x->x∉#[O "and",O "or",O ")"])/\jP CN r H E ((pl+ws.length:Nat):Int)))
def dQ(Q N C:T)(m:Nat):Sp:=λL H R E=>cF Q N C m L H E
def MR(κ:A8)(R N C:T)(m:Nat):Sp:=λL H Q E=>fG κ C m L H Q E\/dQ R N C m L H Q E
def Od:Cb #["self","condition"] #["self"] (Av Gw):=by injections
def Of(W:Pm P w K mg base){f:T}(F:Fw K "read_bracket" "Reader.read_bracket" Gw f fd){m:Nat}(Mread_rows:Gf P w K mg base (5*m+8) As "read_rows" #["self"] (Wx (A8.mk Ag An Ao Aq Bd Bj Bp Ba) Cd Cz As m)):Ar P w K mg base (Nt P w) (5*m+9) f fd #["self"] (MR (A8.mk Ag An Ao Aq Bd Bj Bp Ba) Cd Cz As m):=by
 let sc:=Od;refine F.okX sc (λvs H Q E h=>?_) (λa1 A a0 s H vs Q E p h=>?_)
 .rcases h with h|h
  .let[_,_,_,_,_,_,_,_,_,rfl,_]:=h
   rfl
  .let[_,_,_,_,_,rfl,_]:=h
   rfl
 refine[_,(Ab (Fk sc 1 (Fb Mread_rows (p.mono Z) Bt (pv 0)))
   (Ab (Ce (Ax Sl (Ed (Um W) (p.mono Z) (pv 0)) Aj (Bf _))
    (Ac (Gs Bt I (Kr W) (p.mono Z) I (Cf (Cj (pv 0) I))))
    Be)
   (Ab (Ct (Ed (Vm W) (p.mono Z) (pv 0)))
   (Ac (Ay (pv 1)))))),?_]
 rcases h with h|h
 .let[r,rw,c,b,X,l,C,t,d,rfl,k,j,e,dm,x,q]:=h
  let v:=k;let[[y,U],hw,ag,ad]:=k;refine[_,I,r,y,_,I,U,I,.inl [r,rw,c,b,X,l,O ")" :: C,t,d,I,v,j,e,dm,x,(by intro z;exact mC (mI z) G),(by intro z;exact mC (mI z) G),λu H1 n S cd=>?_]];refine Ic #[g (.ref r),g u] rfl ?_;let o:=Lk j;let e1:X[c+l.length]?=g (O ")"):=Cq o;let L:=S;let[[N,R],ah,ac,_]:=S;refine[_,I,r,N,_,I,R,I,r,rw,_,b,X,I,L,I,_,I,nF (by rw[Eg e1]) ?_];refine[_,I,r,N,_,I,R,I,r,rw,_,b,X,I,L,Ij o,λH2 k2 ae=>?_];exact[_,I,q u H2 (n.trans k2) ae (cd.same (k2.nw U))]
 .let[r,rw,c,b,X,rfl,k,x,dm,af]:=h
  let v:=k;let[[y,U],hw,ag,ad]:=k;rcases af with ⟨f,fl,q⟩|⟨l,C,t,d,j,e,dd,i,q⟩
  .exact[_,I,r,y,_,I,U,I,.inr [r,rw,c,b,X,f,I,v,x,dm,fl,q]]
  .refine[_,I,r,y,_,I,U,I,.inl [r,rw,c,b,X,l,C,t,d,I,v,j,e,Z,dd,(λz=>i _ z zZ),(λz=>i _ z zZ),λu H1 n S cd=>?_]]
   refine Ic #[g (.ref r),g u] rfl ?_;let o:=Lk j;let L:=S;let[[N,R],ah,ac,_]:=S;refine[_,I,r,N,_,I,R,I,r,rw,_,b,X,I,L,I,_,I,nT (λz=>Yl o (λz=>i _ z zZ) G (V.str.inj z)) ?_];refine[_,I,r,_,N,_,_,I,R,W.aa.cl,W.ah,Gq _ _ _,Ck (by show 1<=1000;decide),λa ha=>?_];refine[a,_,I,Aa,λd hd ne=>[I,d,by rw[Ak ne.symm,Aa],?_]];exact q d _ (Ig n ha hd) (by rw[Iv ne,Aa])
end
def dG:Option Nat->V
 |some n=>.int (n:Int)
 |none=>.non
inductive HC(vs:List V)(H:Hp)(Q:VK):Prop
 |mk (n:Nat) (z0:vs=#[.int (n:Int)]) (z1:Q (.bl (decide (n<=1000000))) H)
def LP:Sp:=λC H Q L=>HC C H Q
inductive FY(vs:List V)(H:Hp)(Q:VK):Prop
 |mk (x:J) (z0:vs=#[.str x]) (z1:x.length<=100) (z2:Q (dG (Xx x.cps.toList)) H)
def IV:Sp:=λC H Q L=>FY C H Q
inductive R6(CN C:T)(vs:List V)(H:Hp)(E:XK):Prop
 |mk (r:_) (rw:_) (pl:_) (dp:_) (row:_) (z0:vs=#[.ref r]) (z1:Bu C H r rw pl dp row) (z2:(∀x,row[pl]?=g x->x.length<=100/\¬bQ x)) (z3:jP CN r H E (pl:Int))
def FX(N C:T):Sp:=λL H Q E=>HY C L H Q E\/R6 N C L H E
inductive FN(CN C:T)(vs:List V)(H:Hp)(Q:VK)(E:XK):Prop
 |mk (r:_) (rw:_) (pl:_) (dp:_) (row:_) (le:Int) (z0:vs=#[.ref r,.int le]) (z1:Bu C H r rw pl dp row) (z2:((∃x n,row[pl]?=g x/\x.length<=100/\OA x n/\le<=n/\∀H',Kb r H H'->Bu C H' r rw (pl+1) dp row->Q (.int (n:Int)) H')\/((∀x,row[pl]?=g x->x.length<=100/\∀n:Nat,OA x n->(n:Int)<le)/\jP CN r H E (pl:Int))))
def MP(N C:T):Sp:=λL H Q E=>FN N C L H Q E
inductive R8(κ:A8)(CN C:T)(vs:List V)(H:Hp)(E:XK):Prop
 |mk (r:_) (rw:_) (pl:_) (dp:_) (row:_) (z0:vs=#[.ref r]) (z1:Bu C H r rw pl dp row) (z2:(((∀x,row[pl]?=g x->x.length<=100/\∀n,¬OA x n)/\jP CN r H E (pl:Int))\/∃x n,row[pl]?=g x/\x.length<=100/\OA x n/\(∀y,row[pl+1]?=g y->y.length<=100/\∀m:Nat,OA y m->m<n)/\jP CN r H E ((pl+1:Nat):Int)))
def GM(κ:A8)(N C:T):Sp:=λL H Q E=>LN κ C L H Q E\/R8 κ N C L H E
def Rz{n k:Nat}(H:1<=k)(h:n<10^k):Io k (Di n):=by
 let C:=E6 n;let l:=Es H h;refine[?_,l,λz=>?_,Lr n]
 .cases z:Di n with
  |nil=>exact mC z C
  |cons a r=>simp
 .rw[GC n z];rfl
def N8{n:Nat}(h:n<=1000000):OA (tx (Di n)) n:=by
 unfold OA Xx;show(if Io 7 (Di n)/\nA (Di n)<=1000000 then g (nA (Di n)) else M)=g n;rw[Td,mS [Rz Y (Nl h),h]]
def Md{n:Nat}(h:n<10^12):Lp (El n)=g n:=by
 unfold Lp;rw[GE];let c:Rt #[48+n/10%10,48+n%10]:=[I,λc z=>by
  simp only[zAg,zAV,pR]at z;rcases z with rfl | rfl<;>lia]
 let w:Io 10 (Di (n/100)):=Rz Y Z;show(if _ then _ else _)=_;rw[mS [c,w],Td,ON _ _ (zBK _ Y) (zBK _ Y)]
 congr 1
 lia
def A7{C:List J}{pl:Nat}{φ:J->Prop}(h:∀x,C[pl]?=g x->φ x)(z:φ (O "")):φ (Ir C pl):=by
 unfold Ir;cases e:C[pl]? with
 |none=>exact z
 |some x=>exact h x e
section
seal L2.PS L2.PSs L2.PE L2.PA
variable {P:mF} {w:mR} {K:zAa} {mg:J->Option lV} {base:mX} (i:Pm P w K mg base)
def PF:Jc i 2 "is_day" #["thing"] LP:=Os i.z i.qz #["thing"] df λL H Q C h=>by
 let[n,rfl,q]:=h;refine[_,(Ac (Ay (Yh (Gg (Qm i) C (Cf (pv 0))) (Ye (Wy Tg Tg Ah (pv 0) (Vr i.z i.qq)))))),?_];refine[_,I,_,_,I,.int _,_,I,Fc [_,I,_,_,I,I,_,I,dT Z [_,_,I,I,?_]]];show Q (.bl (decide ((n:Int)<=1000000))) H;let e:decide ((n:Int)<=1000000)=decide (n<=1000000):=by
  by_cases c:n<=1000000
  .rw[mV c,mV Z]
  .rw[mQ c,mQ Z]
 rw[e];exact q
def QM:Jc i 3 "day_of" #["word"] IV:=Os i.z i.re #["word","day"] df λN H Q C h=>by
 let[x,rfl,L,q]:=h;refine[_,(Ab (Ce (Et (Eb (Gg (Mp i) C (Dy (pv 0) (Vr i.z i.jj)))))
    (Ac (Ay Kf))
    Be)
   (Ab (Fk N 1 (Dq Kn I (i.z.nn i.dk) (show zCz _=g (.type "int") from rfl) (Cf (pv 0))))
   (Ac (Ay (Iz (Eb (Gg (PF i) C (Cf (pv 1)))) (pv 1) Kf))))),?_]
 let F:tx x.cps.toList=x:=Hq x;generalize x.cps.toList=l at q F;subst F;rw[Dg]at L;refine[_,I,l,7,I,Z,_,I,?_];unfold Xx at q;by_cases c:Io 7 l
 .rw[mV c]
  refine Gr [_,I,_,_,I,G3 c.2.2.2 (λz=>by let:=c.1;rw[z]at this;simp at this) Z,by rw[Dg];lia,?_];refine Ic #[g (.str (tx l)),g (.int ((nA l:Nat):Int))] rfl ?_;refine[_,I,_,I,_,I,?_];by_cases d:nA l<=1000000
  .rw[mS [c,d]]at q
   exact dT d [_,I,q]
  .rw[mK (λz=>d z.2)]at q
   exact dF d q
 .rw[mK (λz=>c z.1)]at q
  rw[mQ c];exact Fc q
def Xs(i:Pm P w K mg base):Gf P w K mg base 3 As "read_name" #["self"] (FX Cd As):=cZ i.jh i.aa.cl #["self","name"] (dg λvs H Q E h=>by
  rcases h with h|h
  .let[_,_,_,_,_,_,rfl,_]:=h
   rfl
  .let[_,_,_,_,_,rfl,_]:=h
   rfl) λo H Q E A h=>by
 refine[_,(Ab (Fk o 1 (Ed (Um i) (A.mono zY) (pv 0)))
   (Ab (Ce (Et (Eb (Gd (Yd i) (A.mono zY) I (Cf (pv 1)))))
    (Ac (Gs Bt I (Kr i) (A.mono zY) I (Cf (Cj (pv 0) I))))
    Be)
   (Ab (Ct (Ed (Vm i) (A.mono zY) (pv 0)))
   (Ac (Ay (pv 1)))))),?_]
 rcases h with h|h
 .let[r,rw,S,C,W,n,rfl,U,e,[l,rfl,b],q]:=h
  let N:=U;let[[X,F],v,j,R]:=U;let y:S+1<=W.length:=(zAs.mp e).1;let u:nameV (.str (tx l))=B:=mV b;refine[_,I,r,X,_,I,F,I,r,rw,S,C,W,I,N,?_];rw[Eg e];refine Ic #[g (.ref r),g (.str (tx l))] rfl ?_;refine[_,I,_,_,I,.str _,WU (by let:=b.1.2;lia),_,I,bF (by rw[u];rfl) ?_];exact[_,I,r,X,_,I,F,I,r,rw,S,C,W,I,N,y,λp f k=>[_,I,q p f k]]
 .let[r,rw,S,C,W,rfl,U,t,q]:=h
  let N:=U;let[[X,F],v,j,R]:=U;refine[_,I,r,X,_,I,F,I,r,rw,S,C,W,I,N,?_];let L:=A7 (φ:=λx=>x.length<=100/\¬bQ x) t [G,by unfold bQ;decide +kernel];generalize Ir W S=x at L;refine Ic #[g (.ref r),g (.str x)] rfl ?_;refine[_,I,_,_,I,.str _,(λz e=>by cases e;let:=L.1;lia),_,I,bT (by rw[zCa.mpr L.2];rfl) ?_];refine[_,I,r,_,X,_,_,I,F,i.aa.cl,i.ah,Gq _ _ _,Ck (by show 1<=1000;decide),λa s=>?_];refine[a,_,I,Aa,λd m c=>[I,d,by rw[Ak c.symm,Aa],?_]];exact q d _ (Ig (Kb.refl _ _) s m) (by rw[Iv c,Aa])
def Zz(i:Pm P w K mg base):Gf P w K mg base 4 As "read_day" #["self","least"] (MP Cd As):=cZ i.ju i.aa.cl #["self","least","day"] (dg λvs H Q E h=>by
  let[_,_,_,_,_,_,rfl,_]:=h;rfl) λt H Q E A h=>by
 let[r,rw,S,l,W,U,rfl,k,v]:=h;refine[_,(Ab (Fk t 2 (Gd (QM i) (A.mono zY) I (Cf (Ed (Um i) (A.mono zY) (pv 0)))))
   (Ab (Ce (PW.pt (Jg (Ax Xr (pv 2) Kf (Bf _)) (Gv (Ax Mm (pv 2) (pv 1) (Bf _)))))
    (Ac (Gs Bt I (Kr i) (A.mono zY) I (Cf (Cj (pv 0) I))))
    Be)
   (Ab (Ct (Ed (Vm i) (A.mono zY) (pv 0)))
   (Ac (Ay (pv 2)))))),?_]
 let N:=k;let[[b,L],hw,ad,ac]:=k;refine[_,I,r,b,_,I,L,I,r,rw,S,l,W,I,N,?_];rcases v with ⟨x,n,e,y,m,s,q⟩|⟨p,q⟩
 .have f:S+1<=W.length:=(zAs.mp e).1
  rw[Eg e];refine[x,I,y,?_];let C:Xx x.cps.toList=g n:=m;rw[C];refine Ic #[g (.ref r),g (.int U),g (.int (n:Int))] rfl ?_;refine[_,I,I,_,I,dF (by intro z;cases z) [_,I,_,I,_,_,I,I,_,I,dF Z ?_]];exact[_,I,r,b,_,I,L,I,r,rw,S,l,W,I,N,f,λu o R=>[_,I,q u o R]]
 .have F:=A7 (φ:=λx=>x.length<=100/\∀n:Nat,OA x n->(n:Int)<U) p [G,λn z=>by unfold OA at z;rw[show Xx (O "").cps.toList=M by ac_nf]at z;cases z]
  generalize Ir W S=x at F;refine[x,I,F.1,?_];cases z:Xx x.cps.toList with
  |none=>
   refine Ic #[g (.ref r),g (.int U),g .non] rfl ?_;refine[_,I,I,_,I,dT I (Fc ?_)];refine[_,I,r,_,b,_,_,I,L,i.aa.cl,i.ah,Gq _ _ _,Ck (by show 1<=1000;decide),λa c=>?_];refine[a,_,I,Aa,λd j X=>[I,d,by rw[Ak X.symm,Aa],?_]];exact q d _ (Ig (Kb.refl _ _) c j) (by rw[Iv X,Aa])
  |some n=>
   let f:=F.2 n z;refine Ic #[g (.ref r),g (.int U),g (.int (n:Int))] rfl ?_;refine[_,I,I,_,I,dF (by intro z;cases z) [_,I,_,I,_,_,I,I,_,I,dT f ?_]];refine[_,I,r,_,b,_,_,I,L,i.aa.cl,i.ah,Gq _ _ _,Ck (by show 1<=1000;decide),λa c=>?_];refine[a,_,I,Aa,λd j X=>[I,d,by rw[Ak X.symm,Aa],?_]];exact q d _ (Ig (Kb.refl _ _) c j) (by rw[Iv X,Aa])
def BJ(i:Pm P w K mg base):Gf P w K mg base 5 As "read_days" #["self"] (GM (A8.mk Ag An Ao Aq Bd Bj Bp Ba) Cd As):=cZ i.ji i.aa.cl #["self","first"] (dg λvs H Q E h=>by
  rcases h with h|h
  .let[_,_,_,_,_,_,_,rfl,_]:=h
   rfl
  .let[_,_,_,_,_,rfl,_]:=h
   rfl) λsc H Q E p h=>by
 refine[_,(Ab (Fk sc 1 (Ph (Zz i) (p.mono zY) Bt (pv 0) (Cf Ah)))
   (Ac (Ay (Fp (QA i) (p.mono zY) I (Dy (pv 1) (Ph (Zz i) (p.mono zY) Bt (pv 0) (Cf (pv 1)))))))),?_]
 let a:∀{n:Nat},n<=1000000->(tx (Di n)).length<=100:=λ{n} h=>by rw[Dg];let:(Di n).length<=7:=Es Y (Nl h);lia
 rcases h with h|h
 .let[r,rw,X,A,W,n,m,rfl,c,l,e2,nm,m1,q]:=h
  let S:=c;let[[j,U],hw,ai,aa]:=c;refine[_,I,r,j,_,I,U,I,r,rw,X,A,W,0,I,S,.inl [_,n,l,a Z,N8 Z,Z,λH1 d F=>?_]];refine Ic #[g (.ref r),g (.int (n:Int))] rfl ?_;let L:=F;let[[C,R],aj,ac,_]:=F;refine[_,I,_,I,r,C,_,I,R,I,_,I,r,rw,X+1,A,W,_,I,L,.inl [_,m,e2,a m1,N8 m1,Z,λH2 u af y k ny nd ne=>?_]];refine[y,k,_,_,I,Aa,λH3 kp f=>[I,?_]];let s:Ae H2 H3:=λb o z=>by
   let v:=Ai z ny;rw[kp b v,Ak v,Ak (Ai z nd)];exact z
  let k3:=d.trans (u.trans (Kb.of s));let[[ag,e],ae,ad,_]:=af;refine q _ _ k3 [[ag,s _ _ e],s _ _ ae,ad,aa] ?_;unfold Bv;exact[y,k,I,Nw.of ((d.trans u).free e ny) f]
 .let[r,rw,X,A,W,rfl,c,ah]:=h
  let S:=c;let[[j,U],hw,ai,aa]:=c;rcases ah with ⟨N,q⟩|⟨x,n,l,x1,k,N,q⟩
  .exact[_,I,r,j,_,I,U,I,r,rw,X,A,W,0,I,S,.inr [λx t=>[(N x t).1,λn z=>mC z ((N x t).2 n)],q]]
  .refine[_,I,r,j,_,I,U,I,r,rw,X,A,W,0,I,S,.inl [x,n,l,x1,k,Z,λH1 d F=>?_]]
   refine Ic #[g (.ref r),g (.int (n:Int))] rfl ?_;let L:=F;let[[C,R],aj,ac,_]:=F;exact[_,I,_,I,r,C,_,I,R,I,_,I,r,rw,X+1,A,W,_,I,L,.inr [λy f=>[(N y f).1,λm z=>by let:=(N y f).2 m z;lia],q.kb d]]
def Oq:Cb #["self","cents"] #["self"] (Av Ht):=by injections
def On(i:Pm P w K mg base){f:T}(F:Fw K "read_amount" "Reader.read_amount" Ht f k):Ar P w K mg base Jv 4 f k #["self"] (DB As):=by
 let sc:=Oq;bv_omega
 .let[_,_,_,_,_,_,rfl,_]:=h
  rfl
 let[r,rw,S,c,X,n,rfl,d,e,l,q]:=h;refine[_,(Ab (UY I I I (i.z.nv i.fw) (λm E W o x=>
    (Ac (Fk sc 1 (Eu (Ku i) (hr.mono Z) o I (Cf (Ed (Um i) (hr.mono Z) (pv 0))))))) (λe=>
    (Ac Ju)))
   (Ab (Ct (Ed (Vm i) (hr.mono Z) (pv 0)))
   (Ac (Ay (pv 1))))),?_]
 let C:=d;let[[b,z],p,N,R]:=d;let u:S+1<=X.length:=(zAs.mp e).1;refine[_,I,r,b,_,I,z,I,r,rw,S,c,X,I,C,?_];rw[Eg e];let t:(El n).length<=900:=by rw[Lm];let:(Di (n/100)).length<=10:=Es Y Z;lia
 refine .inl [El n,I,t,λy L=>?_];rw[Md l];unfold MO;refine Ic #[g (.ref r),g (.int (n:Int))] rfl ?_;refine[_,I,r,b,_,I,L _ _ z,I,r,rw,S,c,X,I,[[b,L _ _ z],L _ _ p,N,R],u,λv j U=>[_,I,q v ((Kb.of L).trans j) U]]
def F2:Jm i 4 As "read_amount" #["self"] (DB As):=Sq i.iy i.aa.cl bd λf C F=>On i F
end
inductive bX(CN CD C:T)(m:Nat)(vs:List V)(H:Hp)(E:XK):Prop
 |mk (r:_) (rw:_) (pl:_) (dp:Nat) (row:_) (wd:_) (rest:_) (z0:vs=#[.ref r,.str wd]) (z1:Bu C H r rw pl dp row) (z2:row.drop pl=wd::rest) (z3:dp<=6) (z4:6<=dp+m) (z5:((dp=6/\kQ CN CD r H E pl .deep)\/(dp<6/\wd=O "not"/\∃f,Fl Bb Ej Xl 0 (dp+1) rest f/\kQ CN CD r H E (pl+1) f)\/(dp<6/\wd=O "("/\((∃f,Fl Bb Ej Xl 2 (dp+1) rest f/\kQ CN CD r H E (pl+1) f)\/∃ws post t d,rest=ws++post/\Rn Bb Ej 2 ws t d/\dp+1+d<=6/\(∀x,post.head?=g x->x∉#[O "and",O "or",O ")"])/\jP CN r H E ((pl+1+ws.length:Nat):Int)))))
def gW(P N C:T)(m:Nat):Sp:=λL H Q E=>bX P N C m L H E
def Wz(κ:A8)(P N C:T)(m:Nat):Sp:=λL H Q E=>gQ κ C m L H Q E\/gW P N C m L H Q E
section
seal L2.PS L2.PSs L2.PE L2.PA
variable {P:mF} {w:mR} {K:zAa} {mg:J->Option lV} {base:mX}
def Jx:Cb #["self","word","condition"] #["self","word"] (Av Fq):=by injections
def Om(W:Pm P w K mg base){f:T}(F:Fw K "read_deeper" "Reader.read_deeper" Fq f fd){m:Nat}(R:Gf P w K mg base (5*m+6) As "read_piece" #["self"] (EU (A8.mk Ag An Ao Aq Bd Bj Bp Ba) Cd Cz As m))(C:Gf P w K mg base (5*m+9) As "read_bracket" #["self"] (MR (A8.mk Ag An Ao Aq Bd Bj Bp Ba) Cd Cz As m)):Ar P w K mg base (Nt P w) (5*m+10) f fd #["self","word"] (Wz (A8.mk Ag An Ao Aq Bd Bj Bp Ba) Cd Cz As (m+1)):=by
 let sc:=Jx;refine F.okX sc (λvs H Q E h=>?_) (λa3 A a2 s H vs Q E hr h=>?_)
 .rcases h with h|h
  .let[_,_,_,_,_,_,_,_,_,_,rfl,_]:=h
   rfl
  .let[_,_,_,_,_,_,_,rfl,_]:=h
   rfl
 refine[_,(Ab (Ce (Ax Dv (Cj (pv 0) I) (Vr W.z W.ir) (Bf _))
    (Ac (Eh Bt I (Zf W.z W.jm W.jn) I (Cf Aj)))
    Be)
   (Ab (Dj (pv 0) (Au Ea (Cj (pv 0) I) Ah) I)
   (Ab (Ct (Ed (Vm W) (hr.mono Z) (pv 0)))
   (Ab (Fk sc 2 (Iz (Ax Dv (pv 1) Aj (Bf _)) (Fp (ZC W) (hr.mono Z) I (Cf (Fb R (hr.mono Z) Bt (pv 0)))) (Fb C (hr.mono Z) Bt (pv 0))))
   (Ab (Dj (pv 0) (Au K6 (Cj (pv 0) I) Ah) I)
   (Ac (Ay (pv 2)))))))),?_]
 rcases h with h|h
 .let[r,rw,L,N,X,l,c,t,d,wd,rfl,rd,dr,dm,d6,n,q]:=h
  let ap:=rd;let[[dx,k],hw,aq,ar]:=rd;refine[_,I,r,_,dx,_,_,I,k,W.aa.cl,W.ai,Ma _ _ _,I,_,I,dF (λz=>by let:=V.int.inj z;lia) ?_];refine[_,I,r,_,dx,_,_,I,k,W.aa.cl,W.ai,Ma _ _ _,_,_,I,I,_,I,r,_,dx,_,I,k,W.aa.cl,W.ai,(by show 3<1000;decide),?_];let ao:Bu As (upd H r (.ins As dx (Ug rw L ((N:Int)+1)))) r rw L ((N:Int)+1) X:=Bu.step (p:=L) ap aq;let k1:Kb r H (upd H r (.ins As dx (Ug rw L ((N:Int)+1)))):=Kb.upd;let lt:=Ij dr;refine[_,I,r,dx,_,I,Aa,I,r,rw,L,_,X,I,ao,lt,λH2 k2 am=>?_];let v:=k1.trans k2;let ah:X.drop (L+1)=l++c:=by
   rw[<- zAQ,dr];rfl
  let S:Bu As H2 r rw (L+1) ((N+1:Nat):Int) X:=am;let af:=S;let[[aj,a],aw,au,_]:=af;rcases n with ⟨rfl,t',rfl,sp⟩|⟨rfl,x,rfl,sp⟩
  .refine[_,I,I,_,I,dT I [_,I,r,aj,_,I,a,I,.inl [r,rw,L+1,N+1,X,l,c,t',d,I,S,ah,sp,Z,Z,λu i k3 ak cd y j ny nd ne=>[y,j,u,I,Aa,I,?_]]]]
   let s4:Ae i (upd (upd (upd i j (.own y)) y (.ins Bj j [])) y (.ins Bj j (Cw "part" u []))):=Nz ny nd;let hy:upd (upd (upd i j (.own y)) y (.ins Bj j [])) y (.ins Bj j (Cw "part" u [])) y=g (.ins Bj j (Cw "part" u [])):=Aa;generalize upd (upd (upd i j (.own y)) y (.ins Bj j [])) y (.ins Bj j (Cw "part" u []))=H4 at s4 hy;refine Ic #[g (.ref r),g (.str (O "not")),g (.ref y)] rfl ?_;let[[U,ai],as,ag,_]:=ak;let an:=s4 _ _ ai;let ay:Bu As H4 r rw (L+1+l.length) ((N+1:Nat):Int) X:=[[U,an],s4 _ _ as,ag,ar];refine[_,I,r,_,U,_,_,I,an,W.aa.cl,W.ai,Ma _ _ _,_,_,I,I,_,I,r,_,U,_,I,an,W.aa.cl,W.ai,(by show 3<1000;decide),_,I,?_];let ed:(((N+1:Nat):Int)-1)=(N:Int):=by lia
   let k4:Kb r H (upd H4 r (.ins As U (Ug rw ((L+1+l.length:Nat):Int) (((N+1:Nat):Int)-1)))):=v.trans (k3.trans ((Kb.of s4).trans Kb.upd));let al:Bu As (upd H4 r (.ins As U (Ug rw ((L+1+l.length:Nat):Int) (((N+1:Nat):Int)-1)))) r rw (L+1+l.length) (N:Int) X:=by
    let:=Bu.step (p:=L+1+l.length) (q:=(((N+1:Nat):Int)-1)) (dx:=U) ay ag;rw[ed]at this⊢;exact this
   refine q _ _ k4 al ?_;unfold Bv;let az:y≠r:=λz=>by rw[z,ai]at ny;cases ny
   refine[y,j,u,I,Nw.of ((v.trans k3).free ai ny) (by rw[Ak az];exact hy),cd.same λb o e=>?_];let e1:=v.later a (H2:=i) b o e;exact((Kb.of s4).trans Kb.upd).nw k b o e1
  .have ax:X.drop (L+1)=x++O ")" :: c:=by rw[ah,zAw];rfl
   refine[_,I,I,_,I,dF (λz=>mC (V.str.inj z) G) [_,I,r,aj,_,I,a,I,.inl [r,rw,L+1,N+1,X,x,c,t,d,I,S,ax,sp,Z,Z,λu i k3 ak cd=>?_]]];refine Ic #[g (.ref r),g (.str (O "(")),g u] rfl ?_;let el:L+1+(x++#[O ")"]).length=L+1+x.length+1:=by rw[zAc];rfl
   rw[el]at q;let av:=ak;let[[U,ai],as,ag,_]:=ak;refine[_,I,r,_,U,_,_,I,ai,W.aa.cl,W.ai,Ma _ _ _,_,_,I,I,_,I,r,_,U,_,I,ai,W.aa.cl,W.ai,(by show 3<1000;decide),_,I,?_];let ed:(((N+1:Nat):Int)-1)=(N:Int):=by lia
   let al:Bu As (upd i r (.ins As U (Ug rw ((L+1+x.length+1:Nat):Int) (((N+1:Nat):Int)-1)))) r rw (L+1+x.length+1) (N:Int) X:=by
    let:=Bu.step (p:=L+1+x.length+1) (q:=(((N+1:Nat):Int)-1)) (dx:=U) av ag;rw[ed]at this⊢;exact this
   refine q _ _ (v.trans (k3.trans Kb.upd)) al (cd.same λb o e=>?_);let e1:=v.later a (H2:=i) b o e;exact(Kb.upd).nw k b o e1
 .let[r,rw,L,N,X,wd,a1,rfl,rd,dr,d6,dm,n]:=h
  let ap:=rd;let[[dx,k],hw,aq,ar]:=rd;refine[_,I,r,_,dx,_,_,I,k,W.aa.cl,W.ai,Ma _ _ _,I,_,I,?_];rcases n with ⟨rfl,q⟩|n
  .exact dT I [Ck (by show 1<=1000;decide),q _ (Kb.refl _ _)]
  let a0:N<6:=by rcases n with h|h<;>exact h.1
  refine dF (λz=>by let:=V.int.inj z;lia) ?_;refine[_,I,r,_,dx,_,_,I,k,W.aa.cl,W.ai,Ma _ _ _,_,_,I,I,_,I,r,_,dx,_,I,k,W.aa.cl,W.ai,(by show 3<1000;decide),?_];let ao:Bu As (upd H r (.ins As dx (Ug rw L ((N:Int)+1)))) r rw L ((N:Int)+1) X:=Bu.step (p:=L) ap aq;let k1:Kb r H (upd H r (.ins As dx (Ug rw L ((N:Int)+1)))):=Kb.upd;let lt:=Ij dr;refine[_,I,r,dx,_,I,Aa,I,r,rw,L,_,X,I,ao,lt,λH2 k2 am=>?_];let v:=k1.trans k2;let ah:X.drop (L+1)=a1:=by
   rw[<- zAQ,dr];rfl
  let S:Bu As H2 r rw (L+1) ((N+1:Nat):Int) X:=am;let af:=S;let[[aj,a],aw,au,_]:=af;rcases n with ⟨_,rfl,f,fl,q⟩|⟨_,rfl,n⟩
  .exact[_,I,I,_,I,dT I [_,I,r,aj,_,I,a,I,.inr [r,rw,L+1,N+1,X,f,I,S,Z,Z,by rw[ah];exact fl,q.kb v]]]
  .refine[_,I,I,_,I,dF (λz=>mC (V.str.inj z) G) [_,I,r,aj,_,I,a,I,.inr [r,rw,L+1,N+1,X,I,S,Z,Z,?_]]]
   rcases n with ⟨f,fl,q⟩|⟨l,c,t,d,e,sp,dd,hp,q⟩
   .exact .inl [f,by rw[ah];exact fl,q.kb v]
   .exact .inr [l,c,t,d,by rw[ah];exact e,sp,Z,hp,q.kb v]
def Sx{ws:List J}{x:J}(h:ws.head?=g x):x∈ws:=List.mem_of_mem_head? h
def Pt:Cb #["self","word"] #["self"] (Av Ib):=by injections
set_option tactic.hygienic true in
def Ov(W:Pm P w K mg base){f:T}{fd:zCA}(F:Fw K "read_piece" "Reader.read_piece" Ib f fd){m:Nat}(al:Gf P w K mg base (5*m+5) As "read_deeper" #["self","word"] (Wz (A8.mk Ag An Ao Aq Bd Bj Bp Ba) Cd Cz As m)):Ar P w K mg base (Nt P w) (5*m+6) f fd #["self"] (EU (A8.mk Ag An Ao Aq Bd Bj Bp Ba) Cd Cz As m):=by
 let sc:=Pt;refine F.okX sc (λvs H Q E h=>?_) (λa3 A a2 s H vs Q E hr h=>?_)
 .rcases h with h|h
  .let[_,_,_,_,_,_,_,_,_,rfl,_]:=h
   rfl
  .let[_,_,_,_,_,_,rfl,_]:=h
   rfl
 refine[_,(Ab (Fk sc 1 (Ed (Um W) (hr.mono Z) (pv 0)))
   (Ab (Ce (PW.pt (Jg (Ax Dv (pv 1) Aj (Bf _)) (Gv (Ax Dv (pv 1) Aj (Bf _)))))
    (Ac (Ay (Ph al (hr.mono Z) Bt (pv 0) (Cf (pv 1)))))
    Be)
   (Ab (Ce (Ax Lh (pv 1) (Du (Aw Aj (Aw Aj (Aw Aj (Dy Aj Aj))))) I)
    (Ac (Gs Bt I (Kr W) (hr.mono Z) I (Cf (Cj (pv 0) I))))
    Be)
   (Ab (Ct (Ed (Vm W) (hr.mono Z) (pv 0)))
   (Ab (Ce (Ax Dv (pv 1) Aj (Bf _))
    (Ac (Ay (Fp (LB W) (hr.mono Z) I (Cf (Fb (Xs W) (hr.mono Z) Bt (pv 0))))))
    Be)
   (Ab (Ce (Ax Dv (pv 1) Aj (Bf _))
    (Ac (Ay (Fp (MM W) (hr.mono Z) I (Cf (Fb (Xs W) (hr.mono Z) Bt (pv 0))))))
    Be)
   (Ab (Ce (Ax Dv (pv 1) Aj (Bf _))
    (Ac (Ay (Fb (BJ W) (hr.mono Z) Bt (pv 0))))
    Be)
   (Ab (Ce (Ax Dv (pv 1) Aj (Bf _))
    (Ac (Ay (Fp (ZM W) (hr.mono Z) I (Cf (Ed (F2 W) (hr.mono Z) (pv 0))))))
    Be)
   (Ac (Ay (L5 (Rg W) I))))))))))),?_]
 rcases h with h|h
 .let[r,rw,N,p,X,v,ai,t,d,rfl,rd,j,sp,dm,d6,q]:=h
  let am:=rd;let[[k,S],hw,an,ah]:=rd;let L:∀{y z:J},y≠z->¬V.str y=V.str z:=λh e=>h (V.str.inj e);let ag:5<=sizeLine:=by rw[zCy];decide
  refine[_,I,r,k,_,I,S,I,r,rw,N,p,X,I,am,?_];cases sp with
  |no sp=>
   rename_i v t d
   let l:X[N]?=g (O "not"):=Cq j;rw[Eg l];refine Ic #[g (.ref r),g (.str (O "not"))] rfl ?_;refine[_,I,I,_,I,dT I (Fc [_,I,r,k,_,I,S,I,_,I,.inl [r,rw,N,p,X,v,ai,.no t,d,_,I,am,j,Z,Z,.inl [I,t,I,sp],λu H' k' ak cd=>q u H' k' ?_ cd]])];rw[zAd,show N+(v.length+1)=N+1+v.length by lia];exact ak
  |br sp=>
   rename_i v d
   let l:X[N]?=g (O "("):=Cq j;rw[Eg l];refine Ic #[g (.ref r),g (.str (O "("))] rfl ?_;refine[_,I,I,_,I,dF (L G) [_,I,I,_,I,dT I [_,I,r,k,_,I,S,I,_,I,.inl [r,rw,N,p,X,v++#[O ")"],ai,t,d,_,I,am,j,Z,Z,.inr [I,v,I,sp],λu H' k' ak cd=>q u H' k' ?_ cd]]]];rw[zAd,show N+((v++#[O ")"]).length+1)=N+1+(v++#[O ")"]).length by lia];exact ak
  |leaf ok=>
   rename_i c
   cases c with
   |alw=>
    let l:X[N]?=g (O "always"):=Cq j;let lt:N+1<=X.length:=Ij j;rw[Eg l];refine Ic #[g (.ref r),g (.str (O "always"))] rfl ?_;refine[_,I,I,_,I,dF (L G) [_,I,I,_,I,dF (L G) ?_]];refine[_,I,ag,λo aa=>[o,_,I,.inr (Da.of Aa),I,I,_,I,bF G ?_]];let R:=Ad aa (.tup #[.str (O "always"),.str (O "cause"),.str (O "thing"),.str (O "days"),.str (O "over")]);let af:Bu As (upd H o (.tup #[.str (O "always"),.str (O "cause"),.str (O "thing"),.str (O "days"),.str (O "over")])) r rw N p X:=[[k,R _ _ S],R _ _ hw,an,ah];refine[_,I,r,k,_,I,R _ _ S,I,r,rw,N,_,X,I,af,lt,λH1 ae U=>?_];let i:=(Kb.of R).trans ae;let C:=U;let[[ad,ac],ao,aj,_]:=U;refine[_,I,I,_,I,dF (L G) ?_];refine[_,I,I,_,I,dF (L G) ?_];refine[_,I,I,_,I,dF (L G) ?_];refine[_,I,I,_,I,dF (L G) ?_];intro y dy ny nd ne;let s2:Ae H1 (upd (upd H1 dy (.own y)) y (.ins Ag dy [])):=Ho ny nd;refine q _ _ (i.trans (Kb.of s2)) [[ad,s2 _ _ ac],s2 _ _ ao,aj,ah] ?_;unfold Bv;exact[y,dy,I,Nw.of (i.free ac ny) Aa]
   |cau nm=>
    let l:X[N]?=g (O "cause"):=Cq j;let lt:N+1<=X.length:=Ij j;rw[Eg l];refine Ic #[g (.ref r),g (.str (O "cause"))] rfl ?_;refine[_,I,I,_,I,dF (L G) [_,I,I,_,I,dF (L G) ?_]];refine[_,I,ag,λo aa=>[o,_,I,.inr (Da.of Aa),I,I,_,I,bF G ?_]];let R:=Ad aa (.tup #[.str (O "always"),.str (O "cause"),.str (O "thing"),.str (O "days"),.str (O "over")]);let af:Bu As (upd H o (.tup #[.str (O "always"),.str (O "cause"),.str (O "thing"),.str (O "days"),.str (O "over")])) r rw N p X:=[[k,R _ _ S],R _ _ hw,an,ah];refine[_,I,r,k,_,I,R _ _ S,I,r,rw,N,_,X,I,af,lt,λH1 ae U=>?_];let i:=(Kb.of R).trans ae;let C:=U;let[[ad,ac],ao,aj,_]:=U;let e1:X[N+1]?=g nm:=Cq (xs:=nm::ai) (by rw[<- zAQ,j];rfl);refine[_,I,I,_,I,dT I [_,I,r,ad,_,I,ac,I,.inl [r,rw,N+1,p,X,nm,I,C,e1,ok,λH2 k2 ak y dy ny nd ne=>[y,dy,_,I,Aa,I,?_]]]];let[[aw,ap],av,au,_]:=ak;let s3:Ae H2 (upd (upd (upd H2 dy (.own y)) y (.ins An dy [])) y (.ins An dy (Cw "name" (.str nm) []))):=Nz ny nd;refine q _ _ (i.trans (k2.trans (Kb.of s3))) [[aw,s3 _ _ ap],s3 _ _ av,au,ah] ?_;unfold Bv;exact[y,dy,I,Nw.of ((i.trans k2).free ap ny) Aa]
   |thi nm=>
    let l:X[N]?=g (O "thing"):=Cq j;let lt:N+1<=X.length:=Ij j;rw[Eg l];refine Ic #[g (.ref r),g (.str (O "thing"))] rfl ?_;refine[_,I,I,_,I,dF (L G) [_,I,I,_,I,dF (L G) ?_]];refine[_,I,ag,λo aa=>[o,_,I,.inr (Da.of Aa),I,I,_,I,bF G ?_]];let R:=Ad aa (.tup #[.str (O "always"),.str (O "cause"),.str (O "thing"),.str (O "days"),.str (O "over")]);let af:Bu As (upd H o (.tup #[.str (O "always"),.str (O "cause"),.str (O "thing"),.str (O "days"),.str (O "over")])) r rw N p X:=[[k,R _ _ S],R _ _ hw,an,ah];refine[_,I,r,k,_,I,R _ _ S,I,r,rw,N,_,X,I,af,lt,λH1 ae U=>?_];let i:=(Kb.of R).trans ae;let C:=U;let[[ad,ac],ao,aj,_]:=U;refine[_,I,I,_,I,dF (L G) ?_];let e1:X[N+1]?=g nm:=Cq (xs:=nm::ai) (by rw[<- zAQ,j];rfl);refine[_,I,I,_,I,dT I [_,I,r,ad,_,I,ac,I,.inl [r,rw,N+1,p,X,nm,I,C,e1,ok,λH2 k2 ak y dy ny nd ne=>[y,dy,_,I,Aa,I,?_]]]];let[[aw,ap],av,au,_]:=ak;let s3:Ae H2 (upd (upd (upd H2 dy (.own y)) y (.ins Ao dy [])) y (.ins Ao dy (Cw "name" (.str nm) []))):=Nz ny nd;refine q _ _ (i.trans (k2.trans (Kb.of s3))) [[aw,s3 _ _ ap],s3 _ _ av,au,ah] ?_;unfold Bv;exact[y,dy,I,Nw.of ((i.trans k2).free ap ny) Aa]
   |day a b=>
    let l:X[N]?=g (O "days"):=Cq j;let lt:N+1<=X.length:=Ij j;rw[Eg l];refine Ic #[g (.ref r),g (.str (O "days"))] rfl ?_;refine[_,I,I,_,I,dF (L G) [_,I,I,_,I,dF (L G) ?_]];refine[_,I,ag,λo aa=>[o,_,I,.inr (Da.of Aa),I,I,_,I,bF G ?_]];let R:=Ad aa (.tup #[.str (O "always"),.str (O "cause"),.str (O "thing"),.str (O "days"),.str (O "over")]);let af:Bu As (upd H o (.tup #[.str (O "always"),.str (O "cause"),.str (O "thing"),.str (O "days"),.str (O "over")])) r rw N p X:=[[k,R _ _ S],R _ _ hw,an,ah];refine[_,I,r,k,_,I,R _ _ S,I,r,rw,N,_,X,I,af,lt,λH1 ae U=>?_];let i:=(Kb.of R).trans ae;let C:=U;let[[ad,ac],ao,aj,_]:=U;refine[_,I,I,_,I,dF (L G) ?_];refine[_,I,I,_,I,dF (L G) ?_];let[a0,ab,b1]:=ok;let e1:X[N+1]?=g (tx (Di a.toNat)):=Cq (xs:=tx (Di a.toNat)::tx (Di b.toNat)::ai) (by rw[<- zAQ,j];rfl);let e2:X[N+1+1]?=g (tx (Di b.toNat)):=Cq (xs:=tx (Di b.toNat)::ai) (by rw[<- zAQ,<- zAQ,j];rfl);refine[_,I,I,_,I,dT I [_,I,r,ad,_,I,ac,I,.inl [r,rw,N+1,p,X,a.toNat,b.toNat,I,C,e1,e2,Z,Z,λu H2 k2 ak cd=>?_]]];rw[show((a.toNat:Nat):Int)=a by lia,show((b.toNat:Nat):Int)=b by lia]at cd;exact q u H2 (i.trans k2) ak (cd.same (i.later ac))
   |ovr c=>
    let l:X[N]?=g (O "over"):=Cq j;let lt:N+1<=X.length:=Ij j;rw[Eg l];refine Ic #[g (.ref r),g (.str (O "over"))] rfl ?_;refine[_,I,I,_,I,dF (L G) [_,I,I,_,I,dF (L G) ?_]];refine[_,I,ag,λo aa=>[o,_,I,.inr (Da.of Aa),I,I,_,I,bF G ?_]];let R:=Ad aa (.tup #[.str (O "always"),.str (O "cause"),.str (O "thing"),.str (O "days"),.str (O "over")]);let af:Bu As (upd H o (.tup #[.str (O "always"),.str (O "cause"),.str (O "thing"),.str (O "days"),.str (O "over")])) r rw N p X:=[[k,R _ _ S],R _ _ hw,an,ah];refine[_,I,r,k,_,I,R _ _ S,I,r,rw,N,_,X,I,af,lt,λH1 ae U=>?_];let i:=(Kb.of R).trans ae;let C:=U;let[[ad,ac],ao,aj,_]:=U;refine[_,I,I,_,I,dF (L G) ?_];refine[_,I,I,_,I,dF (L G) ?_];refine[_,I,I,_,I,dF (L G) ?_];let[c0,c1]:=ok;let e1:X[N+1]?=g (tx (El c.toNat)):=Cq (xs:=tx (El c.toNat)::ai) (by rw[<- zAQ,j];rfl);refine[_,I,I,_,I,dT I [_,I,r,ad,_,I,ac,I,r,rw,N+1,p,X,c.toNat,I,C,e1,Z,λH2 k2 ak y dy ny nd ne=>[y,dy,_,I,Aa,I,?_]]];rw[show((c.toNat:Nat):Int)=c by lia];let[[aw,ap],av,au,_]:=ak;let s3:Ae H2 (upd (upd (upd H2 dy (.own y)) y (.ins Bd dy [])) y (.ins Bd dy (Cw "cents" (.int c) []))):=Nz ny nd
    refine q _ _ (i.trans (k2.trans (Kb.of s3))) [[aw,s3 _ _ ap],s3 _ _ av,au,ah] ?_;unfold Bv;exact[y,dy,I,Nw.of ((i.trans k2).free ap ny) Aa]
 .let[r,rw,N,p,X,a1,rfl,rd,d6,dm,fl,q]:=h
  let am:=rd;let[[k,S],hw,an,ah]:=rd;let L:∀{y z:J},y≠z->¬V.str y=V.str z:=λh e=>h (V.str.inj e);let ag:5<=sizeLine:=by rw[zCy];decide
  refine[_,I,r,k,_,I,S,I,r,rw,N,p,X,I,am,?_];generalize j:X.drop N=ay at fl;cases fl with
  |atom a=>
   let[[ar,ax],a]:=a;cases a with
   |word hx=>
    let hn:Ir X N∉#[O "not",O "(",O "always",O "cause",O "thing",O "days",O "over"]:=by
     unfold Ir;rw[Cq j];cases e:ay.head? with
     |none=>show O "" ∉ _;decide +kernel
     |some x=>exact hx x e
    generalize Ir X N=wd at hn;refine Ic #[g (.ref r),g (.str wd)] rfl ?_;refine[_,I,I,_,I,dF (L λz=>hn (by rw[z];simp)) [_,I,I,_,I,dF (L λz=>hn (by rw[z];simp)) ?_]];refine[_,I,ag,λo aa=>[o,_,I,.inr (Da.of Aa),I,I,_,I,bT ?_ ?_]]
    .rw[mS I]
     let no:Wb (V.str wd) #[V.str (O "always"),V.str (O "cause"),V.str (O "thing"),V.str (O "days"),V.str (O "over")]=lX:=by
      unfold Wb;simp only[zAg,zAV,pR,xT]at hn;let[_,_,h1,h2,h3,h4,h5]:=hn;let ev:∀{a:J},wd≠a->Px (V.str a) (V.str wd)=lX:=λn=>beq_eq_false_iff_ne.mpr (λz=>n z.symm);rw[zBm,zBm,zBm,zBm,zBm,List.any_nil,ev h1,ev h2,ev h3,ev h4,ev h5];rfl
     rw[no];rfl
    let R:=Ad aa (.tup #[.str (O "always"),.str (O "cause"),.str (O "thing"),.str (O "days"),.str (O "over")]);refine[_,I,r,_,k,_,_,I,R _ _ S,W.aa.cl,W.ah,Gq _ _ _,Ck (by show 1<=1000;decide),λa ha=>?_];refine[a,_,I,Aa,λd hd ne=>[I,d,by rw[Ak ne.symm,Aa],?_]];exact q d _ (Ig (Kb.of R) ha hd) (by rw[Iv ne,Aa];rfl)
   |cause hx=>
    rename_i v
    let l:X[N]?=g (O "cause"):=Cq j;let lt:N+1<=X.length:=Ij j;rw[Eg l];refine Ic #[g (.ref r),g (.str (O "cause"))] rfl ?_;refine[_,I,I,_,I,dF (L G) [_,I,I,_,I,dF (L G) ?_]];refine[_,I,ag,λo aa=>[o,_,I,.inr (Da.of Aa),I,I,_,I,bF G ?_]];let R:=Ad aa (.tup #[.str (O "always"),.str (O "cause"),.str (O "thing"),.str (O "days"),.str (O "over")]);let af:Bu As (upd H o (.tup #[.str (O "always"),.str (O "cause"),.str (O "thing"),.str (O "days"),.str (O "over")])) r rw N p X:=[[k,R _ _ S],R _ _ hw,an,ah];refine[_,I,r,k,_,I,R _ _ S,I,r,rw,N,_,X,I,af,lt,λH1 ae U=>?_];let i:=(Kb.of R).trans ae;let C:=U;let[[ad,ac],ao,aj,_]:=U;let aq:X.drop (N+1)=v:=by rw[<- zAQ,j];rfl
    let e1:=Cq aq;exact[_,I,I,_,I,dT I [_,I,r,ad,_,I,ac,I,.inr [r,rw,N+1,p,X,I,C,(λx as=>[ar x (zAh _ (Sx (e1▸as))),hx x (e1▸as)]),jP.kb i q]]]
   |thing hx=>
    rename_i v
    let l:X[N]?=g (O "thing"):=Cq j;let lt:N+1<=X.length:=Ij j;rw[Eg l];refine Ic #[g (.ref r),g (.str (O "thing"))] rfl ?_;refine[_,I,I,_,I,dF (L G) [_,I,I,_,I,dF (L G) ?_]];refine[_,I,ag,λo aa=>[o,_,I,.inr (Da.of Aa),I,I,_,I,bF G ?_]];let R:=Ad aa (.tup #[.str (O "always"),.str (O "cause"),.str (O "thing"),.str (O "days"),.str (O "over")]);let af:Bu As (upd H o (.tup #[.str (O "always"),.str (O "cause"),.str (O "thing"),.str (O "days"),.str (O "over")])) r rw N p X:=[[k,R _ _ S],R _ _ hw,an,ah];refine[_,I,r,k,_,I,R _ _ S,I,r,rw,N,_,X,I,af,lt,λH1 ae U=>?_];let i:=(Kb.of R).trans ae;let C:=U;let[[ad,ac],ao,aj,_]:=U;refine[_,I,I,_,I,dF (L G) ?_];let aq:X.drop (N+1)=v:=by rw[<- zAQ,j];rfl
    let e1:=Cq aq;exact[_,I,I,_,I,dT I [_,I,r,ad,_,I,ac,I,.inr [r,rw,N+1,p,X,I,C,(λx as=>[ar x (zAh _ (Sx (e1▸as))),hx x (e1▸as)]),jP.kb i q]]]
   |over hx=>exact mC I ax
   |day1 hx=>
    rename_i v
    let l:X[N]?=g (O "days"):=Cq j;let lt:N+1<=X.length:=Ij j;rw[Eg l];refine Ic #[g (.ref r),g (.str (O "days"))] rfl ?_;refine[_,I,I,_,I,dF (L G) [_,I,I,_,I,dF (L G) ?_]];refine[_,I,ag,λo aa=>[o,_,I,.inr (Da.of Aa),I,I,_,I,bF G ?_]];let R:=Ad aa (.tup #[.str (O "always"),.str (O "cause"),.str (O "thing"),.str (O "days"),.str (O "over")]);let af:Bu As (upd H o (.tup #[.str (O "always"),.str (O "cause"),.str (O "thing"),.str (O "days"),.str (O "over")])) r rw N p X:=[[k,R _ _ S],R _ _ hw,an,ah];refine[_,I,r,k,_,I,R _ _ S,I,r,rw,N,_,X,I,af,lt,λH1 ae U=>?_];let i:=(Kb.of R).trans ae;let C:=U;let[[ad,ac],ao,aj,_]:=U;refine[_,I,I,_,I,dF (L G) ?_];refine[_,I,I,_,I,dF (L G) ?_];let aq:X.drop (N+1)=v:=by rw[<- zAQ,j];rfl
    let e1:=Cq aq;exact[_,I,I,_,I,dT I [_,I,r,ad,_,I,ac,I,.inr [r,rw,N+1,p,X,I,C,.inl [(λx as=>[ar x (zAh _ (Sx (e1▸as))),hx x (e1▸as)]),jP.kb i q]]]]
   |day2 hd hx=>
    rename_i x n v
    let l:X[N]?=g (O "days"):=Cq j;let lt:N+1<=X.length:=Ij j;rw[Eg l];refine Ic #[g (.ref r),g (.str (O "days"))] rfl ?_;refine[_,I,I,_,I,dF (L G) [_,I,I,_,I,dF (L G) ?_]];refine[_,I,ag,λo aa=>[o,_,I,.inr (Da.of Aa),I,I,_,I,bF G ?_]];let R:=Ad aa (.tup #[.str (O "always"),.str (O "cause"),.str (O "thing"),.str (O "days"),.str (O "over")]);let af:Bu As (upd H o (.tup #[.str (O "always"),.str (O "cause"),.str (O "thing"),.str (O "days"),.str (O "over")])) r rw N p X:=[[k,R _ _ S],R _ _ hw,an,ah];refine[_,I,r,k,_,I,R _ _ S,I,r,rw,N,_,X,I,af,lt,λH1 ae U=>?_];let i:=(Kb.of R).trans ae;let C:=U;let[[ad,ac],ao,aj,_]:=U;refine[_,I,I,_,I,dF (L G) ?_];refine[_,I,I,_,I,dF (L G) ?_];let aq:X.drop (N+1)=x::v:=by rw[<- zAQ,j];rfl
    let e1:X[N+1]?=g x:=Cq aq;let az:X.drop (N+1+1)=v:=by rw[<- zAQ,aq];rfl
    let e2:=Cq az;exact[_,I,I,_,I,dT I [_,I,r,ad,_,I,ac,I,.inr [r,rw,N+1,p,X,I,C,.inr [x,n,e1,ar x zZ,hd,(λy hy=>[ar y (zAh _ (zAh _ (Sx (e2▸hy)))),hx y (e2▸hy)]),jP.kb i q]]]]
  |deep h hx=>
   rename_i x v
   let l:X[N]?=g x:=Cq j;rw[Eg l];refine Ic #[g (.ref r),g (.str x)] rfl ?_;rcases hx with rfl|rfl
   .exact[_,I,I,_,I,dT I (Fc [_,I,r,k,_,I,S,I,_,I,.inr [r,rw,N,p,X,_,_,I,am,j,d6,dm,.inl [Z,q]]])]
   .exact[_,I,I,_,I,dF (L G) [_,I,I,_,I,dT I [_,I,r,k,_,I,S,I,_,I,.inr [r,rw,N,p,X,_,_,I,am,j,d6,dm,.inl [Z,q]]]]]
  |no h fl=>
   rename_i v f
   let l:X[N]?=g (O "not"):=Cq j;rw[Eg l];refine Ic #[g (.ref r),g (.str (O "not"))] rfl ?_;exact[_,I,I,_,I,dT I (Fc [_,I,r,k,_,I,S,I,_,I,.inr [r,rw,N,p,X,_,_,I,am,j,d6,dm,.inr (.inl [h,I,f,fl,q.on])]])]
  |br h fl=>
   rename_i v f
   let l:X[N]?=g (O "("):=Cq j;rw[Eg l];refine Ic #[g (.ref r),g (.str (O "("))] rfl ?_;exact[_,I,I,_,I,dF (L G) [_,I,I,_,I,dT I [_,I,r,k,_,I,S,I,_,I,.inr [r,rw,N,p,X,_,_,I,am,j,d6,dm,.inr (.inr [h,I,.inl [f,fl,q.on]])]]]]
  |«open» sp dd hp=>
   rename_i v t d ai
   let l:X[N]?=g (O "("):=Cq j;rw[Eg l];refine Ic #[g (.ref r),g (.str (O "("))] rfl ?_;let q':jP Cd r H E ((N+1+v.length:Nat):Int):=by rw[v9];exact q
   exact[_,I,I,_,I,dF (L G) [_,I,I,_,I,dT I [_,I,r,k,_,I,S,I,_,I,.inr [r,rw,N,p,X,_,_,I,am,j,d6,dm,.inr (.inr [Z,I,.inr [v,ai,t,d,I,sp,dd,hp,q']])]]]]
def Ry:Cb #["self","pieces"] #["self"] (Av Jn):=by injections
def Rm(X:Pm P w K mg base){f:T}(F:Fw K "read_row" "Reader.read_row" Jn f fd){m:Nat}(S:Gf P w K mg base (5*m+6) As "read_piece" #["self"] (EU (A8.mk Ag An Ao Aq Bd Bj Bp Ba) Cd Cz As m)):Ar P w K mg base (Nt P w) (5*m+7) f fd #["self"] (SQ (A8.mk Ag An Ao Aq Bd Bj Bp Ba) Cd Cz As m):=by
 let sc:=Ry;refine F.okX sc (λvs H Q E h=>?_) (λc0 A b8 s H vs Q E hr h=>?_)
 .rcases h with h|h
  .let[_,_,_,_,_,_,_,_,_,rfl,_]:=h
   rfl
  .let[_,_,_,_,_,_,rfl,_]:=h
   rfl
 refine[_,(Ab (Fk sc 1 (Ca (Cf (Fb S (hr.mono Z) Bt (pv 0)))))
   (Ab (U3 oZ (Eb (Ph (M8 X) (hr.mono Z) Bt (pv 0) (Dy Aj (Ix Bg X.z X.ag (Cf (pv 1))))))
    (Ac (Ct (Fg mJ mM mL Dx (pv 1) (Cf (Fb S (hr.mono Z) Bt (pv 0)))))))
   (Ac (Ay (Iz (Ax Dv (Ix Bg X.z X.ag (Cf (pv 1))) Ah (Bf _)) (Cr By (pv 1) Ah (λ_ _=>I)) (Fp (eU X) (hr.mono Z) I (Cf (pv 1)))))))),?_]
 refine Je λN eN=>?_;let bu:(∃r rw p,∃U:Nat,∃a C,vs=#[.ref r]/\Bu As H r rw p U a/\U<=6/\6<=U+m/\Fl Bb Ej Xl 0 U (a.drop p) C/\kQ Cd Cz r H E p C) \/
   ∃r rw p,∃U:Nat,∃a k ts L d,vs=#[.ref r]/\Bu As H r rw p U a/\a.drop p=Dh (O "and") k++L/\Spls Bb Ej 0 k ts d/\d<=m/\U+d<=6/\1<=ts.length/\ts.length<=8 /\
    ((L.head?≠g (O "and")/\∃t,((ts.length=1/\ts[0]?=g t)\/(2<=ts.length/\t=.al ts))/\∀u H',Kb r H H'->Bu As H' r rw (p+(Dh (O "and") k).length) U a->Bv (A8.mk Ag An Ao Aq Bd Bj Bp Ba) (Nw H H') u t->Q u H') \/
     (∃ws C,L=O "and" :: ws/\ts.length<8/\U<=6/\6<=U+m/\Fl Bb Ej Xl 0 U ws C/\kQ Cd Cz r H E (p+(Dh (O "and") k).length+1) C) \/
     (∃ws,L=O "and" :: ws/\ts.length=8/\jP Cd r H E ((p+(Dh (O "and") k).length:Nat)+1))):=by
  rcases h with h|h
  .let[r,rw,p,U,a,ws,L,t,d,rfl,rd,dr,sp,dm,d6,hq,q]:=h
   refine .inr [r,rw,p,U,a,?_];cases sp with
   |row1 h=>exact[#[ws],#[t],L,d,I,rd,by rw[dr];show _=(ws++[])++L;rw[zAA],.cons h (zAm _) .nil,dm,d6,zAm _,(by show 1<=8;decide),.inl [hq,t,.inl [I,I],by rw[show Dh (O "and") #[ws]=ws from zAA _];exact q]]
   |rowN h h2 h8=>exact[_,_,L,d,I,rd,dr,h,dm,d6,Z,h8,.inl [hq,_,.inr [h2,I],q]]
  .let[r,rw,p,U,a,C,rfl,rd,d6,dm,fl,q]:=h
   generalize dr:a.drop p=b0 at fl;cases fl with
   |row0 fl=>exact .inl [r,rw,p,U,a,C,I,rd,d6,dm,by rw[dr];exact fl,q]
   |rowN h hd l1 l8 fl=>exact .inr [r,rw,p,U,a,_,_,_,_,I,rd,dr,h,Z,hd,l1,Z,.inr (.inl [_,_,I,l8,d6,dm,fl,q.on])]
   |row9 h hd l9=>exact .inr [r,rw,p,U,a,_,_,_,_,I,rd,dr,h,Z,hd,Z,Z,.inr (.inr [_,I,l9,q])]
 rcases bu with ⟨r,rw,p,U,a,C,rfl,rd,d6,dm,fl,q⟩|⟨r,rw,p,U,a,k,ts,L,d,rfl,rd,dr,aw,dm,d6,l1,l8,a7⟩
 .have av:=rd
  let[[dx,ad],hw,bi,ai]:=rd;exact[_,I,r,dx,_,I,ad,I,.inr [r,rw,p,U,a,C,I,av,d6,dm,fl,q]]
 let av:=rd;let[[dx,ad],hw,bi,ai]:=rd;let b9:1<=sizeLine:=by rw[zCy];decide
 let lw:=aw.len;let R:ts[0]?=g (ts[0]'(Z)):=zAi _;let[w0,d0,aq,b4,bc]:=aw.get R;generalize ts[0]'(Z)=t0 at R bc;let bv:∃x,k=w0::x:=by
  cases k with
  |nil=>simp at aq
  |cons v vs=>exact[vs,by simp at aq;rw[aq]]
 let[x,rfl]:=bv;let bx:∃b5,ts=t0::b5:=by
  cases ts with
  |nil=>simp at R
  |cons v vs=>exact[vs,by simp at R;rw[R]]
 let[b5,rfl]:=bx;rw[Dh,zAw]at dr;let b3:∀(xs:List (List J)),(Dm (O "and") xs++L).head?≠g (O "and")\/0=0:=λxs=>by
  exact .inr I
 refine[_,I,r,dx,_,I,ad,I,.inl [r,rw,p,U,a,w0,Dm (O "and") x++L,t0,d0,I,av,dr,bc,Z,Z,λu0 H1 k1 bf bt=>[b9,λpc ay=>?_]]];let[[be,bb],bj,a6,_]:=bf;let s2:=Ad ay (.lst #[u0]);refine Ic #[g (.ref r),g (.ref pc)] rfl ?_
 first|refine Fn eN λN eN=>?_|subst eN
 let ah:H pc=M:=k1.free bb ay;let am:pc≠r:=λz=>by rw[z,ad]at ah;cases ah
 letI W:Nat->St->Hp->Prop:=λm σ H2=>∃i ys,m=x.length-i/\i<=x.length/\σ=#[g (.ref r),g (.ref pc)]/\Kb r H H2/\Bu As H2 r rw (p+(w0++Dm (O "and") (x.take i)).length) U a /\
  a.drop (p+(w0++Dm (O "and") (x.take i)).length)=Dm (O "and") (x.drop i)++L/\H2 pc=g (.lst ys)/\ys.length=i+1/\CdsAt (A8.mk Ag An Ao Aq Bd Bj Bp Ba) (kK pc (Nw H H2)) ys (t0::b5.take i)
 let lt:x.length=b5.length:=by rw[zAd,zAd]at lw;lia
 refine[W,[_,0,#[u0],I,zAy _,I,k1.trans (Kb.of s2),?_,?_,Aa,I,?_],?_]
 .rw[zBA]
  show Bu As _ r rw (p+(w0++[]).length) U a;rw[zAA];exact[[be,s2 _ _ bb],s2 _ _ bj,a6,ai]
 .rw[zBA,sI]
  show a.drop (p+(w0++[]).length)=_;rw[zAA];exact Lk dr
 .rw[zBA]
  unfold CdsAt;refine[bt.same λb o e=>?_,by unfold CdsAt;trivial];let[e0,e]:=Nw.at e;let n:b≠pc:=Ai e ay;exact kK.of n (Nw.of e0 (s2 _ _ e))
 rintro m' σ H2 ⟨i,ys,rfl,il,rfl,k2,az,ab,ac,ly,ar⟩;let ap:=az;let[[a4,an],bq,a3,_]:=az;let b2:((ys.length:Nat):Int)=(i:Int)+1:=by lia
 refine[_,I,r,a4,_,I,an,I,_,I,pc,_,I,.inl (Al.of ac),r,rw,_,U,a,_,_,I,ap,?_];by_cases c:i<x.length
 ·
  let ew:x.drop i=x[i]::x.drop (i+1):=zBQ c;let au:b5[i]?=g (b5[i]'(Z)):=zAi _;let al:x[i]?=g x[i]:=zAi c;let[wi,di,a5,b1,ba]:=aw.get (i:=i+1) (t:=b5[i]'(Z)) (by simpa using au);let as:x[i]=wi:=by
   let:x[i]?=g wi:=by simpa using a5
   rw[al]at this;exact mI this
  generalize b5[i]'(Z)=ti at au ba;rw[as]at ew al;rw[ew,Dm,zBc]at ab;let e0:a[p+(w0++Dm (O "and") (x.take i)).length]?=g (O "and"):=Cq ab;refine .inr (.inl [e0,by rw[zAd]at l8;lia,λH3 k3 af=>[_,I,?_]]);refine Fc [λb7 H'=>W (x.length-(i+1)) b7 H',λb7 H' h=>[_,Z,h],?_];let a0:=k2.trans k3;let aa:=k3 _ _ ac am;let ag:=af;let[[ax,aj],bl,a9,_]:=af;let ak:a.drop (p+(w0++Dm (O "and") (x.take i)).length+1)=wi++(Dm (O "and") (x.drop (i+1))++L):=by
   rw[<- zAQ,ab,zAw];rfl
  refine[_,I,.inl [I,_,Al.of aa],_,I,r,ax,_,I,aj,I,.inl [r,rw,_,U,a,wi,Dm (O "and") (x.drop (i+1))++L,ti,di,I,ag,ak,ba,Z,Z,λu H4 k4 bo bw=>?_]];let a2:=k4 _ _ aa am;let[[br,bg],bh,a8,_]:=bo;refine[pc,_,_,I,I,a2,by rw[zCy,ly];rw[zAd]at l8;lia,i+1,ys++#[u],I,c,I,?_,?_,?_,Aa,by rw[zAc,ly];rfl,?_]
  .exactλb o e n=>by
    rw[Ak (Ai e ah)];exact(a0.trans k4) b o e n
  .have en:p+(w0++Dm (O "and") (x.take (i+1))).length=p+(w0++Dm (O "and") (x.take i)).length+1+wi.length:=by
    rw[Df al,Mb,zAc,zAc,zAc,zAd];lia
   rw[en];let bz:rw≠pc:=Ai hw ah;exact[[br,by rw[Ak am.symm];exact bg],by rw[Ak bz];exact bh,a8,ai]
  .have en:p+(w0++Dm (O "and") (x.take (i+1))).length=p+(w0++Dm (O "and") (x.take i)).length+1+wi.length:=by
    rw[Df al,Mb,zAc,zAc,zAc,zAd];lia
   rw[en];exact Lk ak
  .rw[Df au,<- zBc]
   refine CdsAt.snoc (ar.same λb o e=>?_) (bw.same λb o e=>?_)
   .let[n,e]:=kK.at e
    let[ae,e]:=Nw.at e;refine kK.of n (Nw.of ae ?_);rw[Ak n];let nr:b≠r:=λz=>by rw[z,ad]at ae;cases ae
    exact(k3.trans k4) b o e nr
   .have e1:=a0.later aj (H2:=H4) b o e
    let[ae,e2]:=Nw.at e1;let n:b≠pc:=λz=>by
     let[e3,_]:=Nw.at e;rw[z,aa]at e3;cases e3
    exact kK.of n (Nw.of ae (by rw[Ak n];exact e2))
 ·
  let ei:i=x.length:=by lia
  subst ei;rw[zCv,zAB]at *;let ew:Dh (O "and") (w0::x)=w0++Dm (O "and") x:=rfl;rw[ew]at a7;rcases a7 with ⟨hq,t,et,q⟩|⟨ws,C,rfl,l7,bn,bp,fl,q⟩|⟨ws,rfl,l9,q⟩
  .refine .inl [Yl ab hq G,_,I,Gr ?_]
   rw[show b5.take x.length=b5 by rw[lt,zAB]]at ar;let ao:CdsAt (A8.mk Ag An Ao Aq Bd Bj Bp Ba) (Nw H H2) ys (t0::b5):=ar.same λb o e=>(kK.at e).2;rcases et with ⟨n1,et⟩|⟨n2,rfl⟩
   .have y1:ys.length=1:=by rw[zAd]at n1;lia
    first|refine Fn eN λN eN=>?_|subst eN
    refine[_,I,pc,_,I,.inl (Al.of ac),I,_,I,dT (by rw[y1];rfl) ?_];let ey:ys[0]?=g (ys[0]'(Z)):=zAi _;let[t',a1,bm]:=ao.get ey;rw[et]at a1;cases a1;exact[_,I,pc,_,_,_,I,I,Al.of ac,Gk (j:=0) ey,q _ _ k2 ap bm]
   .have y2:ys.length≠1:=by rw[zAd]at n2;lia
    first|refine Fn eN λN eN=>?_|subst eN
    refine[_,I,pc,_,I,.inl (Al.of ac),I,_,I,dF (λz=>y2 (by let:=V.int.inj z;lia)) [_,I,λy dy ny nd ne=>?_]];let s3:Ae H2 (upd (upd H2 dy (.own y)) y (.ins Bp dy [])):=Ho ny nd;refine[y,dy,pc,ys,I,Aa,s3 _ _ ac,λl H4 nl kp hy hl=>[I,?_]];let k4:Ae H2 H4:=λb o e=>by rw[kp b (Ai e ny) (Ai (s3 _ _ e) nl)];exact s3 _ _ e
    refine q _ _ (k2.trans (Kb.of k4)) [[a4,k4 _ _ an],k4 _ _ bq,a3,ai] ?_;unfold Bv;exact[y,dy,l,ys,I,Nw.of (k2.free an ny) hy,Nw.of (k2.free an (s3.free nl)) hl,ao.same (Nw.grow λb o _ e=>k4 _ _ e)]
  .have e0:a[p+(w0++Dm (O "and") x).length]?=g (O "and"):=Cq ab
   refine .inr (.inl [e0,by rw[zAd]at l7;lia,λH3 k3 af=>[_,I,?_]]);refine Fc [λ_ _=>False,λ_ _ h=>h.elim,?_];let aa:=k3 _ _ ac am;let ag:=af;let[[ax,aj],bl,a9,_]:=af;let ak:a.drop (p+(w0++Dm (O "and") x).length+1)=ws:=by
    rw[<- zAQ,ab];rfl
   exact[_,I,.inl [I,_,Al.of aa],_,I,r,ax,_,I,aj,I,.inr [r,rw,_,U,a,C,I,ag,bn,bp,by rw[ak];exact fl,q.kb (k2.trans k3)]]
  .have e0:a[p+(w0++Dm (O "and") x).length]?=g (O "and"):=Cq ab
   exact .inr (.inr [e0,by rw[zAd]at l9;lia,q.kb k2])
def Qn:Cb #["self","rows"] #["self"] (Av Iu):=by injections
def Qt(X:Pm P w K mg base){f:T}(F:Fw K "read_rows" "Reader.read_rows" Iu f fd){m:Nat}(U:Gf P w K mg base (5*m+7) As "read_row" #["self"] (SQ (A8.mk Ag An Ao Aq Bd Bj Bp Ba) Cd Cz As m)):Ar P w K mg base (Nt P w) (5*m+8) f fd #["self"] (Wx (A8.mk Ag An Ao Aq Bd Bj Bp Ba) Cd Cz As m):=by
 let sc:=Qn;refine F.okX sc (λvs H Q E h=>?_) (λc1 A b9 s H vs Q E hr h=>?_)
 .rcases h with h|h
  .let[_,_,_,_,_,_,_,_,_,rfl,_]:=h
   rfl
  .let[_,_,_,_,_,_,rfl,_]:=h
   rfl
 refine[_,(Ab (Fk sc 1 (Ca (Cf (Fb U (hr.mono Z) Bt (pv 0)))))
   (Ab (U3 oZ (Eb (Ph (M8 X) (hr.mono Z) Bt (pv 0) (Dy Aj (Ix Bg X.z X.ag (Cf (pv 1))))))
    (Ac (Ct (Fg mJ mM mL Dx (pv 1) (Cf (Fb U (hr.mono Z) Bt (pv 0)))))))
   (Ac (Ay (Iz (Ax Dv (Ix Bg X.z X.ag (Cf (pv 1))) Ah (Bf _)) (Cr By (pv 1) Ah (λ_ _=>I)) (Fp (ZD X) (hr.mono Z) I (Cf (pv 1)))))))),?_]
 refine Je λN eN=>?_;let bv:(∃r rw p,∃S:Nat,∃b5 C,vs=#[.ref r]/\Bu As H r rw p S b5/\S<=6/\6<=S+m/\Fl Bb Ej Xl 1 S (b5.drop p) C/\kQ Cd Cz r H E p C) \/
   ∃r rw p,∃S:Nat,∃b5 k ts L d,vs=#[.ref r]/\Bu As H r rw p S b5/\b5.drop p=Dh (O "or") k++L/\Spls Bb Ej 1 k ts d/\d<=m/\S+d<=6/\L.head?≠g (O "and")/\1<=ts.length/\ts.length<=8 /\
    ((L.head?≠g (O "or")/\∃t,((ts.length=1/\ts[0]?=g t)\/(2<=ts.length/\t=.so ts))/\∀u H',Kb r H H'->Bu As H' r rw (p+(Dh (O "or") k).length) S b5->Bv (A8.mk Ag An Ao Aq Bd Bj Bp Ba) (Nw H H') u t->Q u H') \/
     (∃ws C,L=O "or" :: ws/\ts.length<8/\S<=6/\6<=S+m/\Fl Bb Ej Xl 1 S ws C/\kQ Cd Cz r H E (p+(Dh (O "or") k).length+1) C) \/
     (∃ws,L=O "or" :: ws/\ts.length=8/\jP Cd r H E ((p+(Dh (O "or") k).length:Nat)+1))):=by
  rcases h with h|h
  .let[r,rw,p,S,b5,ws,L,t,d,rfl,rd,dr,sp,dm,d6,ha,hq,q]:=h
   refine .inr [r,rw,p,S,b5,?_];cases sp with
   |rows1 h=>exact[#[ws],#[t],L,d,I,rd,by rw[dr];show _=(ws++[])++L;rw[zAA],.cons h (zAm _) .nil,dm,d6,ha,zAm _,(by show 1<=8;decide),.inl [hq,t,.inl [I,I],by rw[show Dh (O "or") #[ws]=ws from zAA _];exact q]]
   |rowsN h h2 h8=>exact[_,_,L,d,I,rd,dr,h,dm,d6,ha,Z,h8,.inl [hq,_,.inr [h2,I],q]]
  .let[r,rw,p,S,b5,C,rfl,rd,d6,dm,fl,q]:=h
   generalize dr:b5.drop p=b1 at fl;cases fl with
   |rows0 fl=>exact .inl [r,rw,p,S,b5,C,I,rd,d6,dm,by rw[dr];exact fl,q]
   |rowsN h hd l1 l8 fl=>exact .inr [r,rw,p,S,b5,_,_,_,_,I,rd,dr,h,Z,hd,(λz=>mC (mI z) G),l1,Z,.inr (.inl [_,_,I,l8,d6,dm,fl,q.on])]
   |rows9 h hd l9=>exact .inr [r,rw,p,S,b5,_,_,_,_,I,rd,dr,h,Z,hd,(λz=>mC (mI z) G),Z,Z,.inr (.inr [_,I,l9,q])]
 rcases bv with ⟨r,rw,p,S,b5,C,rfl,rd,d6,dm,fl,q⟩|⟨r,rw,p,S,b5,k,ts,L,d,rfl,rd,dr,aw,dm,d6,ha,l1,l8,a8⟩
 .have av:=rd
  let[[dx,ad],hw,bj,ai]:=rd;exact[_,I,r,dx,_,I,ad,I,.inr [r,rw,p,S,b5,C,I,av,d6,dm,fl,q]]
 let av:=rd;let[[dx,ad],hw,bj,ai]:=rd;let c0:1<=sizeLine:=by rw[zCy];decide
 let lw:=aw.len;let R:ts[0]?=g (ts[0]'(Z)):=zAi _;let[w0,d0,aq,b4,be]:=aw.get R;generalize ts[0]'(Z)=t0 at R be;let bw:∃a,k=w0::a:=by
  cases k with
  |nil=>simp at aq
  |cons v vs=>exact[vs,by simp at aq;rw[aq]]
 let[a,rfl]:=bw;let bz:∃b7,ts=t0::b7:=by
  cases ts with
  |nil=>simp at R
  |cons v vs=>exact[vs,by simp at R;rw[R]]
 let[b7,rfl]:=bz;rw[Dh,zAw]at dr;let a6:∀(xs:List (List J)),(Dm (O "or") xs++L).head?≠g (O "and"):=λxs=>by
  cases xs with
  |nil=>exact ha
  |cons x xs=>exactλz=>mC (mI z) G
 refine[_,I,r,dx,_,I,ad,I,.inl [r,rw,p,S,b5,w0,Dm (O "or") a++L,t0,d0,I,av,dr,be,Z,Z,a6 a,λu0 H1 k1 bg bu=>[c0,λpc ay=>?_]]];let[[bf,bc],bl,a7,_]:=bg;let s2:=Ad ay (.lst #[u0]);refine Ic #[g (.ref r),g (.ref pc)] rfl ?_
 first|refine Fn eN λN eN=>?_|subst eN
 let ah:H pc=M:=k1.free bc ay;let am:pc≠r:=λz=>by rw[z,ad]at ah;cases ah
 letI W:Nat->St->Hp->Prop:=λm σ H2=>∃i ys,m=a.length-i/\i<=a.length/\σ=#[g (.ref r),g (.ref pc)]/\Kb r H H2/\Bu As H2 r rw (p+(w0++Dm (O "or") (a.take i)).length) S b5 /\
  b5.drop (p+(w0++Dm (O "or") (a.take i)).length)=Dm (O "or") (a.drop i)++L/\H2 pc=g (.lst ys)/\ys.length=i+1/\CdsAt (A8.mk Ag An Ao Aq Bd Bj Bp Ba) (kK pc (Nw H H2)) ys (t0::b7.take i)
 let lt:a.length=b7.length:=by rw[zAd,zAd]at lw;lia
 refine[W,[_,0,#[u0],I,zAy _,I,k1.trans (Kb.of s2),?_,?_,Aa,I,?_],?_]
 .rw[zBA]
  show Bu As _ r rw (p+(w0++[]).length) S b5;rw[zAA];exact[[bf,s2 _ _ bc],s2 _ _ bl,a7,ai]
 .rw[zBA,sI]
  show b5.drop (p+(w0++[]).length)=_;rw[zAA];exact Lk dr
 .rw[zBA]
  unfold CdsAt;refine[bu.same λb o e=>?_,by unfold CdsAt;trivial];let[e0,e]:=Nw.at e;let n:b≠pc:=Ai e ay;exact kK.of n (Nw.of e0 (s2 _ _ e))
 rintro m' σ H2 ⟨i,ys,rfl,il,rfl,k2,az,ab,ac,ly,ar⟩;let ap:=az;let[[a4,an],br,a3,_]:=az;let b3:((ys.length:Nat):Int)=(i:Int)+1:=by lia
 refine[_,I,r,a4,_,I,an,I,_,I,pc,_,I,.inl (Al.of ac),r,rw,_,S,b5,_,_,I,ap,?_];by_cases c:i<a.length
 ·
  let ew:a.drop i=a[i]::a.drop (i+1):=zBQ c;let au:b7[i]?=g (b7[i]'(Z)):=zAi _;let al:a[i]?=g a[i]:=zAi c;let[wi,di,a5,b2,bb]:=aw.get (i:=i+1) (t:=b7[i]'(Z)) (by simpa using au);let as:a[i]=wi:=by
   let:a[i]?=g wi:=by simpa using a5
   rw[al]at this;exact mI this
  generalize b7[i]'(Z)=ti at au bb;rw[as]at ew al;rw[ew,Dm,zBc]at ab;let e0:b5[p+(w0++Dm (O "or") (a.take i)).length]?=g (O "or"):=Cq ab;refine .inr (.inl [e0,by rw[zAd]at l8;lia,λH3 k3 af=>[_,I,?_]]);refine Fc [λb8 H'=>W (a.length-(i+1)) b8 H',λb8 H' h=>[_,Z,h],?_];let a0:=k2.trans k3;let aa:=k3 _ _ ac am;let ag:=af;let[[ax,aj],bm,ba,_]:=af;let ak:b5.drop (p+(w0++Dm (O "or") (a.take i)).length+1)=wi++(Dm (O "or") (a.drop (i+1))++L):=by
   rw[<- zAQ,ab,zAw];rfl
  refine[_,I,.inl [I,_,Al.of aa],_,I,r,ax,_,I,aj,I,.inl [r,rw,_,S,b5,wi,Dm (O "or") (a.drop (i+1))++L,ti,di,I,ag,ak,bb,Z,Z,a6 (a.drop (i+1)),λu H4 k4 bp bx=>?_]];let a2:=k4 _ _ aa am;let[[bt,bh],bi,a9,_]:=bp;refine[pc,_,_,I,I,a2,by rw[zCy,ly];rw[zAd]at l8;lia,i+1,ys++#[u],I,c,I,?_,?_,?_,Aa,by rw[zAc,ly];rfl,?_]
  .exactλb o e n=>by
    rw[Ak (Ai e ah)];exact(a0.trans k4) b o e n
  .have en:p+(w0++Dm (O "or") (a.take (i+1))).length=p+(w0++Dm (O "or") (a.take i)).length+1+wi.length:=by
    rw[Df al,Mb,zAc,zAc,zAc,zAd];lia
   rw[en];let b0:rw≠pc:=Ai hw ah;exact[[bt,by rw[Ak am.symm];exact bh],by rw[Ak b0];exact bi,a9,ai]
  .have en:p+(w0++Dm (O "or") (a.take (i+1))).length=p+(w0++Dm (O "or") (a.take i)).length+1+wi.length:=by
    rw[Df al,Mb,zAc,zAc,zAc,zAd];lia
   rw[en];exact Lk ak
  .rw[Df au,<- zBc]
   refine CdsAt.snoc (ar.same λb o e=>?_) (bx.same λb o e=>?_)
   .let[n,e]:=kK.at e
    let[ae,e]:=Nw.at e;refine kK.of n (Nw.of ae ?_);rw[Ak n];let nr:b≠r:=λz=>by rw[z,ad]at ae;cases ae
    exact(k3.trans k4) b o e nr
   .have e1:=a0.later aj (H2:=H4) b o e
    let[ae,e2]:=Nw.at e1;let n:b≠pc:=λz=>by
     let[e3,_]:=Nw.at e;rw[z,aa]at e3;cases e3
    exact kK.of n (Nw.of ae (by rw[Ak n];exact e2))
 ·
  let ei:i=a.length:=by lia
  subst ei;rw[zCv,zAB]at *;let ew:Dh (O "or") (w0::a)=w0++Dm (O "or") a:=rfl;rw[ew]at a8;rcases a8 with ⟨hq,t,et,q⟩|⟨ws,C,rfl,l7,bo,bq,fl,q⟩|⟨ws,rfl,l9,q⟩
  .refine .inl [Yl ab hq G,_,I,Gr ?_]
   rw[show b7.take a.length=b7 by rw[lt,zAB]]at ar;let ao:CdsAt (A8.mk Ag An Ao Aq Bd Bj Bp Ba) (Nw H H2) ys (t0::b7):=ar.same λb o e=>(kK.at e).2;rcases et with ⟨n1,et⟩|⟨n2,rfl⟩
   .have y1:ys.length=1:=by rw[zAd]at n1;lia
    first|refine Fn eN λN eN=>?_|subst eN
    refine[_,I,pc,_,I,.inl (Al.of ac),I,_,I,dT (by rw[y1];rfl) ?_];let ey:ys[0]?=g (ys[0]'(Z)):=zAi _;let[t',a1,bn]:=ao.get ey;rw[et]at a1;cases a1;exact[_,I,pc,_,_,_,I,I,Al.of ac,Gk (j:=0) ey,q _ _ k2 ap bn]
   .have y2:ys.length≠1:=by rw[zAd]at n2;lia
    first|refine Fn eN λN eN=>?_|subst eN
    refine[_,I,pc,_,I,.inl (Al.of ac),I,_,I,dF (λz=>y2 (by let:=V.int.inj z;lia)) [_,I,λy dy ny nd ne=>?_]];let s3:Ae H2 (upd (upd H2 dy (.own y)) y (.ins Ba dy [])):=Ho ny nd;refine[y,dy,pc,ys,I,Aa,s3 _ _ ac,λl H4 nl kp hy hl=>[I,?_]];let k4:Ae H2 H4:=λb o e=>by rw[kp b (Ai e ny) (Ai (s3 _ _ e) nl)];exact s3 _ _ e
    refine q _ _ (k2.trans (Kb.of k4)) [[a4,k4 _ _ an],k4 _ _ br,a3,ai] ?_;unfold Bv;exact[y,dy,l,ys,I,Nw.of (k2.free an ny) hy,Nw.of (k2.free an (s3.free nl)) hl,ao.same (Nw.grow λb o _ e=>k4 _ _ e)]
  .have e0:b5[p+(w0++Dm (O "or") a).length]?=g (O "or"):=Cq ab
   refine .inr (.inl [e0,by rw[zAd]at l7;lia,λH3 k3 af=>[_,I,?_]]);refine Fc [λ_ _=>False,λ_ _ h=>h.elim,?_];let aa:=k3 _ _ ac am;let ag:=af;let[[ax,aj],bm,ba,_]:=af;let ak:b5.drop (p+(w0++Dm (O "or") a).length+1)=ws:=by
    rw[<- zAQ,ab];rfl
   exact[_,I,.inl [I,_,Al.of aa],_,I,r,ax,_,I,aj,I,.inr [r,rw,_,S,b5,C,I,ag,bo,bq,by rw[ak];exact fl,q.kb (k2.trans k3)]]
  .have e0:b5[p+(w0++Dm (O "or") a).length]?=g (O "or"):=Cq ab
   exact .inr (.inr [e0,by rw[zAd]at l9;lia,q.kb k2])
def Z2(W:Pm P w K mg base){f:T}(F:Fw K "read_deeper" "Reader.read_deeper" Fq f v)(N:Gf P w K mg base 1 As "read_piece" #["self"] (λ_ _ _ _=>False))(L:Gf P w K mg base 1 As "read_bracket" #["self"] (λ_ _ _ _=>False)):Ar P w K mg base (Nt P w) 5 f v #["self","word"] (Wz (A8.mk Ag An Ao Aq Bd Bj Bp Ba) Cd Cz As 0):=by
 let k:=Jx;refine F.okX k (λi H Q E h=>?_) (λm A c s H i Q E X h=>?_)
 .rcases h with h|h
  .let[_,_,_,_,_,_,_,_,_,_,rfl,_]:=h
   rfl
  .let[_,_,_,_,_,_,_,rfl,_]:=h
   rfl
 refine[_,(Ab (Ce (Ax Dv (Cj (pv 0) I) (Vr W.z W.ir) (Bf _))
    (Ac (Eh Bt I (Zf W.z W.jm W.jn) I (Cf Aj)))
    Be)
   (Ab (Dj (pv 0) (Au Ea (Cj (pv 0) I) Ah) I)
   (Ab (Ct (Ed (Vm W) (X.mono Z) (pv 0)))
   (Ab (Fk k 2 (Iz (Ax Dv (pv 1) Aj (Bf _)) (Fp (ZC W) (X.mono Z) I (Cf (Fb N (X.mono Z) Bt (pv 0)))) (Fb L (X.mono Z) Bt (pv 0))))
   (Ab (Dj (pv 0) (Au K6 (Cj (pv 0) I) Ah) I)
   (Ac (Ay (pv 2)))))))),?_]
 rcases h with h|h
 .let[r,rw,l,y,b,a,R,t,d,p,rfl,C,o,n,u,S,q]:=h
  lia
 .let[r,rw,l,y,b,p,j,rfl,C,o,u,n,S]:=h
  let ab:=C;let[[e,U],hw,x,aa]:=C;refine[_,I,r,_,e,_,_,I,U,W.aa.cl,W.ai,Ma _ _ _,I,_,I,?_];rcases S with ⟨rfl,q⟩|⟨z,_⟩|⟨z,_⟩
  .exact dT I [Ck (by show 1<=1000;decide),q _ (Kb.refl _ _)]
  .lia
  .lia
def iA(H:Pm P w K mg base):∀m,Gf P w K mg base (5*m+5) As "read_deeper" #["self","word"] (Wz (A8.mk Ag An Ao Aq Bd Bj Bp Ba) Cd Cz As m)/\(Gf P w K mg base (5*m+5) As "read_deeper" #["self","word"] (Wz (A8.mk Ag An Ao Aq Bd Bj Bp Ba) Cd Cz As m)->Gf P w K mg base (5*m+8) As "read_rows" #["self"] (Wx (A8.mk Ag An Ao Aq Bd Bj Bp Ba) Cd Cz As m)):=by
  let L:∀m,Gf P w K mg base (5*m+5) As "read_deeper" #["self","word"] (Wz (A8.mk Ag An Ao Aq Bd Bj Bp Ba) Cd Cz As m)->Gf P w K mg base (5*m+6) As "read_piece" #["self"] (EU (A8.mk Ag An Ao Aq Bd Bj Bp Ba) Cd Cz As m):=λm D=>(NZ H.cy H.aa.cl bd λf Q F=>Ov H F D);let N:∀m,Gf P w K mg base (5*m+5) As "read_deeper" #["self","word"] (Wz (A8.mk Ag An Ao Aq Bd Bj Bp Ba) Cd Cz As m)->Gf P w K mg base (5*m+8) As "read_rows" #["self"] (Wx (A8.mk Ag An Ao Aq Bd Bj Bp Ba) Cd Cz As m):=λm D=>(NZ H.jg H.aa.cl bd λf Q F=>Qt H F (NZ H.jt H.aa.cl bd λf Q F=>Rm H F (L m D)));intro m;refine[?_,N m]
  induction m with
  |zero=>exact NZ H.bz H.aa.cl bd λf Q F=>Z2 H F (NZ H.cy H.aa.cl bd λf Q F=>LJ λx x x x z=>z) (NZ H.bw H.aa.cl bd λf Q F=>LJ λx x x x z=>z)
  |succ m R=>
   let C:Gf P w K mg base (5*m+9) As "read_bracket" #["self"] (MR (A8.mk Ag An Ao Aq Bd Bj Bp Ba) Cd Cz As m):=(NZ H.bw H.aa.cl bd λf Q F=>Of H F (N m R));exact NZ H.bz H.aa.cl bd λf Q F=>Om H F (L m R) C
def Mread_rows(C:Pm P w K mg base):Gf P w K mg base (5*6+8) As "read_rows" #["self"] (Wx (A8.mk Ag An Ao Aq Bd Bj Bp Ba) Cd Cz As 6):=(iA C 6).2 (iA C 6).1
end
def okW(w:J):Prop:=32∉w.cps.toList/\w.length<=100
def aW(c:Co)(h:Ej c):∀w∈Bb c,okW w:=by
 intro w C;let N:∀{n:J},N6 n->okW n:=λ{n} ⟨l,e,L⟩=>by
  subst e;exact[λz=>by let:=L.2 32 z;unfold Kh at this;lia,by rw[Dg];let:=L.1.2;lia]
 let H:∀{n:Nat},n<=1000000->okW (tx (Di n)):=λ{n} P=>[λz=>by let:=Lr n 32 z;lia,by rw[Dg];let:(Di n).length<=7:=Es Y (Nl P);lia];cases c with
 |alw=>simp[Bb]at C;subst C;exact[G,G]
 |cau n=>
  simp[Bb]at C;rcases C with rfl|rfl
  .exact[G,G]
  .exact N h
 |thi n=>
  simp[Bb]at C;rcases C with rfl|rfl
  .exact[G,G]
  .exact N h
 |day a b=>
  simp[Bb]at C;let[Q,R,W]:=h;rcases C with rfl|rfl|rfl
  .exact[G,G]
  .exact H Z
  .exact H Z
 |ovr m=>
  simp[Bb]at C;let[U,X]:=h;rcases C with rfl|rfl
  .exact[G,G]
  .refine[λz=>?_,?_]
   .have z:32∈El m.toNat:=z
    unfold El at z;rcases zAE.mp z with z|z
    .have:=Lr _ 32 z;lia
    .simp at z;lia
   .rw[Dg,Lm]
    let:(Di (m.toNat/100)).length<=10:=Es Y Z
    lia
def Ow{t:Ev}(h:Fd Ej t):∀w∈Bz Bb t,okW w:=Ue aW [G,G] [G,G] [G,G] [G,G] [G,G] t h
theorem O1:∀{ws},ws≠[]->(∀w∈ws,32∉w.cps.toList)->Fj 32 (mE (O " ") ws).cps.toList=ws.map λw=>w.cps.toList
 |[],h,_=>mC I h
 |#[w],_,h=>by
  show Fj 32 w.cps.toList=#[w.cps.toList];exact Nj (h w zAl)
 |w::v::ws,_,h=>by
  let C:=O1 (ws:=v::ws) zZ λx z=>h x (zAh _ z);let e:(mE (O " ") (w::v::ws)).cps.toList=w.cps.toList++32::(mE (O " ") (v::ws)).cps.toList:=by
   show(w.cps++(O " ").cps++(mE (O " ") (v::ws)).cps).toList=_;let F:(O " ").cps.toList=#[32]:=by ac_nf
   rw[xR,xR,F,zAw];rfl
  rw[e,Qh _ (h w zAl),C];rfl
def Ls{ws:List J}(z:ws≠[])(h:∀w∈ws,okW w):rA (mE (O " ") ws) (O " ")=ws:=by
 let L:O " "=tx #[32]:=by ac_nf
 let e:=Zn (mE (O " ") ws).cps.toList 32;rw[Hq,<- L,O1 z λw F=>(h w F).1,zBw]at e;rw[e];let:(tx ∘ λw:J=>w.cps.toList)=id:=by funext w;exact Hq w
 rw[this,List.map_id]
inductive KH(κ:A8)(vs:List V)(H:Hp)(Q:VK):Prop
 |mk (u:_) (t:_) (z0:vs=#[u]) (z1:Bv κ H u t) (z2:Mx t<66) (z3:Fd Ej t) (z4:(Bz Bb t).length<=60) (z5:∀H',Ae H H'->Q (.str (mE (O " ") (Bz Bb t))) H'):KH κ vs H Q
def bC(κ:A8):Sp:=λC H Q x=>KH κ C H Q
def Ly{t:Ev}(h:Fd Ej t):1<=(Bz Bb t).length:=by
 let C:=Pw (wc:=Bb) (λc x=>Xv c) t h;let z:=LM t h
 lia
def Ri{t:Ev}(h:Fd Ej t)(m:Int):1<=(Lv Bb m t).length:=by
 let:=Ly h;unfold Lv
 split
 .rw[zAd];lia
 .exact this
section
seal L2.PS L2.PSs L2.PE L2.PA
variable {P:mF} {w:mR} {K:zAa} {mg:J->Option lV} {base:mX}
def Vp(C:Pm P w K mg base):Jc C 201 "show_condition" #["condition"] (bC (A8.mk Ag An Ao Aq Bd Bj Bp Ba)):=Os C.z C.ka #["condition"] df λk H Q E h=>by
 let[u,t,rfl,N,U,L,f,q]:=h;let[R,W,S,rfl,b,_,_,X,_]:=N.obj;let A:=Ly L;refine[_,(Ac (Ay (Nm (K:=K) I mY nP nO (Nh (K:=K) I) Aj (Cf (Na (Mwords C 66) (E.mono Y) (pv 0)))))),?_];exact[I,_,I,R,_,W,S,I,b,A8.fam _ t,X,R,t,I,N,I,U,L,f,λl d F o j=>[_,l,Bz Bb t,I,I,.inl (Al.of j),A,Z,G,λy c=>by let:=(Ow L y c).2;lia,q d F]]
end
def lO(N L:T)(H:Hp)(E:XK):No->Prop
 |.at n=>∀d C,Ae H C->C d=g (.xd #[(O "at",.int (n:Int))])->E (.ref N) (g d) C
 |.deep=>∀C,Ae H C->E (.ref L) M C
theorem lO.noE{z F r:T}{H H2:Hp}{E:XK}(S:∀H',Kb r H2 H'->Ae H H'):∀{f},lO z F H E f->kQ z F r H2 E 0 f
 |.at n,h=>λd H' k e=>h d H' (S H' k) (by rw[e,wZ])
 |.deep,h=>λH' k=>h H' (S H' k)
inductive KL(C:T)(vs:List V)(H:Hp)(Q:VK):Prop
 |mk (p:_) (dx:_) (rw:_) (z0:vs=#[.ref p,.ref rw]) (z1:H p=g (.ins C dx [])) (z2:∀H',(∀b,b≠p->H' b=H b)->H' p=g (.ins C dx (Ug rw 0 0))->Q .non H')
def OH(C:T):Sp:=λL H Q N=>KL C L H Q
inductive PQ(K:zAa)(κ:A8)(CN CD:T)(vs:List V)(H:Hp)(Q:VK)(E:XK):Prop
 |mk (ws:_) (z0:vs=#[.str (mE (O " ") ws)]) (z1:ws≠[]) (z2:(∀w∈ws,okW w)) (z3:ws.length<=100) (z4:((∃t d,ws.length<=60/\Rn Bb Ej 2 ws t d/\d<=6/\∀u H',Ae H H'->Bv κ (Nw H H') u t->Q u H')\/∃f,lJ Bb Ej Xl ws f/\lO CN CD H E f))
inductive RQ(K:zAa)(κ:A8)(CN CD:lU)(vs:List V)(H:Hp)(E:XK):Prop
 |mk (x:_) (T:_) (z0:vs=#[x]) (z1:Cy K H x (.type T)) (z2:zAL K (.type T) (.type "str")=g lX) (z3:lO CN CD H E (.at 0))
def TW(K:zAa)(κ:A8)(N L:T):Sp:=λC H Q E=>PQ K κ N L C H Q E\/RQ K κ N L C H E
section
seal L2.PS L2.PSs L2.PE L2.PA
variable {P:mF} {w:mR} {K:zAa} {mg:J->Option lV} {base:mX}
def OO(C:Pm P w K mg base):Jk C 1 "Reader" As #["self","row"] (OH As):=OY C.z C.aa C.jr #["self","row"] df λU H Q R h=>by
 let[p,L,rw,rfl,N,q]:=h;refine[_,(Ab (Dj (pv 0) (pv 1) I)
   (Ab (Dj (pv 0) Ah I)
   (Ac (Dj (pv 0) Ah I)))),?_]
 refine[_,I,_,I,p,_,L,_,I,N,C.aa.cl,C.cq,(by show 0<1000;decide),?_];refine[_,I,p,_,L,_,I,Aa,C.aa.cl,C.ah,(by show 1<1000;decide),?_];exact[_,I,p,_,L,_,I,Aa,C.aa.cl,C.ai,(by show 2<1000;decide),q _ (λb n=>by rw[Ak n,Ak n,Ak n]) Aa]
def Tk:Cb #["text","row","reader","condition"] #["text"] (Av Kc):=by injections
def Th(C:Pm P w K mg base){f:T}{fd:zCA}(F:Fw K "read_condition" "read_condition" Kc f fd):Ar P w K mg base (Nt P w) 40 f fd #["text"] (TW K (A8.mk Ag An Ao Aq Bd Bj Bp Ba) Cd Cz):=by
 let sc:=Tk;refine F.okX sc (λvs H Q E h=>?_) (λa9 A a6 s H vs Q E hr h=>?_)
 .rcases h with ⟨_,rfl,_⟩|⟨_,_,rfl,_⟩<;>rfl
 refine[_,(Ab (Ce (Et (Eb (Ix Ec C.z C.ad (Dy (pv 0) (La "str" rfl (C.z.nn C.ar) I)))))
    (Ac (Gs Bt I (Kr C) (hr.mono Y) I (Cf Ah)))
    Be)
   (Ab (Fk sc 1 (Fg mY pZ pY Tn (pv 0) (Cf Aj)))
   (Ab (Ce (Ax Tq (Ix Bg C.z C.ag (Cf (pv 1))) (Vr C.z C.ia) (Bf _))
    (Ac (Gs Bt I (Kr C) (hr.mono Y) I (Cf (Vr C.z C.ia))))
    Be)
   (Ab (Fk sc 2 (Fp (OO C) (hr.mono Y) I (Cf (pv 1))))
   (Ab (Fk sc 3 (Fb (Mread_rows C) (hr.mono Y) Bt (pv 2)))
   (Ab (Ce (Ax Mm (Cj (pv 2) I) (Ix Bg C.z C.ag (Cf (pv 1))) (Bf _))
    (Ac (Gs Bt I (Kr C) (hr.mono Y) I (Cf (Cj (pv 2) I))))
    Be)
   (Ac (Ay (pv 3))))))))),?_]
 refine Je λN R=>?_;rcases h with h|⟨x,T0,rfl,ty,kt,q⟩
 rotate_left
 .refine[_,I,_,_,_,_,_,I,Ie,ty,kt,_,I,Fc ?_]
  refine[Ck (by show 1<=1000;decide),λa i=>?_];refine[a,_,I,Aa,λd hd j=>[I,d,by rw[Ak j.symm,Aa],?_]];refine q d _ (λb o e=>?_) (by rw[Iv j,Aa];rfl);exact Ig (r:=a) (Kb.refl _ _) i hd b o e (Ai e i)
 let[W,rfl,a5,a3,a4,a1]:=h;refine[_,I,_,_,_,_,_,I,Ie,.str _,Xb,_,I,Gr ?_];let jl:=Ik (z:=O " ") (B:=100) (ps:=W) λy hy=>(a3 y hy).2;let e1:(O " ").length=1:=by ac_nf
 rw[e1]at jl;let a8:W.length*(100+1)<=100*(100+1):=zBq _ a4
 first|refine Fn R λN R=>?_|subst R
 refine[_,I,I,_,_,I,I,G,by rw[zCy];lia,λL a7=>?_];rw[Ls a5 a3];let s1:=Ad a7 (.lst (W.map V.str));let h1:upd H L (.lst (W.map V.str)) L=g (.lst (W.map V.str)):=Aa;let lm:(W.map V.str).length=W.length:=zAb _;generalize upd H L (.lst (W.map V.str))=H1 at s1 h1;refine Ic #[g (.str (mE (O " ") W)),g (.ref L),M,M] rfl ?_
 first|refine Fn R λN R=>?_|subst R
 refine[_,I,L,_,I,.inl (Al.of h1),_,_,I,I,_,I,?_];by_cases p:W.length<=60
 .refine dF (by rw[lm];lia) ?_
  first|refine Fn R λN R=>?_|subst R
  refine[_,I,λr dx nr nd j=>[r,dx,L,I,Aa,λH2 kp v=>[I,?_]]];let s2:Ae H1 H2:=λb o e=>by
   let n1:=Ai e nr;rw[kp b n1,Ak n1,Ak (Ai e nd)];exact e
  refine Ic #[g (.str (mE (O " ") W)),g (.ref L),g (.ref r),M] rfl ?_
  first|refine Fn R λN R=>?_|subst R
  let n:Bu As H2 r L 0 ((0:Nat):Int) W:=[[dx,v],s2 _ _ h1,zAy _,p];let rH:H r=M:=s1.free nr;let S:∀H',Kb r H2 H'->Ae H H':=λH' k b o e=>k b o (s2 _ _ (s1 _ _ e)) (Ai e rH);rcases a1 with ⟨t,d,_,sp,d6,q⟩|⟨f,fl,q⟩
  .refine[_,I,r,dx,_,I,v,I,.inl [r,L,0,0,W,W,[],t,d,I,n,(by rw[zAA];rfl),sp,d6,Z,(by intro z;cases z),(by intro z;cases z),λu H3 k3 m cd=>?_]]
   refine Ic #[g (.str (mE (O " ") W)),g (.ref L),g (.ref r),g u] rfl ?_
   first|refine Fn R λN R=>?_|subst R
   let[[l,c],a0,a2,_]:=m;refine[_,I,r,_,l,_,_,I,c,C.aa.cl,C.ah,Gq _ _ _,_,I,L,_,I,.inl (Al.of a0),_,_,I,I,_,I,dF (by rw[lm];lia) ?_]
   first|refine Fn R λN R=>?_|subst R
   exact[_,I,q u H3 (S H3 k3) (cd.same (Nw.later (s1.trans s2)))]
  .cases fl with
   |long h=>lia
   |read _ fl=>exact[_,I,r,dx,_,I,v,I,.inr [r,L,0,0,W,f,I,n,Z,Z,fl,lO.noE S q]]
   |@more X t d x U hl sp d6 na no=>
    refine[_,I,r,dx,_,I,v,I,.inl [r,L,0,0,X++x::U,X,x::U,t,d,I,n,I,sp,d6,Z,(λz=>na (mI z)),(λz=>no (mI z)),λu H3 k3 m cd=>?_]];refine Ic #[g (.str (mE (O " ") (X++x::U))),g (.ref L),g (.ref r),g u] rfl ?_
    first|refine Fn R λN R=>?_|subst R
    let[[l,c],a0,a2,_]:=m;let ll:(X++x::U).length=X.length+(U.length+1):=by rw[zAc,zAd]
    refine[_,I,r,_,l,_,_,I,c,C.aa.cl,C.ah,Gq _ _ _,_,I,L,_,I,.inl (Al.of a0),_,_,I,I,_,I,dT (by rw[lm,ll];lia) ?_];refine[_,I,r,_,l,_,_,I,c,C.aa.cl,C.ah,Gq _ _ _,Ck (by show 1<=1000;decide),λa i=>?_];refine[a,_,I,Aa,λd hd j=>[I,d,by rw[Ak j.symm,Aa],?_]];exact q d _ (S _ (Ig k3 i hd)) (by rw[Iv j,Aa,wZ])
 .refine dT (by rw[lm];lia) ?_
  rcases a1 with ⟨t,d,z,_⟩|⟨f,fl,q⟩
  .exact mC z p
  cases fl with
  |read z _=>exact mC z p
  |more z=>exact mC z p
  |long _=>
   refine[Ck (by show 1<=1000;decide),λa i=>?_];refine[a,_,I,Aa,λd hd j=>[I,d,by rw[Ak j.symm,Aa],?_]];refine q d _ (λb o e=>?_) (by rw[Iv j,Aa];rfl);let e2:=s1 b o e;exact Ig (r:=a) (Kb.of s1) i hd b o e (Ai e2 i)
def Vu(C:Pm P w K mg base):Qr P w K mg base 40 "read_condition" #["text"] (TW K (A8.mk Ag An Ao Aq Bd Bj Bp Ba) Cd Cz):=(W2 C.z C.jy bd).calX λf H F=>Th C F
end
inductive Xq  (vs:List V)(H:Hp)(Q:VK):Prop
 |mk (a:_) (ws:_) (z0:vs=#[.ref a]) (z1:H a=g (.lst (oA V.int ws))) (z2:CR.GW ws) (z3:Q (.bl B) H):Xq  vs H Q
def FC:Sp:=λC H Q x=>Xq  C H Q
inductive KU  (vs:List V)(H:Hp)(Q:VK):Prop
 |mk (w d T t:Int) (z0:vs=#[.int w,.int d,.int T,.int t]) (z1:(0<=w/\w<=100)) (z2:(0<=T/\T<=100)) (z3:Q (.bl (decide (d*T<w*(t+1)))) H):KU  vs H Q
def ZE:Sp:=λC H Q x=>KU  C H Q
inductive MF  (vs:List V)(H:Hp)(Q:VK):Prop
 |mk (w d T:Int) (z0:vs=#[.int w,.int d,.int T]) (z1:(1<=w/\w<=100)) (z2:(0<=T/\T<=100)) (z3:Q (.int (((d+1)*T+w-1)/w)) H):MF  vs H Q
def ZK:Sp:=λC H Q x=>MF  C H Q
inductive P7  (vs:List V)(H:Hp)(Q:VK):Prop
 |mk (a:_) (b:_) (ws:_) (ds:_) (t:Nat) (z0:vs=#[.ref a,.ref b,.int t]) (z1:H a=g (.lst (oA V.int ws))) (z2:H b=g (.lst (oA V.int ds))) (z3:CR.GW ws) (z4:ds.length=ws.length) (z5:ds.sum=t) (z6:∀H',Ae H H'->Q (.int (CR.place ws ds t)) H'):P7  vs H Q
def SB:Sp:=λC H Q x=>P7  C H Q
inductive P2  (vs:List V)(H:Hp)(Q:VK):Prop
 |mk (a:_) (ws:_) (z0:vs=#[.ref a]) (z1:H a=g (.lst (oA V.int ws))) (z2:CR.GW ws) (z3:∀r H',Ae H H'->H r=M->H' r=g (.lst (oA V.int (CR.wheel ws)))->Q (.ref r) H'):P2  vs H Q
def RF:Sp:=λC H Q x=>P2  C H Q
section
variable {P:mF} {w:mR} {K:zAa} {mg:J->Option lV} {base:mX} (f:Pm P w K mg base)
def NF{ws:List Int}(C:CR.GW ws){k:Int}(H:0<=k)(h:k<ws.length):1<=ws.getD k.toNat 0/\ws.getD k.toNat 0<=100:=by
 let m:ws.getD k.toNat 0∈ws:=by
  rw[zBh,zAi Z];exact zBp _
 refine[C.pos _ m,?_];let Q:∀(l:List Int) (x:Int),(∀w∈l,1<=w)->x∈l->x<=l.sum:=by
  intro l x
  induction l with
  |nil=>intro _ h;cases h
  |cons y l R=>
   intro W L;let U:∀l:List Int,(∀w∈l,1<=w)->0<=l.sum:=by
    intro l
    induction l with
    |nil=>intro _;exact Int.le_refl 0
    |cons z l R=>intro h;let:=h z zAl;let:=R λw S=>h w (zAh _ S);rw[zBx];lia
   let X:=W y zAl;let F:∀w∈l,1<=w:=λw S=>W w (zAh _ S);let N:=U l F;rw[zBx];rcases zAg.mp L with rfl|L
   .lia
   .have:=R F L
    lia
 let:=Q ws _ C.pos m;let:=C.sum
 lia
def D6:Jc f 2 "are_weights" #["thing"] FC:=Os f.z f.gj #["thing","weight"] df λA H Q E h=>by
 let[a,R,rfl,z,C,q]:=h;refine[_,(Ab (Ce (Et (Eb (Ix Ec f.z f.ad (Dy (pv 0) (La "list" rfl (f.z.nn f.az) I)))))
    (Ac (Ay Hw))
    Be)
   (Ab (Ce (PW.pt (Jg (Ax Mm (Ix Bg f.z f.ag (Cf (pv 0))) Ah (Bf _)) (Gv (Ax Tq (Ix Bg f.z f.ag (Cf (pv 0))) (Vr f.z f.gq) (Bf _)))))
    (Ac (Ay Hw))
    Be)
   (Ab (Gc nK I (Em (pv 0)) (Ot A 1)
    (Ac (Ce (PW.pt (Jg (Et (Eb (Gg (Qm f) E (Cf (pv 1))))) (Gv (Ax Mm (pv 1) Ah (Bf _)))))
    (Ac (Ay Hw))
    Be)))
   (Ac (Ay (Nr Tg (Ix (Pb I) f.z f.gr (Cf (pv 0))) (Vr f.z f.i9) (Bf _))))))),?_]
 let W:(oA V.int R).length=R.length:=zAb _;let L:=C.lo;let N:=C.hi;refine[_,I,_,_,_,_,_,I,Ie,.lst z,K0,_,I,?_];refine Gr ?_;refine[_,I,a,_,I,.inl (Al.of z),_,_,I,I,_,I,?_];refine dF (by rw[W];lia) ?_;refine[_,I,a,_,I,.inl (Al.of z),_,_,I,I,_,I,?_];refine dF (by rw[W];lia) ?_;refine[_,I,a,I,[_,Al.of z],Po (K:=K) (a:=a) (xs:=oA V.int R) (λi U F=>(∃o,U=#[g (.ref a),o])/\F=H) [[M,I],I] (λi U F x ⟨_,e⟩=>by rw[e];exact Al.of z) ?_ ?_]
 .rintro i y U F X ⟨⟨o,rfl⟩,rfl⟩
  let[n,S,rfl]:=U4 X;refine[_,I,_,_,I,.int n,_,I,?_];refine Gr ?_;refine[_,I,_,_,I,I,_,I,?_];let:=C.pos n (zAz S);refine dF Z ?_;exact[[_,I],I]
 .rintro U F ⟨⟨o,rfl⟩,rfl⟩
  refine[_,I,a,R,I,Al.of z,_,_,I,I,?_];show Q (.bl (decide (R.sum<=100))) F;rw[mV C.sum];exact q
def FL:Jc f 1 "may_have" #["weight","dealt","total","turn"] ZE:=Os f.z f.ql #["weight","dealt","total","turn"] df λN H Q C h=>by
 let[v,d,z,t,rfl,F,L,q]:=h;refine[_,(Ac (Ay (Nr Mm (Au Jq (pv 1) (pv 2)) (Au Jq (pv 0) (Au Ea (pv 3) Ah)) (Bf _)))),?_];refine[_,I,_,I,_,_,I,I,.inr [Z,Z],_,I,_,I,_,_,I,I,_,_,I,I,.inl [Z,Z],_,_,I,I,q]
def EF:Jc f 1 "due_by" #["weight","dealt","total"] ZK:=Os f.z f.r9 #["weight","dealt","total"] df λN H Q C h=>by
 let[v,d,z,rfl,F,L,q]:=h;refine[_,(Ac (Ay (Au Dt (Au K6 (Au Ea (Au Jq (Au Ea (pv 1) Ah) (pv 2)) (pv 0)) Ah) (pv 0)))),?_];refine[_,I,_,_,I,I,_,I,_,_,I,I,.inr [Z,Z],_,I,_,_,I,I,_,_,I,I,_,I,_,_,I,I,[Z,Z],q]
def Oy:Jc f 2 "place_of_turn" #["weights","dealt","turn"] SB:=Os f.z f.ku #["weights","dealt","turn","total","places","best","place"] df λr H Q hr h=>by
 let[a,b,X,E,t,rfl,s,hb,R,C,S,q]:=h;refine[_,(Ab (C8 (i:=3) r.nd I (Or.inr I) (Ix (Pb I) f.z f.gr (Cf (pv 0))))
   (Ab (Nk (NC:=#["k","total","turn","weights","dealt"]) (own:=#["k"]) (cs:=#["total","turn","weights","dealt"]) (ix:=#[3,2,0,1]) (j:=4) r.nd I I I (Az.of I) I [[I,.inl I,I],[[I,.inl I,I],[[I,.inl I,I],[[I,.inl I,I],trivial]]]] (Gb I (f.z.nn f.ay) (Cf (Ix Bg f.z f.ag (Cf (pv 0))))) (λ_ _ _=>(Xa 0)) (λ_ _ _=>(D8 (Eb (Gg (FL f) hr (Aw (iO K (pv 3) (pv 0)) (Aw (iO K (pv 4) (pv 0)) (Dy (pv 1) (pv 2)))))))) (λ_ _ _=>(pv 0)))
   (Ab (Fk r 5 (Cr By (pv 4) Ah (λ_ _=>I)))
   (Ab (Gc nK I (Em (pv 4)) (Ot r 6)
    (Ac (Ce (Ax Mm (Gg (EF f) hr (Aw (Cr By (pv 0) (pv 6) (λ_ _=>I)) (Dy (Cr By (pv 1) (pv 6) (λ_ _=>I)) (pv 3)))) (Gg (EF f) hr (Aw (Cr By (pv 0) (pv 5) (λ_ _=>I)) (Dy (Cr By (pv 1) (pv 5) (λ_ _=>I)) (pv 3)))) (Bf _))
    (Ac (Fk r 5 (pv 6)))
    Be)))
   (Ac (Ay (pv 5))))))),?_]
 let hl:(oA V.int X).length=X.length:=zAb _;let g1:=R.lo;let g2:=R.hi;let gs:=R.sum;let gp:=CR.sum_pos R;refine[_,I,a,X,I,Al.of s,?_];refine[_,I,a,_,I,.inl (Al.of s),_,I,Z,Z,λp hp=>?_];let ep:((oA V.int X).length:Int).toNat=X.length:=by rw[hl];lia
 rw[ep];refine Ro (lo:=0) (n:=X.length) (λi v N=>v=(CR.placesTo X E t i).map V.int/\N p=g (.lst v)/\Ae H N) [I,Aa,Ad hp _] (λi v N _ ⟨e,d,_⟩=>[d,by rw[e,zAb];exact CR.placesTo_le _ _ _ _]) (by rw[zCy];lia) (λi v N hi ⟨e,d,L⟩=>?_) (λv N ⟨e,d,L⟩=>?_)
 .have hw:=NF R (k:=0+(i:Int)) Z Z
  refine[_,I,_,I,a,_,_,_,I,I,Al.of (L _ _ s),Ml Z Z,_,I,_,I,b,_,_,_,I,I,Al.of (L _ _ hb),Ml Z Z,_,I,_,I,_,_,_,_,I,[Z,Z],[Z,Z],_,I,?_];let em:decide (E.getD (0+(i:Int)).toNat 0*X.sum<X.getD (0+(i:Int)).toNat 0*((t:Int)+1))=CR.may X E t i:=by
   rw[show(0+(i:Int))=(i:Int) by lia];rfl
  rw[em];let es:=CR.placesTo_succ X E t i;cases c:CR.may X E t i with
  |false=>
   rw[c]at es;refine Gr [I,?_,d,L];rw[es,e];simp
  |true=>
   rw[c]at es;refine Fc [_,I,d,I,?_,Aa,λx o z=>?_]
   .rw[es,e]
    simp
   .rw[Ak (Ai z hp)]
    exact L x o z
 subst e;let ab:CR.placesTo X E t X.length=CR.places X E t:=rfl;rw[ab]at d;let W:=CR.places_ne (t:=t) R C S;let aa:Ob ((CR.places X E t).map V.int) 0=g (.int ((CR.places X E t).headD 0)):=by
  cases z:CR.places X E t with
  |nil=>exact mC z W
  |cons x l=>exact JA (i:=0) I
 refine[_,I,p,_,_,_,I,I,Al.of d,aa,?_];let u:∀k:Int,k∈CR.places X E t->0<=k/\k<X.length:=λk hk=>[(CR.placesTo_mem hk).1,(CR.placesTo_mem hk).2.1];refine[_,I,p,I,[_,Al.of d],Po (K:=K) (a:=p) (xs:=(CR.places X E t).map V.int)
  (λi σ H3=>(∃o,∃A:Int,σ=#[g (.ref a),g (.ref b),g (.int t),g (.int X.sum),g (.ref p),g (.int A),o]/\A=CR.pick (CR.due X E) ((CR.places X E t).headD 0) ((CR.places X E t).take i)/\0<=A/\A<X.length)/\H3=N)
  [[M,_,I,I,?_],I] (λi σ H3 _ ⟨_,z⟩=>by rw[z];exact Al.of d) ?_ ?_]
 .cases z:CR.places X E t with
  |nil=>exact mC z W
  |cons x l=>exact u x (by rw[z];exact zAl)
 .rintro i y σ H3 hi ⟨⟨o,A,rfl,eb,U,m⟩,rfl⟩
  let[n,hn,rfl]:=U4 hi;let F:=u n (zAz hn);let w1:=NF R F.1 F.2;let w2:=NF R U m;refine[_,I,_,I,a,_,_,_,I,I,Al.of (L _ _ s),Ml F.1 F.2,_,I,_,I,b,_,_,_,I,I,Al.of (L _ _ hb),Ml F.1 Z,_,I,_,_,_,I,w1,[Z,Z],?_];refine[_,I,_,I,a,_,_,_,I,I,Al.of (L _ _ s),Ml U m,_,I,_,I,b,_,_,_,I,I,Al.of (L _ _ hb),Ml U Z,_,I,_,_,_,I,w2,[Z,Z],_,_,I,I,_,I,?_];let et:(CR.places X E t).take (i+1)=(CR.places X E t).take i++#[n]:=by rw[yV,hn];rfl
  let ef:CR.pick (CR.due X E) ((CR.places X E t).headD 0) ((CR.places X E t).take (i+1))=if CR.due X E n<CR.due X E A then n else A:=by
   rw[et,eb];unfold CR.pick;rw[List.foldl_append];rfl
  refine HD (λc=>?_) (λc=>?_)
  .have c':CR.due X E n<CR.due X E A:=mU c
   refine[_,I,[[_,n,I,?_,F],I]];rw[ef,mS c']
  .have c':¬CR.due X E n<CR.due X E A:=of_decide_eq_false (zCa.mpr c)
   refine[[_,A,I,?_,U,m],I];rw[ef,mK c']
 .rintro σ H3 ⟨⟨o,A,rfl,eb,U,m⟩,rfl⟩
  refine[_,I,?_];rw[zAb,zAB]at eb;rw[eb];exact q _ L
def WX:Jc f 3 "turns" #["weights"] RF:=Os f.z f.me #["weights","dealt","wheel","turn","place"] df λk H Q hr h=>by
 let[a,X,rfl,A,R,q]:=h;refine[_,(Ab (Ce (Et (Eb (Gg (D6 f) hr (Cf (pv 0)))))
    (Ac Ju)
    Be)
   (Ab (Nk (NC:=#["weight"]) (own:=#["weight"]) (cs:=[]) (ix:=[]) (j:=1) k.nd I I I (Az.of I) I trivial (Em (pv 0)) (λ_ _ _=>(Xa 0)) (λ_ _ _=>Fh) (λ_ _ _=>Ah))
   (Ab (Fk k 2 (Ca Iw))
   (Ab (Gc nK I (Gb I (f.z.nn f.ay) (Cf (Ix (Pb I) f.z f.gr (Cf (pv 0))))) (Ot k 3)
    (Ab (Fk k 4 (Gg (Oy f) hr (Aw (pv 0) (Dy (pv 1) (pv 3)))))
   (Ab (Xm (Au Ea (Cr By (pv 1) (pv 4) (λ_ _=>I)) Ah) (JJ (pv 1) (pv 4) T6))
   (Ac (Ct (Fg mJ mM mL Dx (pv 2) (Cf (pv 4))))))))
   (Ac (Ay (pv 2))))))),?_]
 let hl:(oA V.int X).length=X.length:=zAb _;let g1:=R.lo;let g2:=R.hi;let gs:=R.sum;let gp:=CR.sum_pos R;refine[_,I,a,X,I,A,R,_,I,?_];refine Gr ?_;refine[_,I,a,I,[_,Al.of A],λb s=>?_];refine Ez (K:=K) (a:=a) (xs:=oA V.int X) (λi d U=>d=(zAe i (0:Int)).map V.int/\U b=g (.lst d)/\Ae H U) [I,Aa,Ad s _]
  (λi d U _ ⟨e,E,S⟩=>[E,by rw[e,zAb,zAC];exact zAm _,Al.of (S _ _ A)]) (by rw[hl,zCy];lia) (λi x d U hi ⟨e,E,S⟩=>?_) (λd U ⟨e,E,S⟩=>?_)
 .show U b=g (.lst d)/\_/\_
  refine[E,I,?_,Aa,λx o z=>?_]
  .rw[e,xM,zAf]
   rfl
  .rw[Ak (Ai z s)]
   exact S x o z
 subst e;rw[hl]at E;refine[zAy _,λr F=>?_];let m:Ae U (upd U r (.lst [])):=Ad F _;let af:a≠b:=Ai A s;let ae:a≠r:=Ai (S _ _ A) F;let ad:b≠r:=Ai E F;let ac:H r=M:=S.free F;refine[_,I,a,X,I,Al.of (m _ _ (S _ _ A)),_,I,Z,Z,Kj (lo:=0) (n:=X.sum.toNat)
  (λi y c=>(∃v u,y=#[g (.ref a),g (.ref b),g (.ref r),v,u])/\c b=g (.lst ((CR.run X i).1.map V.int))/\c r=g (.lst ((CR.run X i).2.map V.int))/\Ae H c)
  [[M,M,I],m _ _ E,Aa,S.trans m] ?_ ?_]
 .rintro i y c hi ⟨⟨v,u,rfl⟩,N,W,p⟩
  let C:=CR.run_at R i;let L:=CR.place_in (t:=i) R C.len C.sum;let ei:(0+(i:Int))=(i:Int):=by lia
  rw[ei];refine[_,I,_,I,_,I,a,b,X,_,i,I,p _ _ A,N,R,C.len,C.sum,λH4 l=>?_];let ab:((CR.run X i).1.map V.int).length=X.length:=by rw[zAb,C.len]
  refine[_,I,_,I,b,_,_,_,I,I,Al.of (l _ _ N),Ml L.1 (by rw[C.len];exact L.2.1),_,_,I,I,?_];refine[_,I,_,I,b,_,_,(CR.place X (CR.run X i).1 i).toNat,I,I,l _ _ N,?_,?_]
  .rw[ab]
   exact cI L.1 L.2.1
  let aa:upd H4 b (.lst (((CR.run X i).1.map V.int).set (CR.place X (CR.run X i).1 i).toNat (.int ((CR.run X i).1.getD (CR.place X (CR.run X i).1 i).toNat 0+1)))) r=g (.lst ((CR.run X i).2.map V.int)):=by
   rw[Ak ad.symm];exact l _ _ W
  refine[_,I,.inl [I,_,Al.of aa],_,I,r,_,_,I,I,aa,?_,?_]
  .rw[zAb,C.row,zCy]
   lia
  refine[[_,_,I],?_,?_,λx o z=>?_]
  .rw[Ak ad,Aa]
   congr 2
   show _=(CR.put _ _).map V.int;unfold CR.put;rw[List.map_set];rfl
  .rw[Aa]
   congr 2
   show _=((CR.run X i).2++#[_]).map V.int;rw[zAf];rfl
  .rw[Ak (Ai z ac),Ak (Ai z s)]
   exact l _ _ (p x o z)
 .rintro y c ⟨⟨v,u,rfl⟩,N,W,p⟩
  exact[_,I,q r c p ac W]
end
def JS(C wt:T):List (J×V):=Cw "weights" (.ref wt) (Cw "wheel" (.ref C) [])
def Qu(z wt:T):(JS z wt).lookup ("weights" : J)=g (.ref wt):=by
 unfold JS;rw[Bo,mS I]
structure jZ(C:T)(H:Hp)(d wh wt:T)(ws:List Int):Prop where
 ob:∃dx,H d=g (.ins C dx (JS wh wt))
 hw:H wh=g (.lst (oA V.int (CR.wheel ws)))
 ht:H wt=g (.lst (oA V.int ws))
def jZ.same{C:T}{H H':Hp}{d z wt:T}{ws:List Int}(D:jZ C H d z wt ws)(s:Ae H H'):jZ C H' d z wt ws:=by
 let[[N,P],L,F]:=D;exact[[N,s _ _ P],s _ _ L,s _ _ F]
structure Dl(K:zAa)(C:T):Prop where
 cl:kF K C
 nW:Bk K C "wheel"
 nG:Bk K C "weights"
def DL{P:mF}{w:mR}{K:zAa}{H:J->Option lV}(C:Pm P w K H b):Dl K Eo:=[C.gx.cl,C.oh,C.bp]
inductive DE(C:T)(vs:List V)(H:Hp)(Q:VK):Prop
 |mk (p:_) (dx:_) (a:_) (ws:_) (z0:vs=#[.ref p,.ref a]) (z1:H p=g (.ins C dx [])) (z2:H a=g (.lst (oA V.int ws))) (z3:CR.GW ws) (z4:∀wh wt H',(∀b o,H b=g o->b≠p->H' b=g o)->jZ C H' p wh wt ws->H wh=M->H wt=M->Q .non H'):DE C vs H Q
def MC(C:T):Sp:=λL H Q x=>DE C L H Q
def Gu{H:Hp}{x dx b:T}{o C:HO}(h:upd (upd H dx o) x C b=M):H b=M:=by
 by_cases e:b=x
 .subst e
  rw[Aa]at h;cases h
 .rw[Ak e]at h
  by_cases z:b=dx
  .subst z
   rw[Aa]at h;cases h
  .rw[Ak z]at h
   exact h
section
variable {P:mF} {w:mR} {K:zAa} {mg:J->Option lV} {base:mX}
def Nb:Cb #["self","weights"] #["self","weights"] (Av Il):=by injections
def Uq(X:Pm P w K mg base){f C:T}(F:Fw K "__init__" "Deal.__init__" Il f n)(L:Dl K C):Ar P w K mg base Jv 4 f n #["self","weights"] (MC C):=by
 let sc:=Nb;bv_omega
 .let[_,_,_,_,rfl,_]:=h
  rfl
 let[p,j,a,v,rfl,t,r,N,q]:=h;refine[_,(Ab (Dj (pv 0) (Gg (WX X) hr (Cf (pv 1))) I)
   (Ac (Dj (pv 0) (Dq Fm I (X.z.nn X.az) (show zCz _=g (.type "list") from rfl) (Cf (pv 1))) I))),?_]
 let x:a≠p:=Jy r t (by intro z;cases z);refine[_,I,a,v,I,r,N,λk u d W m=>?_];refine[_,I,p,C,j,[],I,d _ _ t,L.cl,L.nW,(by show 0<1000;decide),?_];let R:k≠p:=(Ai t W).symm;let i:upd u p (.ins C j (Cw "wheel" (.ref k) [])) a=g (.lst (oA V.int v)):=by rw[Ak x];exact d _ _ r
 refine[_,I,a,_,I,.inl (Al.of i),λl S=>?_];let U:p≠l:=λz=>by rw[<- z,Aa]at S;cases S
 let c:u l=M:=by rw[Ak U.symm]at S;exact S
 refine[_,I,p,C,j,_,I,(by rw[Ak U,Aa]),L.cl,L.nG,(by show 1<1000;decide),?_];refine q k l _ (λb o e y=>?_) [[j,Aa],?_,?_] ?_ ?_
 .rw[Ak y,Ak (Ai (d _ _ e) c),Ak y]
  exact d _ _ e
 .rw[Ak R,Ak (Ai m c),Ak R]
  exact m
 .rw[Ak U.symm,Aa]
 .exact W
 .exact d.free c
end
def A3{C:T}{H H2:Hp}{x dx:T}(F:H x=M)(z:H dx=M)(L:∀b o,(upd (upd H dx (.own x)) x (.ins C dx [])) b=g o->b≠x->H2 b=g o):Ae H H2:=λb o e=>
 L b o (by rw[Ak (Ai e F),Ak (Ai e z)];exact e) (Ai e F)
def KB(p:T)(H H':Hp):Prop:=∀b o,H b=g o->b≠p->H' b=g o
def KB.upd{p:T}{H H':Hp}(k:KB p H H')(o:HO):KB p H (upd H' p o):=λb u e n=>by rw[Ak n];exact k b u e n
def KB.same{p:T}{H H' C:Hp}(k:KB p H H')(s:Ae H' C):KB p H C:=λb u e n=>s _ _ (k b u e n)
def KB.free{p:T}{H H':Hp}{b:T}(k:KB p H H')(n:b≠p)(h:H' b=M):H b=M:=by
 cases z:H b with
 |none=>rfl
 |some o=>
  let:=k _ _ z n;rw[h]at this;cases this
def Ll(l:List J):(l.map V.str).all Hr=B:=by
 rw[rM];exact zBE.mpr λx x=>I
def f1{f C:J}{v:V}{H:List (J×V)}(h:¬C=f):(Cw f v H).lookup C=H.lookup C:=by rw[Bo,mK h]
def f0{f:J}{v:V}{C:List (J×V)}:(Cw f v C).lookup f=g v:=by rw[Bo,mS I]
theorem Ko(f:J)(v:V):∀H:List (J×V),(Cw f v H).length<=H.length+1
 |[]=>zAm _
 |(C,u)::H=>by
  unfold Cw
  split
  .simp
  .have:=Ko f v H
   simp only[zAd]
   lia
abbrev Pr:=V×V
def jT(H:Hp):List V->List Pr->Prop
 |[],[]=>True
 |x::C,p::L=>(∃t,x=.ref t/\H t=g (.tup #[p.1,p.2]))/\jT H C L
 |_,_=>False
theorem jT.len{H:Hp}:∀{xs} {ps},jT H xs ps->xs.length=ps.length
 |[],[],_=>rfl
 |[],_::_,h=>h.elim
 |_::_,[],h=>h.elim
 |x::xs,p::ps,h=>by rw[zAd,zAd,jT.len h.2]
theorem jT.mono{H H':Hp}(s:gJ H H'):∀{xs} {ps},jT H xs ps->jT H' xs ps
 |[],[],_=>trivial
 |[],_::_,h=>h.elim
 |_::_,[],h=>h.elim
 |x::xs,p::ps,[[t,e,h],r]=>[[t,e,s _ _ h],jT.mono s r]
theorem jT.get{H:Hp}:∀{xs} {ps} {i:Nat} {x},jT H xs ps->xs[i]?=g x->∃t p,ps[i]?=g p/\x=.ref t/\H t=g (.tup #[p.1,p.2])
 |[],[],_,_,_,e=>by simp at e
 |[],_::_,_,_,h,_=>h.elim
 |_::_,[],_,_,h,_=>h.elim
 |x::xs,p::ps,0,y,[[t,e,h],r],q=>by
  simp at q;subst q;exact[t,p,I,e,h]
 |x::xs,p::ps,i+1,y,[_,r],q=>by
  let[t,z,C,F]:=jT.get (i:=i) r (by simpa using q);exact[t,z,by simpa using C,F]
theorem jT.app{H:Hp}:∀{xs} {ps} {ys} {F},jT H xs ps->jT H ys F->jT H (xs++ys) (ps++F)
 |[],[],_,_,_,h=>h
 |[],_::_,_,_,r,_=>r.elim
 |_::_,[],_,_,r,_=>r.elim
 |x::xs,p::ps,_,_,[z,r],h=>[z,jT.app r h]
def jT.one{H:Hp}{t:T}{a b:V}(h:H t=g (.tup #[a,b])):jT H #[.ref t] #[(a,b)]:=[[t,I,h],trivial]
def Jt(l:List V):Prop:=∃C:List J,l=C.map V.str/\(∀z∈C,nameV (.str z)=B)/\C.Nodup
structure kG(C CD:T)(H:Hp)(p cl hv d wh wt:T)(nm:J)(cd wv:V)(cs:List V)(hs:List V)(ws:List Int):Prop where
 ob:∃dx fs,H p=g (.ins C dx fs)/\fs.lookup ("name" : J)=g (.str nm)/\fs.lookup ("condition" : J)=g cd/\fs.lookup ("clauses" : J)=g (.ref cl)/\fs.lookup ("houses" : J)=g (.ref hv)/\fs.lookup ("deal" : J)=g (.ref d)/\fs.lookup ("waits" : J)=g wv/\fs.lookup ("asks" : J)=M
 hc:H cl=g (.lst cs)
 hh:H hv=g (.lst hs)
 hd:jZ CD H d wh wt ws
def kG.same{C P:T}{H H':Hp}{p cl F d S wt:T}{nm:J}{cd L:V}{cs z:List V}{ws:List Int}(h:kG C P H p cl F d S wt nm cd L cs z ws)(s:Ae H H'):kG C P H' p cl F d S wt nm cd L cs z ws:=by
 let[[Q,R,e,r],W,U,N]:=h;exact[[Q,R,s _ _ e,r],s _ _ W,s _ _ U,N.same s]
def TD(H:Hp)(L:V)(cs:List V):Prop:=(L=.non/\cs=[])\/∃C,L=.ref C/\H C=g (.lst cs)
def CZ(H:Hp)(x N:V)(C:List Pr):Prop:=(N=.non/\C=#[(x,.int 1)])\/∃P L,N=.ref P/\H P=g (.lst L)/\jT H L C
def Zg(x:V):Prop:=nameV x=B/\x≠.str "self"
inductive KD(C CD:T)(vs:List V)(H:Hp)(Q:VK):Prop
 |mk (p:_) (dx:_) (nm:_) (cd:_) (cv:_) (cs:_) (hv:_) (prs:_) (wv:_) (hs:List J) (ws:List Int) (z0:vs=#[.ref p,.str nm,cd,cv,hv,wv]) (z1:H p=g (.ins C dx [])) (z2:Zg (.str nm)) (z3:nm.length<=8) (z4:TD H cv cs) (z5:cs.length<=8) (z6:CZ H (.str nm) hv prs) (z7:prs.map (·.1)=hs.map V.str) (z8:(∀z∈hs,nameV (.str z)=B/\z.length<=900)) (z9:hs.Nodup) (z10:prs.map (·.2)=ws.map V.int) (z11:CR.GW ws) (z12:∀cl h1 d wh wt H',KB p H H'->kG C CD H' p cl h1 d wh wt nm cd wv cs (prs.map (·.1)) ws->H cl=M->H h1=M->H d=M->H wh=M->H wt=M->Q .non H'):KD C CD vs H Q
def IE(C N:T):Sp:=λL H Q x=>KD C N L H Q
def Uz:V->Bool
 |.int i=>decide (1<=i)
 |_=>lX
def OF(K:zAa)(H:Hp)(x:V):Prop:=(∃C,Cy K H x (.type C)/\C ≠ "list")\/∃a L,x=.ref a/\H a=g (.lst L)/\(∀y∈L,∃C,Cy K H y (.type C)) /\
 (L.length<1\/8<L.length\/(∃y∈L,Uz y=lX)\/∃N:List Int,L=N.map V.int/\100<N.sum)
def Cy.same{K:zAa}{H H':Hp}{x:V}{t:lV}(h:Cy K H x t)(s:Ae H H'):Cy K H' x t:=by
 cases h with
 |non=>exact .non
 |bl b=>exact .bl b
 |int i=>exact .int i
 |str i=>exact .str i
 |flt i=>exact .flt i
 |lst e=>exact .lst (s _ _ e)
 |frz e=>exact .frz (s _ _ e)
 |tup e=>exact .tup (s _ _ e)
 |dK e=>exact .dK (s _ _ e)
 |dT e=>exact .dT (s _ _ e)
 |ins e C F N z L=>exact .ins (s _ _ e) C F N z L
def T2{K:zAa}{H:Hp}{x:V}{T:String}(h:Cy K H x (.type T))(z:T ≠ "list"):zAL K (.type T) (.type "list")=g lX:=by
 cases h with
 |non=>kernel_rfl
 |bl b=>kernel_rfl
 |int i=>kernel_rfl
 |str i=>kernel_rfl
 |flt i=>kernel_rfl
 |lst e=>exact mC I z
 |frz e=>exact mC I z
 |tup e=>kernel_rfl
 |dK e=>kernel_rfl
 |dT e=>kernel_rfl
theorem Zl:∀{xs},(∀y∈xs,Uz y=B)->∃F:List Int,xs=F.map V.int
 |[],_=>[[],I]
 |y::xs,h=>by
  let[F,e]:=Zl (xs:=xs) λz L=>h z (zAh _ L);let C:=h y zAl;cases y with
  |int i=>exact[i::F,by rw[e];rfl]
  |_=>exact mC (show lX=B from C) zAn
inductive JC(K:zAa)(vs:List V)(H:Hp)(Q:VK):Prop
 |mk (x:_) (z0:vs=#[x]) (z1:OF K H x) (z2:Q (.bl lX) H)
def OX(K:zAa):Sp:=λC H Q L=>JC K C H Q
inductive BB(K:zAa)(Cn:T)(vs:List V)(H:Hp)(E:XK):Prop
 |mk (x:_) (z0:vs=#[x]) (z1:OF K H x) (z2:E (.ref Cn) M H)
def FU(K:zAa)(L:T):Sp:=λC H N E=>BB K L C H E
inductive HH(K:zAa)(Cn:T)(vs:List V)(H:Hp)(E:XK):Prop
 |mk (a:_) (x:_) (z0:vs=#[.ref a,x]) (z1:OF K H x) (z2:E (.ref Cn) M H)
def S8(K:zAa)(L:T):Sp:=λC H N E=>HH K L C H E
section
variable {P:mF} {w:mR} {K:zAa} {mg:J->Option lV} {base:mX}
def OS(W:Pm P w K mg base):Jc W 2 "are_weights" #["thing"] (OX K):=Os W.z W.gj #["thing","weight"] df λp H Q r h=>by
 let[x,rfl,F,q]:=h;refine[_,(Ab (Ce (Et (Eb (Ix Ec W.z W.ad (Dy (pv 0) (La "list" rfl (W.z.nn W.az) I)))))
    (Ac (Ay Hw))
    Be)
   (Ab (Ce (PW.pt (Jg (Ax Mm (Ix Bg W.z W.ag (Cf (pv 0))) Ah (Bf _)) (Gv (Ax Tq (Ix Bg W.z W.ag (Cf (pv 0))) (Vr W.z W.gq) (Bf _)))))
    (Ac (Ay Hw))
    Be)
   (Ab (Gc nK I (Em (pv 0)) (Ot p 1)
    (Ac (Ce (PW.pt (Jg (Et (Eb (Gg (Qm W) r (Cf (pv 1))))) (Gv (Ax Mm (pv 1) Ah (Bf _)))))
    (Ac (Ay Hw))
    Be)))
   (Ac (Ay (Nr Tg (Ix (Pb I) W.z W.gr (Cf (pv 0))) (Vr W.z W.i9) (Bf _))))))),?_]
 rcases F with ⟨m,A,l⟩|⟨a,xs,rfl,L,C,F⟩
 .refine[_,I,_,_,_,_,_,I,Ie,A,T2 A l,_,I,?_]
  exact Fc q
 refine[_,I,_,_,_,_,_,I,Ie,.lst L,K0,_,I,?_];refine Gr ?_;refine[_,I,a,_,I,.inl (Al.of L),_,_,I,I,_,I,?_];by_cases u:xs.length<1
 .exact dT Z (Fc q)
 refine dF Z ?_;refine[_,I,a,_,I,.inl (Al.of L),_,_,I,I,_,I,?_];by_cases s:8<xs.length
 .exact dT Z q
 refine dF Z ?_;refine[_,I,a,I,[_,Al.of L],Po (K:=K) (a:=a) (xs:=xs) (λi E N=>((∃o,E=#[g (.ref a),o])/\N=H)/\∀j y,j<i->xs[j]?=g y->Uz y=B) [[[M,I],I],λ_ _ z=>mC z (zBL _)]
  (λi E N _ ⟨⟨_,e⟩,_⟩=>by rw[e];exact Al.of L) ?_ ?_]
 .rintro i y E N k ⟨⟨⟨o,rfl⟩,rfl⟩,X⟩
  let[v,A]:=C y (zAz k);refine[_,I,_,_,I,A,_,I,?_];let S:Uz y=B->∀j z,j<i+1->xs[j]?=g z->Uz z=B:=λt j z c R=>by
   by_cases e:j=i
   .subst e
    rw[k]at R;cases R;exact t
   .exact X j z Z R
  cases y with
  |int n=>
   refine Gr ?_;refine[_,I,_,_,I,I,_,I,?_];by_cases f:n<1
   .exact dT f q
   .exact dF f [[[_,I],I],S (mV Z)]
  |_=>exact Fc (Fc q)
 .rintro E N ⟨⟨⟨o,rfl⟩,rfl⟩,X⟩
  let b:∀y∈xs,Uz y=B:=λy U=>by
   let[j,c,e]:=zBu U;exact X j y c (by rw[zAi c,e])
  rcases F with F|F|⟨y,U,F⟩|⟨d,rfl,F⟩
  .exact mC F u
  .exact mC F s
  .rw[b y U]at F
   cases F
  .refine[_,I,a,d,I,Al.of L,_,_,I,I,?_]
   show Q (.bl (decide (d.sum<=100))) N;rw[mQ Z];exact q
def GS(C:Pm P w K mg base):Qr P w K mg base 3 "turns" #["weights"] (FU K Go):=TX C.z C.me #["weights","dealt","wheel","turn","place"] (dg λR H Q E h=>by
  let[_,rfl,_]:=h;rfl) λL H Q E N h=>by
 let[x,rfl,z,q]:=h;refine[_,(Ab (Ce (Et (Eb (Gg (OS C) N (Cf (pv 0)))))
    (Ac (Eh Bt I (Zf C.z C.j3 C.qt) I (Cf Aj)))
    Be)
   (Ab (Nk (NC:=#["weight"]) (own:=#["weight"]) (cs:=[]) (ix:=[]) (j:=1) L.nd I I I (Az.of I) I trivial (Em (pv 0)) (λy y y=>(Xa 0)) (λy y y=>Fh) (λy y y=>Ah))
   (Ab (Fk L 2 (Ca Iw))
   (Ab (Gc oZ I (Gb I (C.z.nn C.ay) (Cf (Ix (Pb I) C.z C.gr (Cf (pv 0))))) (Ot L 3)
    (Ab (Fk L 4 (Gg (Oy C) N (Aw (pv 0) (Dy (pv 1) (pv 3)))))
   (Ab (Xm (Au Ea (Cr By (pv 1) (pv 4) (λy y=>I)) Ah) (JJ (pv 1) (pv 4) T6))
   (Ac (Ct (Fg mJ mM mL Dx (pv 2) (Cf (pv 4))))))))
   (Ac (Ay (pv 2))))))),?_]
 exact[_,I,x,I,z,_,I,Fc [Ck (by show 1<=1000;decide),q]]
def BD(L:Pm P w K mg base){f C:T}(F:Fw K "__init__" "Deal.__init__" Il f b) :
  Ar P w K mg base (Nt P w) 4 f b #["self","weights"] (S8 K Go):=by
 let R:=Nb;refine F.okX R (λX H Q E h=>?_) (λU A N s H X Q E W h=>?_)
 .let[_,_,rfl,_]:=h
  rfl
 let[a,x,rfl,z,q]:=h;refine[_,(Ab (Dj (pv 0) (Eu (GS L) (W.mono Y) Bt I (Cf (pv 1))) I)
   (Ac (Dj (pv 0) (Dq Fm I (L.z.nn L.az) (show zCz _=g (.type "list") from rfl) (Cf (pv 1))) I))),?_]
 exact[_,I,x,I,z,q]
def cK(L:Pm P w K mg base):Te P w K mg base 4 "Deal" Eo #["self","weights"] (λvs H Q E=>MC Eo vs H Q E\/S8 K Go vs H Q E):=iB L.z L.gx L.lg bd λf N F=>Ar.or (Ar.toX (Uq L F (DL L))) (BD (C:=Eo) L F)
end
def Y6(l:List V):Prop:=∃C:List Int,l=C.map V.int/\CR.GW C
def R9{l:List V}{z:J}(C:Jt l)(n:nameV (.str z)=B)(L:Wb (.str z) l=lX):Jt (l++#[.str z]):=by
 let[H,rfl,P,S]:=C;refine[H++#[z],by rw[zAf];rfl,λy F=>?_,?_]
 .rcases zAE.mp F with F|F
  .exact P y F
  .rw[zAp.mp F];exact n
 .rw[zBg]
  refine[S,List.pairwise_singleton _ _,λa N b U e=>?_];rw[zAp.mp U]at e;subst e;unfold Wb at L;rw[rL,zCs]at L;exact L a N (by show Px (.str a) (.str a)=B;simp[Px])
def Vf{l:List V}(k:Nat)(C:Jt l):Jt (l.take k):=by
 let[H,rfl,N,L]:=C;exact[H.take k,by rw[sU],λz F=>N z (zAW F),L.sublist (tR _ _)]
def Va{l:List V}{x:V}(C:Jt (l++#[x])):∃z,x=.str z/\nameV (.str z)=B/\Wb (.str z) l=lX:=by
 let[H,e,Q,F]:=C;rcases xC H with rfl|⟨R,z,rfl⟩
 .simp at e
 rw[xE]at e Q F;rw[zAf]at e;let[U,P]:=List.append_inj' e I;let L:x=.str z:=by simpa using P
 refine[z,L,Q z zZ,?_];rw[U];unfold Wb;rw[rL,zCs];intro y S c;let N:Px (.str y) (.str z)=B:=c;let:y=z:=by simpa[Px]using N
 subst this;rw[zBg]at F;exact F.2.2 y S y zZ I
def UV{K:zAa}{H:Hp}{a:lU}{xs:List V}(h:H a=g (.lst xs))(Q:∀y∈xs,∃T,Cy K H y (.type T))(n:¬Y6 xs):OF K H (.ref a):=by
 refine .inr [a,xs,I,h,Q,?_];by_cases S:xs.length<1
 .exact .inl S
 by_cases U:8<xs.length
 .exact .inr (.inl U)
 by_cases F:∃y∈xs,Uz y=lX
 .exact .inr (.inr (.inl F))
 let[L,rfl]:=Zl (xs:=xs) λy C=>by
  cases z:Uz y with
  |true=>rfl
  |false=>exact mC [y,C,z] F
 refine .inr (.inr (.inr [L,I,?_]));by_cases N:100<L.sum
 .exact N
 .refine mC [L,I,?_] n
  rw[zAb]at S U;refine[Z,Z,λi R=>?_,Z];by_cases P:1<=i
  .exact P
  .exact mC [_,zAv.mpr [i,R,I],mQ P] F
inductive AU(K:zAa)(Cn:lU)(vs:List V)(H:Hp)(Q:VK)(E:XK):Prop
 |mk (a:_) (hs:_) (z0:vs=#[.ref a]) (z1:H a=g (.lst hs)) (z2:hs.length<=900) (z3:(∀y∈hs,okX y/\∃T,Cy K H y (.type T))) (z4:(Jt hs->∀H',Ae H H'->Q .non H')) (z5:(¬Jt hs->∀H',Ae H H'->E (.ref Cn) M H'))
def GP(K:zAa)(L:T):Sp:=λC H Q E=>AU K L C H Q E
inductive SA(K:zAa)(C CD Cn Cs:lU)(vs:List V)(H:Hp)(Q:VK)(E:XK):Prop
 |mk (p:_) (dx:_) (x:_) (T:_) (cd:_) (cv:_) (cs:_) (hv:_) (prs:_) (wv:_) (z0:vs=#[.ref p,x,cd,cv,hv,wv]) (z1:H p=g (.ins C dx [])) (z2:Cy K H x (.type T)) (z3:okX x) (z4:TD H cv cs) (z5:CZ H x hv prs) (z6:prs.length<=900) (z7:(∀z∈prs,okX z.1/\(∃T,Cy K H z.1 (.type T))/\∃T,Cy K H z.2 (.type T))) (z8:(¬Zg x\/8<cs.length\/¬Jt (prs.map (·.1))->∀H',KB p H H'->E (.ref Cn) M H')) (z9:(Zg x->cs.length<=8->Jt (prs.map (·.1))->¬Y6 (prs.map (·.2))->∀H',KB p H H'->E (.ref Cs) M H')) (z10:(∀nm ws,x=.str nm->Zg x->cs.length<=8->Jt (prs.map (·.1))->prs.map (·.2)=ws.map V.int->CR.GW ws->∀cl h1 d wh wt H',KB p H H'->kG C CD H' p cl h1 d wh wt nm cd wv cs (prs.map (·.1)) ws->H cl=M->H h1=M->H d=M->H wh=M->H wt=M->Q .non H'))
def BF(K:zAa)(C P N R:T):Sp:=λL H Q E=>SA K C P N R L H Q E
def Cy.put{K:zAa}{H H':Hp}{x:V}{T:String}{p C dx:lU}{N:List (J×V)}(t:Cy K H x (.type T))(P:H p=g (.ins C dx N))(k:KB p H H'):Cy K H' x (.type T):=by
 let L:∀{a:lU} {o:HO},H a=g o->(∀C dx N,o≠.ins C dx N)->a≠p:=λe h z=>by
  subst z;rw[P]at e;injection e with e;exact h _ _ _ e.symm
 cases t with
 |non=>exact .non
 |bl b=>exact .bl b
 |int i=>exact .int i
 |str i=>exact .str i
 |flt i=>exact .flt i
 |lst e=>exact .lst (k _ _ e (L e (λy y y=>nofun)))
 |frz e=>exact .frz (k _ _ e (L e (λy y y=>nofun)))
 |tup e=>exact .tup (k _ _ e (L e (λy y y=>nofun)))
 |dK e=>exact .dK (k _ _ e (L e (λy y y=>nofun)))
 |dT e=>exact .dT (k _ _ e (L e (λy y y=>nofun)))
section
variable {P:mF} {w:mR} {K:zAa} {mg:J->Option lV} {base:mX}
def Yv(X:Pm P w K mg base):Qr P w K mg base 3 "check_houses" #["houses"] (GP K Kl):=TX X.z X.mf #["houses","k","house"] (dg λvs H Q E h=>by
  let[_,_,rfl,_]:=h;rfl) λu H Q E hr h=>by
 let[a,A,rfl,p,l9,ty,q,r]:=h;refine[_,(Ac (Gc oZ I (Wa I (X.z.nn X.bt) (Cf (pv 0))) (Oc (n:=2) I (Dw (Ot u 1) (Dw (Ot u 2) Km)))
    (Ac (Ce (PW.pt (Jg (Et (Eb (Gg (Yd X) hr (Cf (pv 2))))) (Gv (Ax Ng (pv 2) (Js Lf (pv 0) Lg (Le (pv 1))) I))))
    (Ac (Eh Bt I (Zf X.z X.dh X.gf) I (Cf Aj)))
    Be)))),?_]
 let d:1<=sizeLine:=by rw[zCy];decide
 refine[_,I,a,I,[_,Al.of p],Sh (K:=K) (a:=a) (xs:=A) (λi j N=>((∃o C,j=#[g (.ref a),o,C])/\Jt (A.take i))/\Ae H N) [[[M,M,I],[[],I,λ_ z=>(nomatch z),rW]],λ_ _ z=>z] (λi j N _ ⟨_,e⟩=>Al.of (e _ _ p)) ?_ ?_]
 .rintro i x j N t b ⟨⟨⟨o,C,rfl⟩,R⟩,U⟩ nt
  let[ok,T0,W]:=ty x (zAz b);let f:=U.trans (Ad nt (.tup #[.int i,x]));let il:i<A.length:=(zAs.mp b).1;let no:∀{z:J},x=.str z->(nameV x=lX\/Wb x (A.take i)=B)->¬Jt A:=λe h k=>by
   let F:=Vf (i+1) k;rw[Df b]at F;let[z,L,s,v]:=Va F;rw[L]at h;rcases h with h|h
   .rw[s]at h;cases h
   .rw[v]at h;cases h
  let S:nameV x=lX->¬Jt A:=λh k=>by
   let F:=Vf (i+1) k;rw[Df b]at F;let[z,L,s,v]:=Va F;rw[L,s]at h;cases h
  refine[_,I,_,_,I,Cy.same W f,ok,_,I,?_];cases l:nameV x with
  |false=>exact Fc (Fc [d,r (S l) _ f])
  |true=>
   refine Gr ?_;obtain⟨z,rfl⟩:∃z,x=.str z:=by
    cases x with
    |str z=>exact[z,I]
    |_=>exact mC (show lX=B from l) zAn
   refine[_,I,_,I,_,I,_,I,a,_,I,Al.of (f _ _ p),λm nm=>?_];let ec:Qs A M (g (i:Int))=A.take i:=by
    unfold Qs;let L:HT.sIx A.length A.length (g (i:Int))=i:=by rw[HT.sIx_nat];lia
    rw[L,HT.sIx_none,sI,Nat.sub_zero]
   let y:=f.trans (Ad nm (.lst (Qs A M (g (i:Int)))));let fl:(A.take i).all Hr=B:=by
    let[ns,e,_]:=R;rw[e];exact Ll ns
   refine[m,A.take i,I,.inl (Al.of (by rw[Aa,ec])),I,fl,_,I,?_];show if Wb (.str z) (A.take i)=B then _ else _;cases c:Wb (.str z) (A.take i)with
   |true=>exact Fc [d,r (no I (.inr c)) _ y]
   |false=>exact Gr [[[_,_,I],by rw[Df b];exact R9 R l c],y]
 .rintro j N ⟨⟨⟨o,C,rfl⟩,R⟩,U⟩
  rw[zAB]at R;exact q R _ U
end
def M5{c:Prop}{N:Decidable c}{t u:TE}{σ:St}{H:Hp}{Q:VK}(C:V->Hp->Prop)(P:c->∀F:VK,(∀v H',C v H'->F v H')->t σ H F)(L:¬c->∀F:VK,(∀v H',C v H'->F v H')->u σ H F)(R:∀v H',C v H'->Q v H') :
  @ite Prop c N (t σ H Q) (u σ H Q):=by
 by_cases z:c
 .rw[mS z];exact P z Q R
 .rw[mK z];exact L z Q R
section
variable {P:mF} {w:mR} {K:zAa} {mg:J->Option lV} {base:mX}
def Sg:Cb #["self","name","condition","clauses","houses","waits","pairs"] #["self","name","condition","clauses","houses","waits"] (Av Ff):=by injections
seal L2.PS L2.PSs L2.PE L2.PA
def Xn(W:Pm P w K mg base){f:T}{fd:zCA}(F:kU K "__init__" "Cover.__init__" Ff f fd):Ar P w K mg base (Nt P w) 6 f fd #["self","name","condition","clauses","houses","waits"] (BF K Bw Eo Kl Go):=by
 let sc:=Sg;refine F.okX sc (λvs H Q E h=>?_) (λb4 A b3 s H vs Q E hr h=>?_)
 .let[_,_,_,_,_,_,_,_,_,_,rfl,_]:=h
  rfl
 let[p,u,x,T0,cd,cv,cs,hv,b0,wv,rfl,hp,ty,a8,an,as,l9,av,rN,rS,q]:=h;refine[_,(Ab (Ce (PW.pt (Jg (Et (Eb (Gg (Yd W) hr (Cf (pv 1))))) (Gv (Ax Dv (pv 1) (E4 (W.z.gs W.ou) I) (Bf _)))))
    (Ac (Eh Bt I (Zf W.z W.dh W.gf) I (Cf Aj)))
    Be)
   (Ab (Dj (pv 0) (pv 1) I)
   (Ab (Dj (pv 0) (pv 2) I)
   (Ab (Dj (pv 0) (Iz (Ax Xr (pv 3) Kf (Bf _)) (Ca Iw) (Dq Fm I (W.z.nn W.az) (show zCz _=g (.type "list") from rfl) (Cf (pv 3)))) I)
   (Ab (Ce (Ax Tq (Ix Bg W.z W.ag (Cf (Cj (pv 0) I))) (Vr W.z W.ng) (Bf _))
    (Ac (Eh Bt I (Zf W.z W.dh W.gf) I (Cf Aj)))
    Be)
   (Ab (Fk sc 6 (Iz (Ax Xr (pv 4) Kf (Bf _)) (Ca (Cf (Du (Dy (pv 1) Ah)))) (pv 4)))
   (Ab (Dj (pv 0) (Hv (NC:=#["pair"]) (own:=#["pair"]) (cs:=[]) (ix:=[]) I (Az.of I) I trivial (Em (pv 6)) (λ_ _ _=>(Xa 0)) (λ_ _ _=>Fh) (λ_ _ _=>(iQ K (pv 0) Ah))) I)
   (Ab (Ct (Eu (Yv W) (hr.mono Y) Bt I (Cf (Cj (pv 0) I))))
   (Ab (Dj (pv 0) (Pd (cK W) (hr.mono Y) Bt I (Cf (Hv (NC:=#["pair"]) (own:=#["pair"]) (cs:=[]) (ix:=[]) I (Az.of I) I trivial (Em (pv 6)) (λ_ _ _=>(Xa 0)) (λ_ _ _=>Fh) (λ_ _ _=>(iQ K (pv 0) Ah))))) I)
   (Ac (Dj (pv 0) (pv 5) I))))))))))),?_]
 refine Je λN j=>?_;let b1:1<=sizeLine:=by rw[zCy];decide
 let bj:2<=sizeLine:=by rw[zCy];decide
 let b2:∀{H':Hp},KB p H H'->gJ H H':=λk t zs e=>k _ _ e (Jy e hp (by intro z;cases z));let k0:KB p H H:=λ_ _ e _=>e;refine[_,I,_,_,I,ty,a8,_,I,?_];cases nx:nameV x with
 |false=>exact Fc (Fc [b1,rN (.inl λC=>by rw[C.1]at nx;cases nx) _ k0])
 |true=>
 refine Gr ?_;obtain⟨n,rfl⟩:∃z,x=.str z:=by
  cases x with
  |str z=>exact[z,I]
  |_=>exact mC (show lX=B from nx) zAn
 refine[_,I,I,_,I,?_];by_cases ns:V.str n=V.str "self"
 .exact dT ns [b1,rN (.inl λC=>C.2 ns) _ k0]
 refine dF ns ?_;let gn:Zg (.str n):=[nx,ns]
 first|refine Fn j λN j=>?_|subst j
 refine[_,I,_,I,p,Bw,u,[],I,hp,W.ao.cl,W.bj,Y,?_]
 first|refine Fn j λN j=>?_|subst j
 refine[_,I,_,I,p,Bw,u,_,I,Aa,W.ao.cl,W.d9,zCo (Ko _ _ _) Y,?_];let k2:KB p H (upd (upd H p (.ins Bw u (Cw "name" (.str n) []))) p (.ins Bw u (Cw "condition" cd (Cw "name" (.str n) [])))):=KB.upd (KB.upd k0 _) _;let e2:upd (upd H p (.ins Bw u (Cw "name" (.str n) []))) p (.ins Bw u (Cw "condition" cd (Cw "name" (.str n) []))) p=g (.ins Bw u (Cw "condition" cd (Cw "name" (.str n) []))):=Aa;let g2:(Cw "condition" cd (Cw "name" (.str n) [])).length<=2:=zAG (Ko _ _ _) (uR (Ko _ _ _));let n2:(Cw "condition" cd (Cw "name" (.str n) [])).lookup ("name" : J)=g (.str n):=by rw[f1 G,f0]
 let c2:(Cw "condition" cd (Cw "name" (.str n) [])).lookup ("condition" : J)=g cd:=f0;let a2:(Cw "condition" cd (Cw "name" (.str n) [])).lookup ("asks" : J)=M:=by rw[f1 G,f1 G];rfl
 generalize Cw "condition" cd (Cw "name" (.str n) [])=S at k2 e2 g2 n2 c2 a2;generalize upd (upd H p (.ins Bw u (Cw "name" (.str n) []))) p (.ins Bw u S)=H2 at k2 e2
 first|refine Fn j λN j=>?_|subst j
 refine[_,I,I,_,I,?_];refine M5 (λv H'=>∃l,v=.ref l/\H2 l=M/\H'=upd H2 l (.lst cs)) (λc Q' k=>?_) (λc Q' k=>?_) ?_
 .have c':cv=.non:=mU c
  rcases an with ⟨_,rfl⟩|⟨c0,e,_⟩
  .exact[zAy _,λl R=>k _ _ [l,I,R,I]]
  .rw[c']at e;cases e
 .have c':cv≠.non:=λe=>c (mV e)
  rcases an with ⟨e,_⟩|⟨c0,rfl,hc⟩
  .exact mC e c'
  .have aj:c0≠p:=Jy hc hp (by intro z;cases z)
   exact[_,I,c0,_,I,.inl (Al.of (k2 _ _ hc aj)),λl R=>k _ _ [l,I,R,I]]
 rintro v H3 ⟨l,rfl,R,rfl⟩;let s3:=Ad R (.lst cs);let X:l≠p:=(Ai e2 R).symm;refine[_,I,p,Bw,u,S,I,s3 _ _ e2,W.ao.cl,W.bn,Z,?_];let k3:KB p H (upd (upd H2 l (.lst cs)) p (.ins Bw u (Cw "clauses" (.ref l) S))):=(k2.same s3).upd _;let e3:upd (upd H2 l (.lst cs)) p (.ins Bw u (Cw "clauses" (.ref l) S)) p=g (.ins Bw u (Cw "clauses" (.ref l) S)):=Aa;let c3:upd (upd H2 l (.lst cs)) p (.ins Bw u (Cw "clauses" (.ref l) S)) l=g (.lst cs):=by rw[Ak X,Aa]
 let bf:H l=M:=k2.free X R;let g3:(Cw "clauses" (.ref l) S).length<=3:=zAG (Ko _ _ _) Z;let w3:(Cw "clauses" (.ref l) S).lookup ("clauses" : J)=g (.ref l):=f0;let n3:(Cw "clauses" (.ref l) S).lookup ("name" : J)=g (.str n):=by rw[f1 G];exact n2
 let d3:(Cw "clauses" (.ref l) S).lookup ("condition" : J)=g cd:=by rw[f1 G];exact c2
 let a3:(Cw "clauses" (.ref l) S).lookup ("asks" : J)=M:=by rw[f1 G];exact a2
 generalize Cw "clauses" (.ref l) S=L at k3 e3 c3 g3 w3 n3 d3 a3;generalize upd (upd H2 l (.lst cs)) p (.ins Bw u L)=H3 at k3 e3 c3
 first|refine Fn j λN j=>?_|subst j
 refine[_,I,p,Bw,u,L,_,I,e3,W.ao.cl,W.bn,w3,l,_,I,.inl (Al.of c3),_,_,I,I,_,I,?_];by_cases l8:8<cs.length
 .exact dT Z [b1,rN (.inr (.inl l8)) _ k3]
 refine dF Z ?_;let au:cs.length<=8:=by lia
 first|refine Fn j λN j=>?_|subst j
 refine[_,I,I,_,I,?_];refine M5 (λv H'=>∃pl ys,v=.ref pl/\Ae H3 H'/\H' pl=g (.lst ys)/\jT H' ys b0) (λc Q' k=>?_) (λc Q' k=>?_) ?_
 .have c':hv=.non:=mU c
  rcases as with ⟨_,rfl⟩|⟨c0,_,e,_⟩
  .refine[_,I,bj,λt nt=>[b1,λpl ay=>k _ _ [pl,#[.ref t],I,(Ad nt _).trans (Ad ay _),Aa,jT.one (Ad ay _ _ _ Aa)]]]
  .rw[c']at e;cases e
 .have c':hv≠.non:=λe=>c (mV e)
  rcases as with ⟨e,_⟩|⟨h0,ys,rfl,hh,ph⟩
  .exact mC e c'
  .have aj:h0≠p:=Jy hh hp (by intro z;cases z)
   exact[_,I,k _ _ [h0,ys,I,λ_ _ z=>z,k3 _ _ hh aj,ph.mono (b2 k3)]]
 rintro v H4 ⟨pl,ys,rfl,s4,ep,pp⟩;refine Ic #[g (.ref p),g (.str n),g cd,g cv,g hv,g wv,g (.ref pl)] rfl ?_
 first|refine Fn j λN j=>?_|subst j
 let e4:=s4 _ _ e3;let c4:=s4 _ _ c3;let k4:=k3.same s4;let lp:=pp.len;let a9:pl≠p:=Jy ep e4 (by intro z;cases z);refine[_,I,pl,I,[_,Al.of ep],λm nh=>?_];refine Ez (K:=K) (a:=pl) (xs:=ys) (λi zs H5=>zs=((b0.take i).map (·.1))/\H5 m=g (.lst zs)/\Ae H4 H5) [I,Aa,Ad nh _]
  (λi zs H5 _ ⟨e,aa,s5⟩=>[aa,by rw[e,zAb,zAq];lia,Al.of (s5 _ _ ep)]) (by rw[zCy];lia) (λi x zs H5 hi ⟨e,aa,s5⟩=>?_) (λzs H5 ⟨e,aa,s5⟩=>?_)
 .let[t,r,ak,rfl,ht]:=pp.get hi
  refine[_,I,t,_,_,_,I,I,Da.of (s5 _ _ ht),I,aa,I,?_,Aa,λb o z=>?_]
  .rw[Df ak,zAf,e]
   rfl
  .rw[Ak (Ai z nh)]
   exact s5 b o z
 subst e;rw[lp,zAB]at aa;let e5:=s5 _ _ e4;let k5:=k4.same s5;let ae:m≠p:=(Ai e4 nh).symm;let ba:H m=M:=k4.free ae nh;refine[_,I,p,Bw,u,L,I,e5,W.ao.cl,W.bf,Z,?_];let e6:upd H5 p (.ins Bw u (Cw "houses" (.ref m) L)) p=g (.ins Bw u (Cw "houses" (.ref m) L)):=Aa;let h6:upd H5 p (.ins Bw u (Cw "houses" (.ref m) L)) m=g (.lst (b0.map (·.1))):=by rw[Ak ae];exact aa
 let af:upd H5 p (.ins Bw u (Cw "houses" (.ref m) L)) pl=g (.lst ys):=by rw[Ak a9];exact s5 _ _ ep
 let c6:upd H5 p (.ins Bw u (Cw "houses" (.ref m) L)) l=g (.lst cs):=by rw[Ak X];exact s5 _ _ c4
 let ag:jT (upd H5 p (.ins Bw u (Cw "houses" (.ref m) L))) ys b0:=pp.mono λt zs z=>by
  let z':=s5 _ _ z;rw[Ak (Jy z' e5 (by intro e;cases e))];exact z'
 let k6:KB p H (upd H5 p (.ins Bw u (Cw "houses" (.ref m) L))):=k5.upd _;let g6:(Cw "houses" (.ref m) L).length<=4:=zAG (Ko _ _ _) Z;let v6:(Cw "houses" (.ref m) L).lookup ("houses" : J)=g (.ref m):=f0;let w6:(Cw "houses" (.ref m) L).lookup ("clauses" : J)=g (.ref l):=by rw[f1 G];exact w3
 let n6:(Cw "houses" (.ref m) L).lookup ("name" : J)=g (.str n):=by rw[f1 G];exact n3
 let d6:(Cw "houses" (.ref m) L).lookup ("condition" : J)=g cd:=by rw[f1 G];exact d3
 let a6:(Cw "houses" (.ref m) L).lookup ("asks" : J)=M:=by rw[f1 G];exact a3
 generalize Cw "houses" (.ref m) L=U at e6 h6 af c6 ag k6 g6 v6 w6 n6 d6 a6;generalize upd H5 p (.ins Bw u U)=H6 at e6 h6 af c6 ag k6
 first|refine Fn j λN j=>?_|subst j
 refine[_,I,p,Bw,u,U,_,I,e6,W.ao.cl,W.bf,v6,m,b0.map (·.1),I,h6,by rw[zAb];exact l9,λy hy=>?_,λgh H7 s7=>?_,λbg H7 s7=>rN (.inr (.inr bg)) _ (k6.same s7)]
 .let[z,hz,rfl]:=zAv.mp hy
  let[o1,[T1,t1],_]:=av z hz;exact[o1,T1,Cy.put t1 hp k6]
 let e7:=s7 _ _ e6;let c7:=s7 _ _ c6;let h7:=s7 _ _ h6;let ar:=s7 _ _ af;let bc:=ag.mono (Jb s7);let k7:=k6.same s7
 first|refine Fn j λN j=>?_|subst j
 refine[_,I,pl,I,[_,Al.of ar],λwl a0=>?_];refine Ez (K:=K) (a:=pl) (xs:=ys) (λi zs H8=>zs=((b0.take i).map (·.2))/\H8 wl=g (.lst zs)/\Ae H7 H8) [I,Aa,Ad a0 _]
  (λi zs H8 _ ⟨e,h2,s8⟩=>[h2,by rw[e,zAb,zAq];lia,Al.of (s8 _ _ ar)]) (by rw[zCy];lia) (λi x zs H8 hi ⟨e,h2,s8⟩=>?_) (λzs H8 ⟨e,h2,s8⟩=>?_)
 .let[t,r,ak,rfl,ht]:=bc.get hi
  refine[_,I,t,_,_,_,I,I,Da.of (s8 _ _ ht),I,h2,I,?_,Aa,λb o z=>?_]
  .rw[Df ak,zAf,e]
   rfl
  .rw[Ak (Ai z a0)]
   exact s8 b o z
 subst e;rw[lp,zAB]at h2;let e8:=s8 _ _ e7;let c8:=s8 _ _ c7;let h8:=s8 _ _ h7;let k8:=k7.same s8;intro d dd nd al bb;let bn:wl≠d:=Ai h2 nd;let bm:wl≠dd:=Ai h2 al;let ai:d≠p:=(Ai e8 nd).symm;let s9:Ae H8 (upd (upd H8 dd (.own d)) d (.ins Eo dd [])):=(Ad al _).trans (Ad (by rw[Ak (oC bb)];exact nd) _);let k9:=k8.same s9;let ah:=s9 _ _ h2;by_cases gw:Y6 (b0.map (·.2))
 .let[ws,ew,az]:=gw
  rw[ew]at ah;refine .inl [d,dd,wl,ws,I,Aa,ah,az,λwh wt H9 bh D9 ax ao=>[I,?_]];let ad:Ae H8 H9:=A3 nd al bh;let e10:=ad _ _ e8;let a5:=ad _ _ c8;let be:=ad _ _ h8;let a7:=k8.same ad;let ab:wh≠p:=(Ai e8 (Gu ax)).symm;let ac:wt≠p:=(Ai e8 (Gu ao)).symm;refine[_,I,p,Bw,u,U,I,e10,W.ao.cl,W.cn,Z,?_];let bi:(Cw "deal" (.ref d) U).length<=5:=zAG (Ko _ _ _) Z;let aq:(Cw "deal" (.ref d) U).lookup ("houses" : J)=g (.ref m):=by rw[f1 G];exact v6
  let aw:(Cw "deal" (.ref d) U).lookup ("clauses" : J)=g (.ref l):=by rw[f1 G];exact w6
  let am:(Cw "deal" (.ref d) U).lookup ("name" : J)=g (.str n):=by rw[f1 G];exact n6
  let ap:(Cw "deal" (.ref d) U).lookup ("condition" : J)=g cd:=by rw[f1 G];exact d6
  let a1:(Cw "deal" (.ref d) U).lookup ("asks" : J)=M:=by rw[f1 G];exact a6
  let a4:(Cw "deal" (.ref d) U).lookup ("deal" : J)=g (.ref d):=f0;generalize Cw "deal" (.ref d) U=bl at bi aq aw am ap a1 a4
  first|refine Fn j λN j=>?_|subst j
  refine[_,I,_,I,p,Bw,u,_,I,Aa,W.ao.cl,W.bg,Z,?_];let[[dq,q1],q2,q3]:=D9;refine q n ws I gn au gh ew az l m d wh wt _ ((a7.upd _).upd _) [[u,_,Aa,by rw[f1 G];exact am,by rw[f1 G];exact ap,by rw[f1 G];exact aw,by rw[f1 G];exact aq,by rw[f1 G];exact a4,f0,by rw[f1 G];exact a1],?_,?_,[dq,?_],?_,?_] bf ba (k8.free ai nd) (k8.free ab (Gu ax)) (k8.free ac (Gu ao))
  .rw[Ak X,Ak X];exact a5
  .rw[Ak ae,Ak ae];exact be
  .rw[Ak ai,Ak ai];exact q1
  .rw[Ak ab,Ak ab];exact q2
  .rw[Ak ac,Ak ac];exact q3
 .refine .inr [d,.ref wl,I,UV ah (λy hy=>?_) gw,rS gn au gh gw _ k9]
  let[z,hz,rfl]:=zAv.mp hy;let[_,_,T1,t1]:=av z hz;exact[T1,Cy.put t1 hp k9]
def QC(C:Pm P w K mg base):Te P w K mg base 6 "Cover" Bw #["self","name","condition","clauses","houses","waits"] (BF K Bw Eo Kl Go):=jF C.z C.ao C.mv (λf H F=>(Xn C F)) b6
end
inductive Cl where
 |own (y:J) (d:Int)|lay (y:J) (a b:Int)|lim (y:J) (m:Int)|any (y:J)
def Cl.way:Cl->J
 |.own y _=>y
 |.lay y _ _=>y
 |.lim y _=>y
 |.any y=>y
def Mu:Cl->List (J×V)
 |.own y d=>Cw "cents" (.int d) (Cw "by" (.str y) [])
 |.lay y a b=>Cw "upto" (.int b) (Cw "first" (.int a) (Cw "by" (.str y) []))
 |.lim y m=>Cw "most" (.int m) (Cw "by" (.str y) [])
 |.any y=>Cw "by" (.str y) []
def Gz(y:J):Prop:=y="event" \/ y="thing" \/ y="year" \/ y="loss"
def Zx(d:Int):Prop:=0<=d/\d<=999999999999
def Zs(H C N L:T):Cl->T
 |.own _ _=>C
 |.lay _ _ _=>N
 |.lim _ _=>L
 |.any _=>H
def kC(L C Q N:T)(H:Hp)(p:T)(c:Cl):Prop:=∃P,H p=g (.ins (Zs L C Q N c) P (Mu c))
def Fam(H P N L:T)(C:T):Prop:=C=H\/C=P\/C=N\/C=L
def kC.same{H H':Hp}{p:T}{c:Cl}(h:kC CC CO CL CM H p c)(s:Ae H H'):kC CC CO CL CM H' p c:=by
 let[C,e]:=h;exact[C,s _ _ e]
def VG{y:J}(h:Gz y):Wb (.str y) #[.str "event",.str "thing",.str "year",.str "loss"]=B:=by
 rcases h with rfl|rfl|rfl|rfl<;>decide +kernel
def eA:¬(("by" : J)="cents"):=by ac_nf
def fU:¬(("by" : J)="upto"):=by ac_nf
def eM:¬(("by" : J)="first"):=by ac_nf
def dD:¬(("by" : J)="most"):=by ac_nf
def eS:¬(("first" : J)="upto"):=by ac_nf
def JN(c:Cl):(Mu c).lookup ("by" : J)=g (.str c.way):=by
 cases c with
 |own y d=>unfold Mu;rw[Bo,mK eA,Bo,mS I];rfl
 |lay y a b=>unfold Mu;rw[Bo,mK fU,Bo,mK eM,Bo,mS I];rfl
 |lim y m=>unfold Mu;rw[Bo,mK dD,Bo,mS I];rfl
 |any y=>unfold Mu;rw[Bo,mS I];rfl
def IL(y:J)(d:Int):(Mu (.own y d)).lookup ("cents" : J)=g (.int d):=by unfold Mu;rw[Bo,mS I]
def QE(y:J)(a b:Int):(Mu (.lay y a b)).lookup ("upto" : J)=g (.int b):=by unfold Mu;rw[Bo,mS I]
def MB(y:J)(a b:Int):(Mu (.lay y a b)).lookup ("first" : J)=g (.int a):=by unfold Mu;rw[Bo,mK eS,Bo,mS I]
def RZ(y:J)(m:Int):(Mu (.lim y m)).lookup ("most" : J)=g (.int m):=by unfold Mu;rw[Bo,mS I]
def aF(c:Cl){m:J}(H:¬m="by")(C:¬m="cents")(z:¬m="first")(L:¬m="upto")(F:¬m="most"):(Mu c).lookup m=M:=by
 cases c with
 |own y d=>unfold Mu;rw[Bo,mK C,Bo,mK H];rfl
 |lay y a b=>unfold Mu;rw[Bo,mK L,Bo,mK z,Bo,mK H];rfl
 |lim y n=>unfold Mu;rw[Bo,mK F,Bo,mK H];rfl
 |any y=>unfold Mu;rw[Bo,mK H];rfl
inductive LZ  (vs:List V)(H:Hp)(Q:VK):Prop
 |mk (n:Int) (z0:vs=#[.int n]) (z1:Zx n) (z2:Q (.int n) H):LZ  vs H Q
def ZA:Sp:=λC H Q x=>LZ  C H Q
inductive TR(CC CO CL CM:T)(vs:List V)(H:Hp)(Q:VK):Prop
 |mk (p:_) (C:_) (dx:_) (fs:_) (y:_) (z0:vs=#[.ref p,.str y]) (z1:H p=g (.ins C dx fs)) (z2:Fam CC CO CL CM C) (z3:fs.length<1000) (z4:Gz y) (z5:Q .non (upd H p (.ins C dx (Cw "by" (.str y) fs)))):TR CC CO CL CM vs H Q
def gG(C L N R:T):Sp:=λP H Q x=>TR C L N R P H Q
inductive HP(CC CO CL CM:T)(vs:List V)(H:Hp)(Q:VK):Prop
 |mk (p:_) (dx:_) (y:_) (d:Int) (z0:vs=#[.ref p,.str y,.int d]) (z1:H p=g (.ins CO dx [])) (z2:Gz y) (z3:Zx d) (z4:∀H',(∀b o,H b=g o->b≠p->H' b=g o)->kC CC CO CL CM H' p (.own y d)->Q .non H'):HP CC CO CL CM vs H Q
def aP(C L N R:T):Sp:=λP H Q x=>HP C L N R P H Q
inductive NH(CC CO CL CM:T)(vs:List V)(H:Hp)(Q:VK):Prop
 |mk (p:_) (dx:_) (y:_) (a b:Int) (z0:vs=#[.ref p,.str y,.int a,.int b]) (z1:H p=g (.ins CL dx [])) (z2:Gz y) (z3:Zx a) (z4:Zx b) (z5:a<b) (z6:∀H',(∀b o,H b=g o->b≠p->H' b=g o)->kC CC CO CL CM H' p (.lay y a b)->Q .non H'):NH CC CO CL CM vs H Q
def aL(C L N R:T):Sp:=λP H Q x=>NH C L N R P H Q
inductive LO(CC CO CL CM:T)(vs:List V)(H:Hp)(Q:VK):Prop
 |mk (p:_) (dx:_) (y:_) (d:Int) (z0:vs=#[.ref p,.str y,.int d]) (z1:H p=g (.ins CM dx [])) (z2:Gz y) (z3:Zx d) (z4:∀H',(∀b o,H b=g o->b≠p->H' b=g o)->kC CC CO CL CM H' p (.lim y d)->Q .non H'):LO CC CO CL CM vs H Q
def cD(C L N R:T):Sp:=λP H Q x=>LO C L N R P H Q
def RJ{y:J}(h:¬Gz y):Wb (.str y) #[.str "event",.str "thing",.str "year",.str "loss"]=lX:=by
 unfold Wb;let F:∀{a:J},y≠a->Px (V.str a) (V.str y)=lX:=λn=>beq_eq_false_iff_ne.mpr (λz=>n z.symm);rw[zBm,zBm,zBm,zBm,List.any_nil,F λz=>h (.inl z),F λz=>h (.inr (.inl z)),F λz=>h (.inr (.inr (.inl z))),F λz=>h (.inr (.inr (.inr z)))];rfl
inductive OW(CC CO CL CM CN:T)(vs:List V)(H:Hp)(E:XK):Prop
 |mk (p:_) (y:_) (z0:vs=#[.ref p,.str y]) (z1:¬Gz y) (z2:E (.ref CN) M H)
def SH(C L N R U:T):Sp:=λP H Q E=>gG C L N R P H Q E\/OW C L N R U P H E
inductive LV(CC CO CL CM CN:T)(vs:List V)(H:Hp)(E:XK):Prop
 |mk (p:_) (y:_) (d:Int) (z0:vs=#[.ref p,.str y,.int d]) (z1:¬Gz y) (z2:E (.ref CN) M H)
def UJ(C L N R U:T):Sp:=λP H Q E=>aP C L N R P H Q E\/LV C L N R U P H E
inductive LS(CC CO CL CM CN:T)(vs:List V)(H:Hp)(E:XK):Prop
 |mk (p:_) (y:_) (d:Int) (z0:vs=#[.ref p,.str y,.int d]) (z1:¬Gz y) (z2:E (.ref CN) M H)
def WW(C L N R U:T):Sp:=λP H Q E=>cD C L N R P H Q E\/LS C L N R U P H E
inductive JR(CC CO CL CM CN:T)(vs:List V)(H:Hp)(E:XK):Prop
 |mk (p:_) (dx:_) (y:_) (a b:Int) (z0:vs=#[.ref p,.str y,.int a,.int b]) (z1:H p=g (.ins CL dx [])) (z2:((¬Gz y/\E (.ref CN) M H)\/(Gz y/\Zx a/\Zx b/\b<=a/\∀H',(∀b o,H b=g o->b≠p->H' b=g o)->E (.ref CN) M H')))
def VX(C L N R U:T):Sp:=λP H Q E=>aL C L N R P H Q E\/JR C L N R U P H E
section
variable {P:mF} {w:mR} {K:zAa} {mg:J->Option lV} {base:mX}
def gI:(#[Bl,De,Br,Bx]:List T).Nodup:=
 sA (vZ #[Bl,De,Br,Bx] #[Eo,Bw,Fy,As,Ci]) (sA (yW 8 #[Ag,An,Ao,Aq,Bd,Bj,Bp,Ba,Bl,De,Br,Bx,Eo,Bw,Fy,As,Ci]) eZ)
def RH{c:Cl}(h:Zs Bl De Br Bx c=De):∃y d,c=.own y d:=by
 let z:=gI;simp only[zBn,zAg,zAV,xT,pR]at z;cases c with
 |own y d=>exact[y,d,I]
 |any _=>exact mC (show Bl=De from h) z.1.1
 |lay _ _ _=>exact mC (show Br=De from h).symm z.2.1.1
 |lim _ _=>exact mC (show Bx=De from h).symm z.2.1.2
def RD{c:Cl}(h:Zs Bl De Br Bx c=Br):∃y a b,c=.lay y a b:=by
 let z:=gI;simp only[zBn,zAg,zAV,xT,pR]at z;cases c with
 |lay y a b=>exact[y,a,b,I]
 |any _=>exact mC (show Bl=Br from h) z.1.2.1
 |own _ _=>exact mC (show De=Br from h) z.2.1.1
 |lim _ _=>exact mC (show Bx=Br from h).symm z.2.2.1
def RB{c:Cl}(h:Zs Bl De Br Bx c=Bx):∃y m,c=.lim y m:=by
 let z:=gI;simp only[zBn,zAg,zAV,xT,pR]at z;cases c with
 |lim y m=>exact[y,m,I]
 |any _=>exact mC (show Bl=Bx from h) z.1.2.2
 |own _ _=>exact mC (show De=Bx from h) z.2.1.2
 |lay _ _ _=>exact mC (show Br=Bx from h) z.2.2.1
def Ii(C:Pm P w K mg base):Jc C 3 "checked_amount" #["thing"] ZA:=Os C.z C.jx #["thing"] df λR H Q L h=>by
 let[n,rfl,[z,N],q]:=h;refine[_,(Ab (Ce (Et (Eb (Gg (BH C) L (Cf (pv 0)))))
    (Ac Ju)
    Be)
   (Ac (Ay (pv 0)))),?_]
 refine[_,I,_,_,I,.int n,_,I,?_];rw[show fS 999999999999 (.int n)=B from mV [z,N]];exact Gr [_,I,q]
def Rj:Cb #["self","by"] #["self","by"] (Av Jf):=by injections
def Rl(N:Pm P w K mg base){f:T}(F:Fw K "__init__" "Clause.__init__" Jf f b):Ar P w K mg base (Nt P w) 2 f b #["self","by"] (SH Bl De Br Bx Gp):=by
 let c:=Rj;refine F.okX c (λk H Q E h=>?_) (λd A W s H k Q E r h=>?_)
 .rcases h with ⟨_,_,_,_,_,rfl,_⟩|⟨_,_,rfl,_⟩<;>rfl
 rcases h with ⟨p,C,j,l,y,rfl,o,U,S,z,q⟩|⟨p,y,rfl,z,q⟩
 .refine[_,(Ab (Ce (PW.pt (Jg (Et (Eb (Ix Ec N.z N.ad (Dy (pv 1) (La "str" rfl (N.z.nn N.ar) I))))) (Gv (Ax Lh (pv 1) (DJ (UF N.z N.pr) I) I))))
    (Ac (Eh Bt I (Zf N.z N.cg N.g7) I (Cf Aj)))
    Be)
   (Ac (Dj (pv 0) (pv 1) I))),?_]
  refine[_,I,_,_,_,_,_,I,Ie,.str y,Xb,_,I,Gr ?_];refine[_,I,λa L=>[a,_,I,.inr L,I,I,_,I,?_]];show if (!Wb (.str y) #[.str "event",.str "thing",.str "year",.str "loss"])=B then _ else _;rw[VG z];refine Gr ?_;let X:kF K C:=by
   rcases U with rfl|rfl|rfl|rfl
   .exact N.ke.cl
   .exact N.fk.cl
   .exact N.b7.cl
   .exact N.bv.cl
  let R:Bk K C "by":=by
   rcases U with rfl|rfl|rfl|rfl
   .exact N.pf
   .exact N.jd
   .exact N.im
   .exact N.io
  exact[_,I,_,I,p,C,j,l,I,o,X,R,S,q]
 .refine[_,(Ab (Ce (PW.pt (Jg (Et (Eb (Ix Ec N.z N.ad (Dy (pv 1) (La "str" rfl (N.z.nn N.ar) I))))) (Gv (Ax Lh (pv 1) (DJ (UF N.z N.pr) I) I))))
    (Ac (Eh Bt I (Zf N.z N.cg N.g7) I (Cf Aj)))
    Be)
   (Ac (Dj (pv 0) (pv 1) I))),?_]
  refine[_,I,_,_,_,_,_,I,Ie,.str y,Xb,_,I,Gr ?_];refine[_,I,λa L=>[a,_,I,.inr L,I,I,_,I,?_]];show if (!Wb (.str y) #[.str "event",.str "thing",.str "year",.str "loss"])=B then _ else _;rw[RJ z];exact Fc [Ck (by show 1<=1000;decide),q]
def Kd(C:Pm P w K mg base):NI P w K mg base 2 "Clause" "__init__" #["self","by"] (SH Bl De Br Bx Gp):=iU C.z C.ke C.rg bd λf H F=>Rl C F
def fY(C:Pm P w K mg base):Te P w K mg base 4 "Own" De #["self","by","cents"] (UJ Bl De Br Bx Gp):=dX C.z C.fk C.mq #["self","by","cents"] (dg λX H Q E h=>by
  rcases h with ⟨_,_,_,_,rfl,_⟩ | ⟨_,_,_,rfl,_⟩<;>rfl) λW H Q E R h=>by
 refine[_,(Ab (Ct (Xh (Kd C) (R.mono Y) Bt I (Dy (pv 0) (pv 1))))
   (Ac (Dj (pv 0) (Gg (Ii C) R (Cf (pv 2))) I))),?_]
 rcases h with ⟨p,N,y,d,rfl,U,F,L,q⟩|⟨p,y,d,rfl,F,q⟩
 .refine[_,I,_,I,.inl [p,_,N,[],y,I,U,.inr (.inl I),Y,F,?_]]
  exact[_,I,d,I,L,_,I,p,_,N,_,I,Aa,C.fk.cl,C.gu,(by show 1<1000;decide),q _ (λb o z n=>by rw[Ak n,Ak n];exact z) [N,Aa]]
 .exact[_,I,_,I,.inr [p,y,I,F,q]]
def XR(C:Pm P w K mg base):Te P w K mg base 4 "Limit" Bx #["self","by","most"] (WW Bl De Br Bx Gp):=dX C.z C.bv C.kh #["self","by","most"] (dg λX H Q E h=>by
  rcases h with ⟨_,_,_,_,rfl,_⟩ | ⟨_,_,_,rfl,_⟩<;>rfl) λW H Q E R h=>by
 refine[_,(Ab (Ct (Xh (Kd C) (R.mono Y) Bt I (Dy (pv 0) (pv 1))))
   (Ac (Dj (pv 0) (Gg (Ii C) R (Cf (pv 2))) I))),?_]
 rcases h with ⟨p,N,y,d,rfl,U,F,L,q⟩|⟨p,y,d,rfl,F,q⟩
 .refine[_,I,_,I,.inl [p,_,N,[],y,I,U,.inr (.inr (.inr I)),Y,F,?_]]
  exact[_,I,d,I,L,_,I,p,_,N,_,I,Aa,C.bv.cl,C.gm,(by show 1<1000;decide),q _ (λb o z n=>by rw[Ak n,Ak n];exact z) [N,Aa]]
 .exact[_,I,_,I,.inr [p,y,I,F,q]]
def XE(C:Pm P w K mg base):Te P w K mg base 4 "Layer" Br #["self","by","first","upto"] (VX Bl De Br Bx Gp):=dX C.z C.b7 C.kg #["self","by","first","upto"] (dg λA H Q E h=>by
  rcases h with ⟨_,_,_,_,_,rfl,_⟩ | ⟨_,_,_,_,_,rfl,_⟩<;>rfl) λX H Q E U h=>by
 refine[_,(Ab (Ct (Xh (Kd C) (U.mono Y) Bt I (Dy (pv 0) (pv 1))))
   (Ab (Dj (pv 0) (Gg (Ii C) U (Cf (pv 2))) I)
   (Ab (Dj (pv 0) (Gg (Ii C) U (Cf (pv 3))) I)
   (Ac (Ce (Et (Ax Mm (pv 2) (pv 3) (Bf _)))
    (Ac (Eh Bt I (Zf C.z C.cg C.g7) I (Cf Aj)))
    Be))))),?_]
 rcases h with ⟨p,R,y,a,b,rfl,W,L,N,S,F,q⟩|⟨p,R,y,a,b,rfl,W,⟨L,q⟩|⟨L,N,S,F,q⟩⟩
 .refine[_,I,_,I,.inl [p,_,R,[],y,I,W,.inr (.inr (.inl I)),Y,L,?_]]
  refine[_,I,a,I,N,_,I,p,_,R,_,I,Aa,C.b7.cl,C.bu,(by show 1<1000;decide),?_];refine[_,I,b,I,S,_,I,p,_,R,_,I,Aa,C.b7.cl,C.cm,(by show 2<1000;decide),?_];refine[_,I,_,I,_,_,I,I,_,I,nF F ?_];exact q _ (λb o z n=>by rw[Ak n,Ak n,Ak n];exact z) [R,Aa]
 .exact[_,I,_,I,.inr [p,y,I,L,q]]
 .refine[_,I,_,I,.inl [p,_,R,[],y,I,W,.inr (.inr (.inl I)),Y,L,?_]]
  refine[_,I,a,I,N,_,I,p,_,R,_,I,Aa,C.b7.cl,C.bu,(by show 1<1000;decide),?_];refine[_,I,b,I,S,_,I,p,_,R,_,I,Aa,C.b7.cl,C.cm,(by show 2<1000;decide),?_];refine[_,I,_,I,_,_,I,I,_,I,nT Z ?_];exact[Ck (by show 1<=1000;decide),q _ (λb o z n=>by rw[Ak n,Ak n,Ak n];exact z)]
end
def bS:Cl->Prop
 |.own _ d=>Zx d
 |.lay _ a b=>Zx a/\Zx b
 |.lim _ m=>Zx m
 |.any _=>True
def sh(d:Int):V:=.str (tx (El d.toNat))
def BO:Cl->List V
 |.own y d=>#[.str "own",.str y,sh d]
 |.lay y a b=>#[.str "layer",.str y,sh a,sh b]
 |.lim y m=>#[.str "limit",.str y,sh m]
 |.any _=>[]
def cS(c:Cl):(Mu c).lookup ("words" : J)=M:=aF c G G G G G
inductive UG(CC CO CL CM:T)(C:T)(vs:List V)(H:Hp)(Q:VK):Prop
 |mk (p:_) (c:_) (z0:vs=#[.ref p]) (z1:kC CC CO CL CM H p c) (z2:Zs CC CO CL CM c=C) (z3:bS c) (z4:∀l H',Ae H H'->H l=M->H' l=g (.lst (BO c))->Q (.ref l) H'):UG CC CO CL CM C vs H Q
def OZ(L N P U:T)(C:T):Sp:=λR H Q x=>UG L N P U C R H Q
def So{d:Int}(h:Zx d):d=((d.toNat:Nat):Int)/\d.toNat<10^60:=by
 let[z,C]:=h;refine[Z,?_];let:d.toNat<10^13:=by lia
 exact zAF this (zCe Y Y)
def E3{d:Int}(h:Zx d):(#[V.int d]++[]:List V)=#[.int (d.toNat:Nat)]:=by rw[zAA,<- (So h).1]
section
variable {P:mF} {w:mR} {K:zAa} {mg:J->Option lV} {base:mX}
def M6:Cb #["self"] #["self"] (Av Pl):=by injections
def J1(C:Pm P w K mg base){f:T}(F:Fw K "words" "Own.words" Pl f b):Ar P w K mg base Jv 2 f b #["self"] (OZ Bl De Br Bx De):=by
 let sc:=M6;bv_omega
 .let[_,_,rfl,_]:=h
  rfl
 let[p,c,rfl,[N,U],L,z,q]:=h;let[y,d,rfl]:=RH L;refine[_,(Ac (Ay (Ca (Aw Aj (Dy (Cj (pv 0) I) (Gg (Kq C) hr (Cf (Cj (pv 0) I)))))))),?_];refine[_,I,p,_,N,_,_,I,U,C.fk.cl,C.jd,JN (.own y d),_,I,p,_,N,_,_,I,U,C.fk.cl,C.gu,IL y d,d.toNat,E3 z,(So z).2,?_];exact[by show 3<=sizeLine;rw[zCy];decide,λl R=>q l _ (Ad R _) R Aa]
def Yg:Cb #["self"] #["self"] (Av Mt):=by injections
def Wq(C:Pm P w K mg base){f:T}(F:Fw K "words" "Layer.words" Mt f d):Ar P w K mg base Jv 2 f d #["self"] (OZ Bl De Br Bx Br):=by
 let sc:=Yg;bv_omega
 .let[_,_,rfl,_]:=h
  rfl
 let[p,c,rfl,[N,R],L,z,q]:=h;let[y,a,b,rfl]:=RD L;refine[_,(Ac (Ay (Ca (Aw Aj (Aw (Cj (pv 0) I) (Dy (Gg (Kq C) hr (Cf (Cj (pv 0) I))) (Gg (Kq C) hr (Cf (Cj (pv 0) I))))))))),?_];refine[_,I,p,_,N,_,_,I,R,C.b7.cl,C.im,JN (.lay y a b),_,I,p,_,N,_,_,I,R,C.b7.cl,C.bu,MB y a b,a.toNat,E3 z.1,(So z.1).2,?_];refine[_,I,p,_,N,_,_,I,R,C.b7.cl,C.cm,QE y a b,b.toNat,E3 z.2,(So z.2).2,?_];exact[by show 4<=sizeLine;rw[zCy];decide,λl U=>q l _ (Ad U _) U Aa]
def Xu:Cb #["self"] #["self"] (Av Mr):=by injections
def Ww(C:Pm P w K mg base){f:T}(F:Fw K "words" "Limit.words" Mr f b):Ar P w K mg base Jv 2 f b #["self"] (OZ Bl De Br Bx Bx):=by
 let sc:=Xu;bv_omega
 .let[_,_,rfl,_]:=h
  rfl
 let[p,c,rfl,[N,U],L,z,q]:=h;let[y,m,rfl]:=RB L;refine[_,(Ac (Ay (Ca (Aw Aj (Dy (Cj (pv 0) I) (Gg (Kq C) hr (Cf (Cj (pv 0) I)))))))),?_];refine[_,I,p,_,N,_,_,I,U,C.bv.cl,C.io,JN (.lim y m),_,I,p,_,N,_,_,I,U,C.bv.cl,C.gm,RZ y m,m.toNat,E3 z,(So z).2,?_];exact[by show 3<=sizeLine;rw[zCy];decide,λl R=>q l _ (Ad R _) R Aa]
end
abbrev Cv:=T×J×Bool
def Yj(c:Cv):V:=.ref c.1
def jQ(C:T)(H:Hp)(cs:List Cv):Prop:=∀c∈cs,∃N L,H c.1=g (.ins C N L)/\L.lookup ("name" : J)=g (.str c.2.1)/\L.lookup ("waits" : J)=g (.bl c.2.2)
def jQ.same{C:T}{H H':Hp}{cs:List Cv}(h:jQ C H cs)(s:Ae H H'):jQ C H' cs:=λc z=>by
 let[N,L,e,r]:=h c z;exact[N,L,s _ _ e,r]
def jQ.get{C:T}{H:Hp}{cs:List Cv}{i:Nat}{x:V}(h:jQ C H cs)(e:(cs.map Yj)[i]?=g x):∃c dx L,cs[i]?=g c/\x=.ref c.1/\c∈cs/\H c.1=g (.ins C dx L)/\L.lookup ("name" : J)=g (.str c.2.1)/\L.lookup ("waits" : J)=g (.bl c.2.2):=by
 rw[zAt]at e;let[c,z,rfl]:=zAI.mp e;let m:=zAz z;let[dx,L,r]:=h c m;exact[c,dx,L,z,I,m,r]
def jQ.ne{C L:T}{H:Hp}{cs:List Cv}{p dx:T}(h:jQ C H cs)(P:H p=g (.ins L dx [])):∀c∈cs,c.1≠p:=λc F z=>by
 let[N,Q,e,n,_]:=h c F;rw[z,P]at e;injection e with e;injection e with _ _ e;subst e;cases n
def jQ.kb{C L:T}{H H':Hp}{cs:List Cv}{p dx:T}(h:jQ C H cs)(P:H p=g (.ins L dx []))(k:KB p H H'):jQ C H' cs:=λc z=>by
 let[F,N,e,r]:=h c z;exact[F,N,k _ _ e (h.ne P c z),r]
def cR(cs:List Cv):List Cv:=cs.filter (λc => !c.2.2)++cs.filter (λc=>c.2.2)
structure YW(CB:T)(H:Hp)(p cl ak:T)(cs:List Cv):Prop where
 ob:∃dx fs,H p=g (.ins CB dx fs)/\fs.lookup ("covers" : J)=g (.ref cl)/\fs.lookup ("asking" : J)=g (.ref ak)/\fs.lookup ("named" : J)=M
 hc:H cl=g (.lst (cs.map Yj))
 ha:H ak=g (.lst ((cR cs).map Yj))
inductive EH(C CB:T)(vs:List V)(H:Hp)(Q:VK):Prop
 |mk (p:_) (dx:_) (a:_) (cs:_) (z0:vs=#[.ref p,.ref a]) (z1:H p=g (.ins CB dx [])) (z2:H a=g (.lst (cs.map Yj))) (z3:jQ C H cs) (z4:cs.length<=8) (z5:(cs.map (·.2.1)).Nodup) (z6:∀cl ak H',KB p H H'->YW CB H' p cl ak cs->H cl=M->H ak=M->Q .non H'):EH C CB vs H Q
def IM(C N:T):Sp:=λL H Q x=>EH C N L H Q
def Zq{C:Type}{l:List C}{f:C->Bool}{i:Nat}{x:C}(h:l[i]?=g x):(l.take (i+1)).filter f=(l.take i).filter f++if f x=B then #[x] else []:=by
 rw[Df h,yM];by_cases c:f x=B
 .rw[mS c,List.filter_cons_of_pos c,List.filter_nil]
 .rw[mK c,List.filter_cons_of_neg c,List.filter_nil]
section
variable {P:mF} {w:mR} {K:zAa} {mg:J->Option lV} {base:mX}
def Ui:Cb #["self","covers","names","firm","waiting"] #["self","covers"] (Av Ky):=by injections
def Ud(X:Pm P w K mg base){f:T}(F:Fw K "__init__" "Book.__init__" Ky f fd):Ar P w K mg base Jv 1 f fd #["self","covers"] (IM Bw Fy):=by
 let sc:=Ui;bv_omega
 .let[_,_,_,_,rfl,_]:=h
  rfl
 let[p,t,a,cs,rfl,hp,v,ab,l8,nd,q]:=h;let am:cs.length<60:=by lia
 refine[_,(Ab (Ce (Ax Tq (Ix Bg X.z X.ag (Cf (pv 1))) (Vr X.z X.cr) (Bf _))
    (Ac Ju)
    Be)
   (Ab (Nk (NC:=#["cover"]) (own:=#["cover"]) (cs:=[]) (ix:=[]) (j:=2) sc.nd I I I (Az.of I) I trivial (Em (pv 1)) (λ_ _ _=>(Xa 0)) (λ_ _ _=>Fh) (λ_ _ _=>(Sw (K:=K) (pv 0) I)))
   (Ab (Ce (Ax Mm (GG (pv 2) I I (X.z.nn X.ag) I (X.z.nn X.sd)) (Ix Bg X.z X.ag (Cf (pv 2))) (Bf _))
    (Ac Ju)
    Be)
   (Ab (Dj (pv 0) (Dq Fm I (X.z.nn X.az) (show zCz _=g (.type "list") from rfl) (Cf (pv 1))) I)
   (Ab (Nk (NC:=#["cover"]) (own:=#["cover"]) (cs:=[]) (ix:=[]) (j:=3) sc.nd I I I (Az.of I) I trivial (Em (pv 1)) (λ_ _ _=>(Xa 0)) (λ_ _ _=>(D8 (Et (Eb (Sw (K:=K) (pv 0) I))))) (λ_ _ _=>(pv 0)))
   (Ab (Nk (NC:=#["cover"]) (own:=#["cover"]) (cs:=[]) (ix:=[]) (j:=4) sc.nd I I I (Az.of I) I trivial (Em (pv 1)) (λ_ _ _=>(Xa 0)) (λ_ _ _=>(D8 (Eb (Sw (K:=K) (pv 0) I)))) (λ_ _ _=>(pv 0)))
   (Ac (Dj (pv 0) (Au Ef (pv 3) (pv 4)) I)))))))),?_]
 refine Je λN R=>?_;let a0:1<=sizeLine:=by rw[zCy];decide
 let k0:KB p H H:=λ_ _ e _=>e;let lm:(cs.map Yj).length=cs.length:=zAb _;let ap:a≠p:=Jy v hp (by intro z;cases z);refine[_,I,a,_,I,(.inl (Al.of v)),_,_,I,I,_,I,?_];refine dF (by rw[lm];lia) ?_;refine Fn R λN R=>?_;refine[_,I,a,I,[_,Al.of v],λn nn=>?_];refine Ez (K:=K) (a:=a) (xs:=cs.map Yj) (λi d r=>d=((cs.take i).map (·.2.1)).map V.str/\r n=g (.lst d)/\Ae H r) [I,Aa,Ad nn _]
  (λi d r _ ⟨e,k,C⟩=>[k,by rw[e,zAb,zAb,zAq];lia,Al.of (C _ _ v)]) (by rw[zCy];lia) (λi x d r hi ⟨e,k,C⟩=>?_) (λd r ⟨e,k,C⟩=>?_)
 .let[c,y,fc,ec,rfl,mc,hc,n1,w1]:=ab.get hi
  refine[_,I,c.1,Bw,y,fc,_,I,(C _ _ hc),X.ao.cl,X.bj,n1,k,I,?_,Aa,(λb o z=>?_)]
  .rw[Df ec,zAf,zAf,e]
   rfl
  .rw[Ak (Ai z nn)]
   exact C b o z
 rw[lm,zAB]at e;subst e;refine W9 R #[g (.ref p),g (.ref a),g (.ref n),M,M] rfl λN R=>?_;let ai:=C _ _ hp;let al:=C _ _ v;let k2:KB p H r:=k0.same C;let as:=ab.same C;refine[_,I,n,cs.map (·.2.1),I,Al.of k,by rw[zAb];exact am,λm m1 m2=>?_];refine[_,I,n,_,I,(.inl (Al.of k)),_,_,I,I,_,I,?_];let:=m1 nd;refine dF (by rw[zAb];lia) ?_;clear m1 m2 this;refine Fn R λN R=>?_;refine[_,I,a,_,I,(.inl (Al.of al)),(λl aa=>?_)];let s3:=Ad aa (.lst (cs.map Yj));let ad:l≠p:=(Ai ai aa).symm;refine[_,I,p,Fy,t,[],I,s3 _ _ ai,X.gz.cl,X.gb,Y,?_];let k3:KB p H (upd (upd r l (.lst (cs.map Yj))) p (.ins Fy t (Cw "covers" (.ref l) []))):=(k2.same s3).upd _;let e3:upd (upd r l (.lst (cs.map Yj))) p (.ins Fy t (Cw "covers" (.ref l) [])) p=g (.ins Fy t (Cw "covers" (.ref l) [])):=Aa;let c3:upd (upd r l (.lst (cs.map Yj))) p (.ins Fy t (Cw "covers" (.ref l) [])) l=g (.lst (cs.map Yj)):=by rw[Ak ad,Aa]
 let an:H l=M:=k2.free ad aa;let L:=ab.kb hp k3;let W:=k3 _ _ v ap;generalize upd (upd r l (.lst (cs.map Yj))) p (.ins Fy t (Cw "covers" (.ref l) []))=H3 at k3 e3 c3 L W;refine Fn R λN R=>?_;refine[_,I,a,I,[_,Al.of W],λfi ae=>?_];refine Ez (K:=K) (a:=a) (xs:=cs.map Yj) (λi d u=>d=((cs.take i).filter (λc => !c.2.2)).map Yj/\u fi=g (.lst d)/\Ae H3 u) [I,Aa,Ad ae _]
  (λi d u _ ⟨e,k,S⟩=>[k,by rw[e,zAb];exact zAG (zBM _ _) (by rw[zAq];lia),Al.of (S _ _ W)]) (by rw[zCy];lia) (λi x d u hi ⟨e,k,S⟩=>?_) (λd u ⟨e,ao,S⟩=>?_)
 .let[c,y,fc,ec,rfl,mc,hc,n1,w1]:=L.get hi
  refine[_,I,c.1,Bw,y,fc,_,I,S _ _ hc,X.ao.cl,X.bg,w1,_,I,?_];let es:=Zq (f:=λc:Cv => !c.2.2) ec;cases cw:c.2.2 with
  |true=>
   refine Gr [I,?_,k,S];rw[es,e,cw];simp
  |false=>
   refine Fc [_,I,k,I,?_,Aa,λb o z=>?_]
   .rw[es,e,cw]
    simp[Yj]
   .rw[Ak (Ai z ae)]
    exact S b o z
 rw[lm,zAB]at e;subst e;refine W9 R #[g (.ref p),g (.ref a),g (.ref n),g (.ref fi),M] rfl λN R=>?_;let af:=S _ _ W;let aj:=L.same S;refine[_,I,a,I,[_,Al.of af],λwa ah=>?_];refine Ez (K:=K) (a:=a) (xs:=cs.map Yj) (λi d H5=>d=((cs.take i).filter (λc=>c.2.2)).map Yj/\H5 wa=g (.lst d)/\Ae u H5) [I,Aa,Ad ah _]
  (λi d H5 _ ⟨e,k,U⟩=>[k,by rw[e,zAb];exact zAG (zBM _ _) (by rw[zAq];lia),Al.of (U _ _ af)]) (by rw[zCy];lia) (λi x d H5 hi ⟨e,k,U⟩=>?_) (λd H5 ⟨e,aq,U⟩=>?_)
 .let[c,y,fc,ec,rfl,mc,hc,n1,w1]:=aj.get hi
  refine[_,I,c.1,Bw,y,fc,_,I,U _ _ hc,X.ao.cl,X.bg,w1,_,I,?_];let es:=Zq (f:=λc:Cv=>c.2.2) ec;cases cw:c.2.2 with
  |false=>
   refine Gr [I,?_,k,U];rw[es,e,cw];simp
  |true=>
   refine Fc [_,I,k,I,?_,Aa,λb o z=>?_]
   .rw[es,e,cw]
    simp[Yj]
   .rw[Ak (Ai z ah)]
    exact U b o z
 rw[lm,zAB]at e;subst e;subst R;refine Ic #[g (.ref p),g (.ref a),g (.ref n),g (.ref fi),g (.ref wa)] rfl ?_;let ar:=U _ _ ao;let e5:=U _ _ (S _ _ e3);let c5:=U _ _ (S _ _ c3);let k5:=(k3.same S).same U;refine[_,I,_,I,fi,wa,_,_,I,I,ar,aq,?_,(λak ac=>?_)]
 .rw[zAb,zAb]
  let:=zBM (λc:Cv => !c.2.2) cs;let:=zBM (λc:Cv=>c.2.2) cs;rw[zCy]
  lia
 let ag:ak≠p:=(Ai e5 ac).symm;let s6:=Ad ac (.lst ((cs.filter (λc => !c.2.2)).map Yj++(cs.filter (λc=>c.2.2)).map Yj));let g3:(Cw "covers" (.ref l) []).length<=1:=Ko _ _ _;refine[_,I,p,Fy,t,_,I,(s6 _ _ e5),X.gz.cl,X.mj,(zCo g3 Y),?_];refine q l ak _ ((k5.same s6).upd _) [[t,_,Aa,by rw[f1 G,f0],f0,by rw[f1 G,f1 G];rfl],?_,?_] an (k5.free ag ac)
 .rw[Ak ad]
  exact s6 _ _ c5
 .rw[Ak ag,Aa]
  unfold cR;rw[zAf]
def UD(C:Pm P w K mg base):Jk C 1 "Book" Fy #["self","covers"] (IM Bw Fy):=iF C.z C.gz C.li bd λf H F=>Ud C F
end
inductive jN{α β:Type}(R:α->β->Prop):List α->List β->Prop
 |nil:jN R [] []
 |cons {a b as bs}:R a b->jN R as bs->jN R (a::as) (b::bs)
def jN.len{C L:Type}{R:C->L->Prop}{z:List C}{bs}(h:jN R z bs):z.length=bs.length:=by
 induction h with
 |nil=>rfl
 |cons _ _ H=>rw[zAd,zAd,H]
def jN.imp{C L:Type}{R S:C->L->Prop}{z:List C}{bs}(h:jN R z bs)(f:∀a b,R a b->S a b):jN S z bs:=by
 induction h with
 |nil=>exact .nil
 |cons a _ H=>exact .cons (f _ _ a) H
def jN.app{H N:Type}{R:H->N->Prop}{z cs:List H}{bs ds}(h:jN R z bs)(C:jN R cs ds):jN R (z++cs) (bs++ds):=by
 induction h with
 |nil=>exact C
 |cons a _ L=>exact .cons a L
def jN.get{C L:Type}{R:C->L->Prop}{z:List C}{bs}(h:jN R z bs):∀{i:Nat} {a:C},z[i]?=g a->∃b,bs[i]?=g b/\R a b:=by
 induction h with
 |nil=>intro i a e;simp at e
 |cons r _ H=>
  intro i a e;cases i with
  |zero=>simp at e;subst e;exact[_,I,r]
  |succ i=>let[b,N,F]:=H (i:=i) (by simpa using e);exact[b,by simpa using N,F]
def jN.mem{C L:Type}{R:C->L->Prop}{z:List C}{bs}(h:jN R z bs){a:C}(m:a∈z):∃b∈bs,R a b:=by
 let[i,H,e]:=zBu m;let[b,N,F]:=h.get (i:=i) (a:=a) (by rw[zAi H,e]);exact[b,zAz N,F]
def jN.snoc_inv{H N:Type}{R:H->N->Prop}{F:List H}{bs}{b:N}(h:jN R F (bs++#[b])):∃z a,F=z++#[a]/\jN R z bs/\R a b:=by
 induction bs generalizing F with
 |nil=>
  cases h with
  |cons r t=>
   cases t
   exact[[],_,I,.nil,r]
 |cons c C P=>
  cases h with
  |cons r t=>
   let[z,a,rfl,Q,L]:=P t;exact[_::z,a,I,.cons r Q,L]
def jN.map_eq{H N L:Type}{R:H->N->Prop}{f:H->L}{C:N->L}{z:List H}{bs}(h:jN R z bs)(e:∀a b,R a b->f a=C b):z.map f=bs.map C:=by
 induction h with
 |nil=>rfl
 |cons r _ P=>rw[zAr,zAr,e _ _ r,P]
structure Dr where
 nm:J
 cd:Option Ev
 cl:List Cl
 sh:Option (List (J×Int))
 wt:Bool
structure LC where
 nm:J
 t:Ev
 cl:List Cl
 hs:List (J×Int)
 wt:Bool
def Dr.lc(d:Dr):LC:=[d.nm,d.cd.getD (.at .alw),d.cl,d.sh.getD #[(d.nm,1)],d.wt]
def Wv(l:List (J×Int)):List Pr:=l.map λx=>(V.str x.1,V.int x.2)
def UE(l:List (J×Int)):(Wv l).map (·.1)=(l.map (·.1)).map V.str:=by unfold Wv;rw[zBw,zBw];rfl
def TC(l:List (J×Int)):(Wv l).map (·.2)=(l.map (·.2)).map V.int:=by unfold Wv;rw[zBw,zBw];rfl
def Ap(E:List T)(H:Hp):Hp:=λb=>if b∈E then M else H b
def Ap.at{E:List T}{H:Hp}{b:T}{o:HO}(h:Ap E H b=g o):b∉E/\H b=g o:=by
 unfold Ap at h;by_cases e:b∈E
 .rw[mS e]at h;cases h
 .rw[mK e]at h;exact[e,h]
def Ap.of{E:List T}{H:Hp}{b:T}{o:HO}(n:b∉E)(h:H b=g o):Ap E H b=g o:=by
 unfold Ap;rw[mK n];exact h
def Ap.sub(E:List T)(H:Hp):Ae (Ap E H) H:=λb o h=>(Ap.at h).2
def Ap.mono{E F:List T}{H H':Hp}(k:∀b o,H b=g o->b∉E->H' b=g o)(e:∀x∈F,x∈E\/H x=M):Ae (Ap E H) (Ap F H'):=λb o h=>by
 let[n,h]:=Ap.at h;refine Ap.of (λz=>?_) (k b o h n);rcases e b z with z|z
 .exact n z
 .rw[h]at z;cases z
def Ap.new{E:List T}{H H':Hp}(F:∀e∈E,∃o,H e=g o):Ae (Nw H H') (Ap E H'):=λb o h=>by
 let[L,h]:=Nw.at h;exact Ap.of (λz=>by let[C,z]:=F b z;rw[L]at z;cases z) h
def kW(H L N P:T)(C:Hp)(cs:List V)(cl:List Cl):Prop:=jN (λv c=>∃p,v=.ref p/\kC H L N P C p c) cs cl
def kW.same{H S z F}{C L}{cs}{cl}(h:kW H S z F C cs cl)(s:Ae C L):kW H S z F L cs cl:=h.imp λv c ⟨p,e,k⟩=>[p,e,k.same s]
def lI(κ:A8)(C:Hp)(H:V):Option Ev->Prop
 |none=>H=.non
 |some t=>Bv κ C H t
def lI.same{κ:A8}{t:Option Ev}(h:lI κ b d t)(s:Ae b c):lI κ c d t:=by
 cases t with
 |none=>exact h
 |some t=>exact Bv.same s t h
def lP(C:Hp)(L:V):Option (List (J×Int))->Prop
 |none=>L=.non
 |some l=>∃a H,L=.ref a/\C a=g (.lst H)/\jT C H (Wv l)
def lP.same{l:Option (List (J×Int))}(h:lP b c l)(s:Ae b d):lP d c l:=by
 cases l with
 |none=>exact h
 |some l=>let[a,C,e,H,z]:=h;exact[a,C,e,s _ _ H,z.mono (Jb s)]
def Mv(nm:J)(C:V)(c:T)(H:V)(wt:Bool):List (J×V):=#[(O "name",.str nm),(O "condition",C),(O "clauses",.ref c),(O "shares",H),(O "waits",.bl wt)]
def Wf(nm:J)(F:V)(c:T)(z:V)(wt:Bool):(Mv nm F c z wt).lookup (O "name")=g (.str nm):=rfl
def Qk(nm:J)(C:V)(c:T)(z:V)(wt:Bool):(Mv nm C c z wt).lookup (O "condition")=g C:=rfl
def Nx(nm:J)(F:V)(c:T)(z:V)(wt:Bool):(Mv nm F c z wt).lookup (O "clauses")=g (.ref c):=rfl
def Qa(nm:J)(z:V)(c:T)(C:V)(wt:Bool):(Mv nm z c C wt).lookup (O "shares")=g C:=rfl
def Tb(nm:J)(F:V)(c:T)(z:V)(wt:Bool):(Mv nm F c z wt).lookup (O "waits")=g (.bl wt):=rfl
structure jW(κ:A8)(CC CO CL CM CD:T)(m H:Hp)(p c:T)(d:Dr):Prop where
 ex:∃dx cv sv cs,H p=g (.ins CD dx (Mv d.nm cv c sv d.wt))/\H c=g (.lst cs)/\lI κ m cv d.cd/\kW CC CO CL CM m cs d.cl/\lP m sv d.sh
def jW.same{κ:A8}{N z H H':Hp}{p c:T}{d:Dr}(h:jW κ CC CO CL CM CD N H p c d)(s:Ae N z)(U:∀o,H p=g o->H' p=g o)(L:∀o,H c=g o->H' c=g o):jW κ CC CO CL CM CD z H' p c d:=by
 let[W,R,C,F,A,S,P,Q,X]:=h;exact[W,R,C,F,U _ A,L _ S,P.same s,Q.same s,X.same s]
def kG.off{C U:T}{H:Hp}{p cl z d F wt:T}{nm:J}{cd S:V}{cs Q:List V}{ws:List Int}{M:List T}(h:kG C U H p cl z d F wt nm cd S cs Q ws)(E:p∉M)(W:cl∉M)(b:z∉M)(R:d∉M)(f:F∉M)(X:wt∉M):kG C U (Ap M H) p cl z d F wt nm cd S cs Q ws:=by
 let[[c,j,e,r],k,P,[[L,K],N,A]]:=h;exact[[c,j,Ap.of E e,r],Ap.of W k,Ap.of b P,[[L,Ap.of R K],Ap.of f N,Ap.of X A]]
structure kB(κ:A8)(CC CO CL CM C CD:T)(H:Hp)(p:T)(d:LC):Prop where
 ex:∃cl hv dd wh wt cv cs,kG C CD H p cl hv dd wh wt d.nm cv (.bl d.wt) cs ((d.hs.map (·.1)).map V.str) (d.hs.map (·.2))/\Bv κ H cv d.t/\kW CC CO CL CM H cs d.cl
def kB.same{κ:A8}{L S z F C Q:T}{H H':Hp}{p:T}{d:LC}(h:kB κ L S z F C Q H p d)(s:Ae H H'):kB κ L S z F C Q H' p d:=by
 let[W,K,A,R,U,X,N,b,P,E]:=h;exact[W,K,A,R,U,X,N,b.same s,Bv.same s _ P,E.same s]
structure Fx(d:Dr):Prop where
 nm:nameV (.str d.nm)=B
 ns:d.nm ≠ "self"
 cl:d.cl.length<=8
 hs:(∀z∈d.lc.hs.map (·.1),nameV (.str z)=B)/\(d.lc.hs.map (·.1)).Nodup
 gw:CR.GW (d.lc.hs.map (·.2))
def Ga{z:J}(h:nameV (.str z)=B):z.length<=8:=by
 let h:Si z.cps.toList:=mU h;let:=h.1.2;rw[<- Hq z,Dg];exact this
inductive O3(C:T)(vs:List V)(H:Hp)(Q:VK):Prop
 |mk (p:_) (dx:_) (nm:_) (z0:vs=#[.ref p,.str nm]) (z1:H p=g (.ins C dx [])) (z2:∀c H',H c=M->(∀b,b≠p->b≠c->H' b=H b)->H' p=g (.ins C dx (Mv nm .non c .non lX))->H' c=g (.lst [])->Q .non H'):O3 C vs H Q
def QP(C:T):Sp:=λL H Q x=>O3 C L H Q
inductive HX(κ:A8)(CC CO CL CM C CD CR:T)(vs:List V)(H:Hp)(Q:VK):Prop
 |mk (p:_) (c:_) (m:_) (M:_) (d:_) (z0:vs=#[.ref p]) (z1:Ae m (Ap M H)) (z2:(∀e∈M,∃o,H e=g o)) (z3:jW κ CC CO CL CM CR m H p c d) (z4:Fx d) (z5:∀u H',Ae H H'->H u=lW->kB κ CC CO CL CM C CD (Ap M H') u d.lc->Q (.ref u) H'):HX κ CC CO CL CM C CD CR vs H Q
def KM(κ:A8)(L N P U C W CR:T):Sp:=λR H Q x=>HX κ L N P U C W CR R H Q
section
seal L2.PS L2.PSs L2.PE L2.PA
variable {P:mF} {w:mR} {K:zAa} {mg:J->Option lV} {base:mX}
def JW(C:Pm P w K mg base):Jk C 1 "Draft" Ci #["self","name"] (QP Ci):=OY C.z C.ae C.kj #["self","name"] df λX H Q A h=>by
 let[p,R,U,rfl,W,q]:=h;refine[_,(Ab (Dj (pv 0) (pv 1) I)
   (Ab (Dj (pv 0) Kf I)
   (Ab (Dj (pv 0) (Ca Iw) I)
   (Ab (Dj (pv 0) Kf I)
   (Ac (Dj (pv 0) Hw I)))))),?_]
 refine[_,I,_,I,p,_,R,_,I,W,C.ae.cl,C.b9,(by show 0<1000;decide),?_];refine[_,I,p,_,R,_,I,Aa,C.ae.cl,C.ap,(by show 1<1000;decide),?_];refine[zAy _,λc L=>?_];let z:p≠c:=Ai (Aa (o:=.ins Ci R (Cw "condition" .non (Cw "name" (.str U) [])))) L;let N:H c=M:=by rw[Ak z.symm,Ak z.symm]at L;exact L
 refine[_,I,p,_,R,_,I,(by rw[Ak z];exact Aa),C.ae.cl,C.ax,(by show 2<1000;decide),?_];refine[_,I,p,_,R,_,I,Aa,C.ae.cl,C.aq,(by show 3<1000;decide),?_];refine[_,I,p,_,R,_,I,Aa,C.ae.cl,C.au,(by show 4<1000;decide),?_];refine q c _ N (λb F S=>by rw[Ak F,Ak F,Ak F,Ak S,Ak F,Ak F]) Aa ?_;rw[Ak z.symm,Ak z.symm,Ak z.symm,Aa]
def Mh:Cb #["self","condition"] #["self"] (Av Hu):=by injections
def Mj(j:Pm P w K mg base){f}{fd}(F:Fw K "as_cover" "Draft.as_cover" Hu f fd)(KCover:HB P w K mg base 6 "Cover" Bw #["self","name","condition","clauses","houses","waits"] (IE Bw Eo)) :
  Ar P w K mg base Jv 8 f fd #["self"] (KM (A8.mk Ag An Ao Aq Bd Bj Bp Ba) Bl De Br Bx Bw Eo Ci):=by
 let sc:=Mh;bv_omega
 .let[_,_,_,_,_,rfl,_]:=h
  rfl
 let[p,c,R,W,d,rfl,U,aa,dr,gd,q]:=h;let sg:Ae R H:=U.trans (Ap.sub _ _);let sM:∀{r:Hp},Ae H r->Ae (Ap W H) (Ap W r):=λs=>Ap.mono (λb o e _=>s b o e) λx hx=>.inl hx;let[dx,cv,sv,cs,hp,hc,h3,h4,h5]:=dr;refine[_,(Ab (Fk sc 1 (Iz (Ax Xr (Cj (pv 0) I) Kf (Bf _)) (L5 (Rg j) I) (Cj (pv 0) I)))
   (Ac (Ay (Fp KCover (hr.mono Y) I (Aw (Cj (pv 0) I) (Aw (pv 1) (Aw (Cj (pv 0) I) (Dy (Cj (pv 0) I) (Cj (pv 0) I))))))))),?_]
 refine[_,I,p,_,dx,_,_,I,hp,j.ae.cl,j.ap,Qk _ _ _ _ _,I,_,I,?_];refine M5 (λv r=>Ae H r/\Bv (A8.mk Ag An Ao Aq Bd Bj Bp Ba) (Ap W r) v (d.cd.getD (.at .alw))) (λe Q' k=>?_) (λe Q' k=>?_) ?_
 .have e:cv=.non:=mU e
  cases z:d.cd with
  |some t=>
   rw[z]at h3;let[pu,_,_,e',_]:=Bv.obj h3;rw[e]at e';cases e'
  |none=>
   intro y S m nd ne;refine k _ _ [Ho m nd,?_];rw[z];show Bv _ _ _ (.at .alw);unfold Bv;exact[y,S,I,Ap.of (λz=>by let[o,z]:=aa _ z;rw[m]at z;cases z) Aa]
 .have e:¬cv=.non:=λz=>e (mV z)
  cases z:d.cd with
  |none=>rw[z]at h3;exact mC h3 e
  |some t=>
   rw[z]at h3 k;exact[_,I,p,_,dx,_,_,I,hp,j.ae.cl,j.ap,Qk _ _ _ _ _,k _ _ [Ae.refl _,Bv.same U _ h3]]
 rintro u n ⟨s1,cu⟩;refine Ic #[g (.ref p),g u] rfl ?_;let L:=s1 _ _ hp;refine[_,I,p,_,dx,_,_,I,L,j.ae.cl,j.b9,Wf _ _ _ _ _,_,I,_,I,p,_,dx,_,_,I,L,j.ae.cl,j.ax,Nx _ _ _ _ _,?_];refine[_,I,p,_,dx,_,_,I,L,j.ae.cl,j.aq,Qa _ _ _ _ _,_,I,p,_,dx,_,_,I,L,j.ae.cl,j.au,Tb _ _ _ _ _,?_];intro y S m nd ne;let s2:Ae n (upd (upd n S (.own y)) y (.ins Bw S [])):=Ho m nd;let C:=s1.trans s2;let X:=gd.hs;let ew:=TC d.lc.hs;let eh:=UE d.lc.hs;let gn:Zg (.str d.nm):=[gd.nm,λz=>gd.ns (V.str.inj z)];let ab:cs.length<=8:=by rw[h4.len];exact gd.cl
 let ac:CZ (upd (upd n S (.own y)) y (.ins Bw S [])) (.str d.nm) sv (Wv d.lc.hs):=by
  unfold Dr.lc;cases z:d.sh with
  |none=>rw[z]at h5;exact .inl [h5,I]
  |some l=>
   rw[z]at h5;let[a,xs,e,g1,g2]:=h5;exact .inr [a,xs,e,C _ _ (sg _ _ g1),g2.mono (Jb (sg.trans C))]
 refine[y,S,d.nm,u,.ref c,cs,sv,Wv d.lc.hs,.bl d.wt,d.lc.hs.map (·.1),d.lc.hs.map (·.2),I,Aa,gn,Ga gd.nm,.inr [c,I,C _ _ hc],ab,ac,eh,λz hz=>[X.1 z hz,zAG (Ga (X.1 z hz)) Y],X.2,ew,gd.gw,λcl h1 dd wh wt r kb N f1 f2 f3 f4 f5=>?_];rw[eh]at N;let s3:Ae n r:=λb o e=>kb b o (s2 _ _ e) (Ai e m);let i:∀{b:T},n b=M->b∉W:=λh z=>by let[o,z]:=aa _ z;rw[s1.free h]at z;cases z
 let sN:Ae (Ap W n) (Ap W r):=Ap.mono (λb o e _=>s3 b o e) λx hx=>.inl hx;refine[I,q y r (s1.trans s3) (s1.free m) [cl,h1,dd,wh,wt,u,cs,N.off (i m) (i (Gu f1)) (i (Gu f2)) (i (Gu f3)) (i (Gu f4)) (i (Gu f5)),Bv.same sN _ cu,(h4.same U).same ((sM s1).trans sN)]]
end
def QU{z bs:List J}(h:z.map V.str=bs.map V.str):z=bs:=yK (λx x e=>V.str.inj e) |>.mp h
def CS{z bs:List Int}(h:z.map V.int=bs.map V.int):z=bs:=yK (λx x e=>V.int.inj e) |>.mp h
def HZ{K:zAa}{C U m j:T}{vs:List V}{H:Hp}{Q:VK}{E:XK}(h:IE C U vs H Q E):BF K C U m j vs H Q E0:=by
 let[p,a,A,cd,c,cs,s,F,r,S,W,rfl,t,u,nl,l,cl,w,X,N,i,L,b,q]:=h;let f:Jt (F.map (·.1)):=[S,X,λz P=>(N z P).1,i];refine[p,a,.str A,_,cd,c,cs,s,F,r,I,t,.str A,λz e=>by cases e;lia,l,w,?_,λz P=>?_,λz=>?_,λ_ _ _ z=>?_,λab aa e _ _ _ R _=>?_]
 .have:=nI oJ L
  rw[zAb,zAb]at this;let:=b.hi
  lia
 .have h1:z.1∈S.map V.str:=by rw[<- X];exact x8 P
  let v:z.2∈W.map V.int:=by rw[<- L];exact x8 P
  let[y,o,d]:=zAv.mp h1;let[n,hn,k]:=zAv.mp v;rw[<- d,<- k];exact[λx e=>by cases e;exact(N y o).2,[_,.str y],[_,.int n]]
 .rcases z with z|z|z
  .exact mC u z
  .lia
  .exact mC f z
 .exact mC [W,L,b] z
 .cases e
  rw[L]at R;obtain rfl:=CS R;exact q
def KCover(C:Pm P w K c b):Jk C 6 "Cover" Bw #["self","name","condition","clauses","houses","waits"] (IE Bw Eo):=jG C.z C.ao C.mv (λf H F=>(Xn C F).ofX.imp λx x x x h=>HZ h) b6
def Us(C:Pm P w K c b):Jm C 8 Ci "as_cover" #["self"] (KM (A8.mk Ag An Ao Aq Bd Bj Bp Ba) Bl De Br Bx Bw Eo Ci):=Sq C.dw C.ae.cl bd λf H F=>(Mj C F (KCover C))
inductive MZ(K:zAa)(CV:T)(κ:A8)(CC CO CL CM CR:T)(vs:List V)(H:Hp)(E:XK):Prop
 |mk (p:_) (c:_) (m:_) (d:_) (z0:vs=#[.ref p]) (z1:Ae m H) (z2:jW κ CC CO CL CM CR m H p c d) (z3:¬Fx d) (z4:d.nm.length<=100) (z5:d.lc.hs.length<=900) (z6:(∀x∈d.lc.hs,x.1.length<=100)) (z7:∀C e H',zAY K (.ref C) (.ref CV)=g B->Ae H H'->E (.ref C) e H')
def EV(K:zAa)(C:T)(κ:A8)(L N P U CR:T):Sp:=λR H Q E=>MZ K C κ L N P U CR R H E
section
seal L2.PS L2.PSs L2.PE L2.PA
variable {P:mF} {w:mR} {K:zAa} {mg:J->Option lV} {base:mX}
def Yc(j:Pm P w K mg base){f:T}{fd:zCA}(F:Fw K "as_cover" "Draft.as_cover" Hu f fd) :
  Ar P w K mg base (Nt P w) 8 f fd #["self"] (EV K Cp (A8.mk Ag An Ao Aq Bd Bj Bp Ba) Bl De Br Bx Ci):=by
 let sc:=Mh;refine F.okX sc (λvs H Q E h=>?_) (λa1 A a0 s H vs Q E hr h=>?_)
 .let[_,_,_,_,rfl,_]:=h
  rfl
 let[p,c,W,d,rfl,sg,dr,ab,nl,hl,hx,q]:=h;let[m,cv,sv,cs,hp,hc,h3,h4,U]:=dr;refine[_,(Ab (Fk sc 1 (Iz (Ax Xr (Cj (pv 0) I) Kf (Bf _)) (L5 (Rg j) I) (Cj (pv 0) I)))
   (Ac (Ay (Pd (QC j) (hr.mono Y) Bt I (Aw (Cj (pv 0) I) (Aw (pv 1) (Aw (Cj (pv 0) I) (Dy (Cj (pv 0) I) (Cj (pv 0) I))))))))),?_]
 refine Je λN eN=>?_;refine[_,I,p,_,m,_,_,I,hp,j.ae.cl,j.ap,Qk _ _ _ _ _,I,_,I,?_];refine M5 (λv t=>Ae H t) (λe Q' k=>?_) (λe Q' k=>?_) ?_
 .intro y S X nd ne
  exact k _ _ (Ho X nd)
 .exact[_,I,p,_,m,_,_,I,hp,j.ae.cl,j.ap,Qk _ _ _ _ _,k _ _ (Ae.refl _)]
 rintro u i s1;subst eN;refine Ic #[g (.ref p),g u] rfl ?_;let L:=s1 _ _ hp;refine[_,I,p,_,m,_,_,I,L,j.ae.cl,j.b9,Wf _ _ _ _ _,_,I,_,I,p,_,m,_,_,I,L,j.ae.cl,j.ax,Nx _ _ _ _ _,?_];refine[_,I,p,_,m,_,_,I,L,j.ae.cl,j.aq,Qa _ _ _ _ _,_,I,p,_,m,_,_,I,L,j.ae.cl,j.au,Tb _ _ _ _ _,?_];intro y S X nd ne;let s2:Ae i (upd (upd i S (.own y)) y (.ins Bw S [])):=Ho X nd;let R:=s1.trans s2;let ac:CZ (upd (upd i S (.own y)) y (.ins Bw S [])) (.str d.nm) sv (Wv d.lc.hs):=by
  unfold Dr.lc;cases z:d.sh with
  |none=>rw[z]at U;exact .inl [U,I]
  |some l=>
   rw[z]at U;let[a,xs,e,g1,g2]:=U;exact .inr [a,xs,e,R _ _ (sg _ _ g1),g2.mono (Jb (sg.trans R))]
 let r:∀{t:Hp},KB y (upd (upd i S (.own y)) y (.ins Bw S [])) t->Ae H t:=λn b o e=>n b o (R b o e) λzz=>by rw[zz,s1.free X]at e;cases e
 let lp:(Wv d.lc.hs).length=d.lc.hs.length:=by unfold Wv;rw[zAb]
 refine[y,S,.str d.nm,_,u,.ref c,cs,sv,Wv d.lc.hs,.bl d.wt,I,Aa,.str d.nm,λz e=>by cases e;lia,.inr [c,I,R _ _ hc],ac,by rw[lp];exact hl,λz hz=>?_,λ_ t n=>q _ _ t j.j7 (r n),λ_ _ _ _ t n=>q _ _ t j.iw (r n),λnm ws e gn l8 gh C gw=>?_]
 .let[x,aa,rfl]:=zAv.mp hz
  exact[λz e=>by cases e;let:=hx x aa;lia,[_,.str x.1],[_,.int x.2]]
 .refine mC ?_ ab
  rw[UE]at gh;rw[TC]at C;let[ns,e1,g1,g2]:=gh;let e1:=QU e1;let C:=CS C;exact[gn.1,λz=>gn.2 (by rw[z]),by rw[<- h4.len];exact l8,by rw[e1];exact[g1,g2],by rw[C];exact gw]
def AK(C:Pm P w K mg base):Gf P w K mg base 8 Ci "as_cover" #["self"] (λvs H Q E=>KM (A8.mk Ag An Ao Aq Bd Bj Bp Ba) Bl De Br Bx Bw Eo Ci vs H Q E\/EV K Cp (A8.mk Ag An Ao Aq Bd Bj Bp Ba) Bl De Br Bx Ci vs H Q E):=NZ C.dw C.ae.cl bd λf L F=>Ar.or (Mj C F (KCover C)).toX (Yc C F)
end
inductive Bn where
 |cov (n:J)|when (t:Ev)|cls (c:Cl)|shr (l:List (J×Int))|wts
def BR:Cl->List J
 |.own y d=>#[O "own",y,tx (El d.toNat)]
 |.lay y a b=>#[O "layer",y,tx (El a.toNat),tx (El b.toNat)]
 |.lim y m=>#[O "limit",y,tx (El m.toNat)]
 |.any _=>[]
def E9(l:List (J×Int)):List J:=l.flatMap λx=>#[x.1,tx (Di x.2.toNat)]
def Bn.ws:Bn->List J
 |.cov n=>#[O "cover",n]
 |.when t=>O "when" :: Bz Bb t
 |.cls c=>BR c
 |.shr l=>O "share" :: E9 l
 |.wts=>#[O "waits"]
def Bn.row(r:Bn):J:=mE (O " ") r.ws
def I9:Cl->Prop
 |.own y d=>Gz y/\Zx d
 |.lay y a b=>Gz y/\Zx a/\Zx b/\a<b
 |.lim y m=>Gz y/\Zx m
 |.any _=>False
def Mi:Bn->Prop
 |.cov n=>nameV (.str n)=B/\n ≠ "self"
 |.when t=>Fd Ej t/\(Bz Bb t).length<=60/\Dz t<=6/\Mx t<66
 |.cls c=>I9 c
 |.shr l=>1<=l.length/\l.length<=3/\∀x∈l,nameV (.str x.1)=B/\1<=x.2/\x.2<=100
 |.wts=>True
def Tf{n:J}(h:nameV (.str n)=B):okW n:=by
 let C:=Ga h;let h:Si n.cps.toList:=mU h;exact[λz=>by let:=h.2 32 z;unfold Kh at this;lia,Z]
def L4{y:J}(h:Gz y):okW y:=by
 rcases h with rfl|rfl|rfl|rfl<;>exact[G,G]
def Qf{d:Int}(h:Zx d):okW (tx (El d.toNat)):=by
 let[F,L]:=h;refine[λz=>?_,?_]
 .have z:32∈El d.toNat:=z
  unfold El at z;rcases zAE.mp z with z|z
  .have:=Lr _ 32 z;lia
  .simp at z;lia
 .rw[Dg,Lm]
  let:(Di (d.toNat/100)).length<=10:=Es Y Z
  lia
def HM{n:Nat}(h:n<=1000):okW (tx (Di n)):=[λz=>by let:=Lr n 32 z;lia,by rw[Dg];let:(Di n).length<=7:=Es Y Z;lia]
def CG(c:Cl):(BR c).length<=4:=by cases c<;>simp[BR]
def WE{c:Cl}(h:I9 c):∀w∈BR c,okW w:=by
 intro w z;cases c with
 |own y d=>
  simp[BR]at z;rcases z with rfl|rfl|rfl
  .exact[G,G]
  .exact L4 h.1
  .exact Qf h.2
 |lay y a b=>
  simp[BR]at z;rcases z with rfl|rfl|rfl|rfl
  .exact[G,G]
  .exact L4 h.1
  .exact Qf h.2.1
  .exact Qf h.2.2.1
 |lim y d=>
  simp[BR]at z;rcases z with rfl|rfl|rfl
  .exact[G,G]
  .exact L4 h.1
  .exact Qf h.2
 |any y=>exact h.elim
def Tu(l:List (J×Int)):(E9 l).length=2*l.length:=by
 induction l with
 |nil=>rfl
 |cons x l C=>
  show(x.1::tx (Di x.2.toNat)::E9 l).length=_;rw[zAd,zAd,C,zAd];lia
def Ve{r:Bn}(h:Mi r):(∀w∈r.ws,okW w)/\1<=r.ws.length/\r.ws.length<=61:=by
 cases r with
 |cov n=>
  refine[λw z=>?_,by show 1<=2;decide,by show 2<=61;decide];simp[Bn.ws]at z;rcases z with rfl|rfl
  .exact[G,G]
  .exact Tf h.1
 |when t=>
  refine[λw z=>?_,?_,?_]
  .rcases zAg.mp z with rfl|z
   .exact[G,G]
   .exact Ow h.1 w z
  .show 1<=(Bz Bb t).length+1;lia
  .show (Bz Bb t).length+1<=61;let:=h.2.1;lia
 |cls c=>
  refine[WE h,?_,zAG (CG c) Y];cases c with
  |any y=>exact h.elim
  |_=>show 1<=_;simp[Bn.ws,BR]
 |shr l=>
  refine[λw z=>?_,?_,?_]
  .rcases zAg.mp z with rfl|z
   .exact[G,G]
   .let[x,F,z]:=List.mem_flatMap.mp z
    let[H,C,L]:=h.2.2 x F;simp at z;rcases z with rfl|rfl
    .exact Tf H
    .exact HM Z
  .show 1<=(E9 l).length+1;lia
  .show (E9 l).length+1<=61;rw[Tu];let:=h.2.1;lia
 |wts=>
  refine[λw z=>?_,by show 1<=1;decide,by show 1<=61;decide];simp[Bn.ws]at z;subst z;exact[G,G]
def YU{r:Bn}(h:Mi r):r.ws≠[]:=λz=>by let:=(Ve h).2.1;rw[z]at this;simp at this
def GA{r:Bn}(h:Mi r):rA r.row (O " ")=r.ws:=Ls (YU h) (Ve h).1
def RI{r:Bn}(h:Mi r):r.row.length+2<=sizeLine:=by
 let F:=Ik (z:=O " ") (B:=100) (ps:=r.ws) λy S=>((Ve h).1 y S).2;let L:(O " ").length=1:=by ac_nf
 rw[L]at F;let:=(Ve h).2.2;let C:r.ws.length*(100+1)<=61*(100+1):=zBq _ this;unfold Bn.row;rw[zCy];lia
def X5(l:List (J×Int))(h:l.length<=3):Mz ((O "share" :: E9 l).map V.str) (g 1) 2=l.map (λx=>V.str x.1)/\Mz ((O "share" :: E9 l).map V.str) (g 2) 2=l.map (λx=>V.str (tx (Di x.2.toNat))):=by
 let F:∀n:Nat,n<=3->uO (nL (g 1) M (g 2) (2*n+1)).1 (nL (g 1) M (g 2) (2*n+1)).2.1 (nL (g 1) M (g 2) (2*n+1)).2.2=(zAU n).map (λk=>2*k+1):=by ac_nf
 let z:∀n:Nat,n<=3->uO (nL (g 2) M (g 2) (2*n+1)).1 (nL (g 2) M (g 2) (2*n+1)).2.1 (nL (g 2) M (g 2) (2*n+1)).2.2=(zAU n).map (λk=>2*k+2):=by ac_nf
 let L:((O "share" :: E9 l).map V.str).length=2*l.length+1:=by rw[zAb,zAd,Tu]
 unfold Mz;rw[L,F _ h,z _ h]
 match l,h with
 |[],_=>exact[I,I]
 |#[a],_=>exact[I,I]
 |#[a,b],_=>exact[I,I]
 |#[a,b,c],_=>exact[I,I]
def C0(x:V)(xs:List V):Qs (x::xs) (g 1) M=xs:=by
 let e:=HT.sIx_nat (x::xs).length 0 1;unfold Qs;rw[show(g (1:Int))=g ((1:Nat):Int) from rfl,HT.sIx_nat,HT.sIx_none];let:min 1 (x::xs).length=1:=by rw[zAd];lia
 rw[this,List.drop_one,List.tail_cons,zBX (by rw[zAd];lia)]
inductive CW(κ:A8)(CR:T)(vs:List V)(H:Hp)(Q:VK):Prop
 |mk (p:_) (wl:_) (dx:_) (nm:_) (c:_) (sv:_) (wt:_) (t:_) (z0:vs=#[.ref p,.ref wl]) (z1:H p=g (.ins CR dx (Mv nm .non c sv wt))) (z2:H wl=g (.lst ((Bn.when t).ws.map V.str))) (z3:Mi (.when t)) (z4:∀u H',Kb p H H'->H' p=g (.ins CR dx (Mv nm u c sv wt))->Bv κ (Nw H H') u t->Q .non H'):CW κ CR vs H Q
def XS(κ:A8)(CR:T):Sp:=λC H Q x=>CW κ CR C H Q
inductive NX  (vs:List V)(H:Hp)(Q:VK):Prop
 |mk (n:Nat) (z0:vs=#[.str (tx (Di n))]) (z1:n<1000) (z2:Q (.int n) H):NX  vs H Q
def ZX:Sp:=λC H Q x=>NX  C H Q
inductive MY(CR:T)(vs:List V)(H:Hp)(Q:VK):Prop
 |mk (p:_) (wl:_) (dx:_) (nm:_) (cv:_) (c:_) (sv:_) (z0:vs=#[.ref p,.ref wl]) (z1:H p=g (.ins CR dx (Mv nm cv c sv lX))) (z2:H wl=g (.lst (Bn.wts.ws.map V.str))) (z3:Q .non (upd H p (.ins CR dx (Mv nm cv c sv B)))):MY CR vs H Q
def aX(CR:T):Sp:=λC H Q x=>MY CR C H Q
inductive II(CC CO CL CM:T)(vs:List V)(H:Hp)(Q:VK):Prop
 |mk (wl:_) (c:_) (z0:vs=#[.ref wl]) (z1:H wl=g (.lst ((BR c).map V.str))) (z2:I9 c) (z3:∀p H',Ae H H'->kC CC CO CL CM (Nw H H') p c->Q (.ref p) H'):II CC CO CL CM vs H Q
def ZG(C L N R:T):Sp:=λP H Q x=>II C L N R P H Q
def Qe{d:Int}(h:Zx d):((d.toNat:Nat):Int)=d/\d.toNat<10^12:=by let[z,C]:=h;lia
def Rf(K:zAa)(N:T)(H:Hp)(E:XK):Prop:=∀C d L,zAY K (.ref C) (.ref N)=g B->Ae H L->E (.ref C) d L
def Rf.later{K:zAa}{H L:Hp}{E:XK}(r:Rf K CV H E)(s:Ae H L):Rf K CV L E:=λC d P h N=>r C d P h (s.trans N)
def Rf.at{K:zAa}{z C:T}{H:Hp}{E:XK}(r:Rf K z H E)(h:zAY K (.ref C) (.ref z)=g B){d:Option T}:E (.ref C) d H:=r C d H h (Ae.refl H)
inductive KC(K:zAa)(CV:T)(vs:List V)(H:Hp)(E:XK):Prop
 |mk (x:J) (z0:vs=#[.str x]) (z1:x.length<=100) (z2:¬Io 3 x.cps.toList) (z3:Rf K CV H E)
def WL(K:zAa)(L:T):Sp:=λC H Q E=>ZX C H Q E\/KC K L C H E
inductive IA(K:zAa)(CV CR:T)(vs:List V)(H:Hp)(E:XK):Prop
 |mk (p:_) (wl:_) (dx:_) (nm:_) (cv:_) (c:_) (sv:_) (wt:_) (ws:_) (z0:vs=#[.ref p,.ref wl]) (z1:H p=g (.ins CR dx (Mv nm cv c sv wt))) (z2:H wl=g (.lst ws)) (z3:(wt=B\/ws.length≠1)) (z4:Rf K CV H E)
def UW(K:zAa)(L CR:T):Sp:=λC H Q E=>aX CR C H Q E\/IA K L CR C H E
def SF:List J->Prop
 |#[a,y,z]=>(a=O "own" \/ a=O "limit")->Lp z.cps.toList=M\/∃n,Lp z.cps.toList=g n/\n<10^12/\¬Gz y
 |#[a,y,z,u]=>a=O "layer"->Lp z.cps.toList=M\/∃m,Lp z.cps.toList=g m/\m<10^12/\(Lp u.cps.toList=M\/∃n,Lp u.cps.toList=g n/\n<10^12/\(¬Gz y\/(Gz y/\n<=m)))
 |_=>True
inductive KY(K:zAa)(CV CC CO CL CM:T)(vs:List V)(H:Hp)(E:XK):Prop
 |mk (wl:_) (ws:List J) (z0:vs=#[.ref wl]) (z1:H wl=g (.lst (ws.map V.str))) (z2:ws≠[]) (z3:(∀x∈ws,x.length<=100)) (z4:SF ws) (z5:Rf K CV H E)
def YD(K:zAa)(U C L N R:T):Sp:=λP H Q E=>ZG C L N R P H Q E\/KY K U C L N R P H E
inductive FS(K:zAa)(CV:T)(κ:A8)(CR:T)(vs:List V)(H:Hp)(E:XK):Prop
 |mk (p:_) (wl:_) (dx:_) (nm:_) (cv:_) (c:_) (sv:_) (wt:_) (a:_) (ws:List J) (z0:vs=#[.ref p,.ref wl]) (z1:H p=g (.ins CR dx (Mv nm cv c sv wt))) (z2:H wl=g (.lst ((a::ws).map V.str))) (z3:Rf K CV H E) (z4:(cv≠.non\/(cv=.non/\ws.length<=100/\(∀x∈ws,okW x)/\∃us f,mE (O " ") ws=mE (O " ") us/\us≠[]/\(∀x∈us,okW x)/\us.length<=100/\lJ Bb Ej Xl us f)))
def RK(K:zAa)(L:T)(κ:A8)(CR:T):Sp:=λC H Q E=>XS κ CR C H Q E\/FS K L κ CR C H E
section
seal L2.PS L2.PSs L2.PE L2.PA
variable {P:mF} {w:mR} {K:zAa} {mg:J->Option lV} {base:mX}
def Y2(C:Pm P w K mg base):Qr P w K mg base 3 "weight_of" #["word"] (WL K Cp):=TX C.z C.qa #["word"] (dg λX H Q E h=>by
  rcases h with ⟨_,rfl,_⟩ | ⟨_,rfl,_⟩<;>rfl) λU H Q E R h=>by
 refine[_,(Ab (Ce (Et (Eb (Gg (Mp C) R (Dy (pv 0) (Vr C.z C.iu)))))
    (Ac (Eh Bt I (Zf C.z C.b8 C.bb) I (Cf Aj)))
    Be)
   (Ac (Ay (Dq Kn I (C.z.nn C.dk) (show zCz _=g (.type "int") from rfl) (Cf (pv 0)))))),?_]
 rcases h with ⟨n,rfl,W,q⟩|⟨x,rfl,F,N,q⟩
 .have L:(Di n).length<=3:=Es Y Z
  refine[_,I,Di n,3,I,Z,_,I,?_];rw[mV (Rz Y Z)];refine Gr [_,I,_,_,I,G3 (Lr _) (E6 _) Z,by rw[Dg];lia,?_];rw[Td];exact q
 .have z:tx x.cps.toList=x:=Hq x
  generalize x.cps.toList=l at N z;subst z;rw[Dg]at F;refine[_,I,l,3,I,Z,_,I,?_];rw[mQ N];exact Fc [Ck (by show 1<=1000;decide),q.at C.aj]
def U9(R:Pm P w K mg base):Qr P w K mg base 1 "take_waits" #["draft","words"] (UW K Cp Ci):=TX R.z R.p7 #["draft","words"] (dg λl H Q E h=>by
  rcases h with ⟨_,_,_,_,_,_,_,rfl,_⟩ | ⟨_,_,_,_,_,_,_,_,_,rfl,_⟩<;>rfl) λj H Q E k h=>by
 refine[_,(Ab (Ce (PW.pt (Jg (Eb (Cj (pv 0) I)) (Gv (Ax Sl (Ix Bg R.z R.ag (Cf (pv 1))) Ah (Bf _)))))
    (Ac (Eh Bt I (Zf R.z R.b8 R.bb) I (Cf Aj)))
    Be)
   (Ac (Dj (pv 0) Hw I))),?_]
 rcases h with ⟨p,L,X,b,N,c,C,rfl,A,S,q⟩|⟨p,L,X,b,N,c,C,U,f,rfl,A,S,W,q⟩
 .refine[_,I,p,_,X,_,_,I,A,R.ae.cl,R.au,Tb _ _ _ _ _,_,I,Gr ?_]
  refine[_,I,L,_,I,.inl (Al.of S),I,_,I,nF I ?_];exact[_,I,p,_,X,_,I,A,R.ae.cl,R.au,(by show 5<1000;decide),q]
 .have F:=q.at R.aj (d:=M)
  refine[_,I,p,_,X,_,_,I,A,R.ae.cl,R.au,Tb _ _ _ _ _,_,I,?_];cases U with
  |true=>exact Fc (Fc [Ck (by show 1<=1000;decide),F])
  |false=>
   rcases W with z|z
   .cases z
   refine Gr [_,I,L,_,I,.inl (Al.of S),I,_,I,nT (λe=>z ?_) [Ck (by show 1<=1000;decide),F]];let:=V.int.inj e
   lia
def Y7(X:Pm P w K mg base):Qr P w K mg base 41 "take_when" #["draft","words"] (RK K Cp (A8.mk Ag An Ao Aq Bd Bj Bp Ba) Ci):=TX X.z X.q0 #["draft","words"] (dg λvs H Q E h=>by
  rcases h with ⟨_,_,_,_,_,_,_,_,rfl,_⟩ | ⟨_,_,_,_,_,_,_,_,_,_,rfl,_⟩<;>rfl) λsc H Q E hr h=>by
 refine[_,(Ab (Ce (Ax ER (Cj (pv 0) I) Kf (Bf _))
    (Ac (Eh Bt I (Zf X.z X.b8 X.bb) I (Cf Aj)))
    Be)
   (Ac (Dj (pv 0) (Eu (Vu X) (hr.mono Y) Bt I (Cf (Fg mY nP nO HR Aj (Cf (Js Lf (pv 1) (Le Ah) Lg))))) I))),?_]
 rcases h with ⟨p,A,k,nm,c,sv,wt,t,rfl,j,v,ok,q⟩|⟨p,A,k,nm,cv,c,sv,wt,a,f,rfl,j,v,q,aa⟩
 .refine[_,I,p,_,k,_,_,I,j,X.ae.cl,X.ap,Qk _ _ _ _ _,I,_,I,nF I ?_]
  let[F,ab,d6,af]:=ok;let l:=Ly F;let S:H A=g (.lst (V.str (O "when")::(Bz Bb t).map V.str)):=v;refine[I,_,I,_,I,A,_,I,Al.of S,λm N=>?_];let i:Qs (V.str (O "when")::(Bz Bb t).map V.str) (g 1) M=(Bz Bb t).map V.str:=C0 _ _;rw[i];let W:=Ad N (.lst ((Bz Bb t).map V.str));refine[_,m,Bz Bb t,I,I,Al.of Aa,Z,G,λy r=>by let:=(Ow F y r).2;lia,?_];refine .inl [Bz Bb t,I,λz=>by rw[z]at l;simp at l,Ow F,Z,.inl [t,(Dz t).toNat,ab,(ME t F).1,by let:=Wd t;lia,λu H1 U cd=>?_]];let C:=W.trans U;refine[_,I,p,_,k,_,I,C _ _ j,X.ae.cl,X.ap,(by show 5<1000;decide),?_];refine q u _ ((Kb.of C).trans Kb.upd) Aa ?_;refine cd.same λb o e=>?_;let[e0,e]:=Nw.at e;let L:H b=M:=W.free e0;exact Nw.of L (by rw[Ak (λz=>by rw[z,j]at L;cases L)];exact e)
 .refine[_,I,p,_,k,_,_,I,j,X.ae.cl,X.ap,Qk _ _ _ _ _,I,_,I,?_]
  rcases aa with ne|⟨rfl,l,ad,us,R,e,ae,x,ul,fl⟩
  .exact nT (λz=>ne z) [Ck (by show 1<=1000;decide),q.at X.aj]
  refine nF I ?_;let S:H A=g (.lst (V.str a::f.map V.str)):=v;refine[I,_,I,_,I,A,_,I,Al.of S,λm N=>?_];let i:Qs (V.str a::f.map V.str) (g 1) M=f.map V.str:=C0 _ _;rw[i];let W:=Ad N (.lst (f.map V.str));refine[_,m,f,I,I,Al.of Aa,Z,G,λy r=>by let:=(ad y r).2;lia,?_];rw[e];refine .inl [us,I,ae,x,ul,.inr [R,fl,?_]];cases R with
  |«at» n=>exactλd s U _=>q _ _ s X.j4 (W.trans U)
  |deep=>exactλs U=>q _ _ s X.j5 (W.trans U)
def AN(X:Pm P w K mg base):Qr P w K mg base 6 "clause_of" #["words"] (YD K Cp Bl De Br Bx):=TX X.z X.qb #["words"] (dg λvs H Q E h=>by
  rcases h with ⟨_,_,rfl,_⟩ | ⟨_,_,rfl,_⟩<;>rfl) λsc H Q E t h=>by
 refine[_,(Ab (Ce (PW.pt (Sa (Ax Dv (Ix Bg X.z X.ag (Cf (pv 0))) Ah (Bf _)) (Py (Ax Dv (Cr By (pv 0) Ah (λ_ _=>I)) Aj (Bf _)))))
    (Ac (Ay (Pd (fY X) (t.mono Y) Bt I (Dy (Cr By (pv 0) Ah (λ_ _=>I)) (Eu (Ku X) (t.mono Y) Bt I (Cf (Cr By (pv 0) Ah (λ_ _=>I))))))))
    Be)
   (Ab (Ce (PW.pt (Sa (Ax Dv (Ix Bg X.z X.ag (Cf (pv 0))) Ah (Bf _)) (Py (Ax Dv (Cr By (pv 0) Ah (λ_ _=>I)) Aj (Bf _)))))
    (Ac (Ay (Pd (XR X) (t.mono Y) Bt I (Dy (Cr By (pv 0) Ah (λ_ _=>I)) (Eu (Ku X) (t.mono Y) Bt I (Cf (Cr By (pv 0) Ah (λ_ _=>I))))))))
    Be)
   (Ab (Ce (PW.pt (Sa (Ax Dv (Ix Bg X.z X.ag (Cf (pv 0))) Ah (Bf _)) (Py (Ax Dv (Cr By (pv 0) Ah (λ_ _=>I)) Aj (Bf _)))))
    (Ac (Ay (Pd (XE X) (t.mono Y) Bt I (Aw (Cr By (pv 0) Ah (λ_ _=>I)) (Dy (Eu (Ku X) (t.mono Y) Bt I (Cf (Cr By (pv 0) Ah (λ_ _=>I)))) (Eu (Ku X) (t.mono Y) Bt I (Cf (Cr By (pv 0) Ah (λ_ _=>I)))))))))
    Be)
   (Ac (Eh Bt I (Zf X.z X.b8 X.bb) I (Cf Aj)))))),?_]
 let ls:∀{n:Nat},n<10^12->(El n).length<=900:=λ{n} h=>by rw[Lm];let:(Di (n/100)).length<=10:=Es Y Z;lia
 rcases h with ⟨L,c,rfl,p,ok,q⟩|⟨L,l,rfl,p,ae,aa,S,q⟩
 .have A:∀{C:T} {f v:Hp} {y dy:T},Ae H f->f y=M->f dy=M->(∀b o,upd (upd f dy (.own y)) y (.ins C dy []) b=g o->b≠y->v b=g o)->kC Bl De Br Bx v y c->Q (.ref y) v:=λR ny U r s=>by
   let[dx,s]:=s;exact q _ _ (R.trans (A3 ny U r)) [dx,Nw.of (R.free ny) s]
  cases c with
  |any y=>exact ok.elim
  |own y d=>
   let[N,hd]:=ok;let[e1,e2]:=Qe hd;let F:H L=g (.lst #[.str (O "own"),.str y,.str (tx (El d.toNat))]):=p;refine[_,I,L,_,I,.inl (Al.of F),I,_,I,dT I ?_];refine[_,I,L,_,_,_,I,I,Al.of F,I,I,_,I,dT I ?_];refine[_,I,L,_,_,_,I,I,Al.of F,I,_,I,L,_,_,_,I,I,Al.of F,I,.inl [_,I,ls e2,λf R=>?_]];rw[Md e2];exactλz k W U x=>.inl [z,k,y,d,nI (λi=>#[V.ref z,V.str y,V.int i]) e1,Aa,N,hd,λv r s=>[I,A R W U r s]]
  |lim y d=>
   let[N,hd]:=ok;let[e1,e2]:=Qe hd;let F:H L=g (.lst #[.str (O "limit"),.str y,.str (tx (El d.toNat))]):=p;refine[_,I,L,_,I,.inl (Al.of F),I,_,I,dT I ?_];refine[_,I,L,_,_,_,I,I,Al.of F,I,I,_,I,dF (λz=>mC (V.str.inj z) G) ?_];refine[_,I,L,_,I,.inl (Al.of F),I,_,I,dT I ?_];refine[_,I,L,_,_,_,I,I,Al.of F,I,I,_,I,dT I ?_];refine[_,I,L,_,_,_,I,I,Al.of F,I,_,I,L,_,_,_,I,I,Al.of F,I,.inl [_,I,ls e2,λf R=>?_]];rw[Md e2];exactλz k W U x=>.inl [z,k,y,d,nI (λi=>#[V.ref z,V.str y,V.int i]) e1,Aa,N,hd,λv r s=>[I,A R W U r s]]
  |lay y a b=>
   let[N,ha,hb,ab]:=ok;let[a1,a2]:=Qe ha;let[b1,b2]:=Qe hb;let F:H L=g (.lst #[.str (O "layer"),.str y,.str (tx (El a.toNat)),.str (tx (El b.toNat))]):=p;refine[_,I,L,_,I,.inl (Al.of F),I,_,I,dF (λz=>mC (V.int.inj z) (by show ¬((4:Int)=3);decide)) ?_];refine[_,I,L,_,I,.inl (Al.of F),I,_,I,dF (λz=>mC (V.int.inj z) (by show ¬((4:Int)=3);decide)) ?_];refine[_,I,L,_,I,.inl (Al.of F),I,_,I,dT I ?_];refine[_,I,L,_,_,_,I,I,Al.of F,I,I,_,I,dT I ?_];refine[_,I,L,_,_,_,I,I,Al.of F,I,_,I,L,_,_,_,I,I,Al.of F,I,.inl [_,I,ls a2,λf R=>?_]];rw[Md a2];refine[_,I,L,_,_,_,I,I,Al.of (R _ _ F),I,.inl [_,I,ls b2,λv s2=>?_]];rw[Md b2];exactλz k W U x=>.inl [z,k,y,a,b,(nI (λi=>#[V.ref z,V.str y,V.int i,V.int (b.toNat:Nat)]) a1).trans (nI (λj=>#[V.ref z,V.str y,V.int a,V.int j]) b1),Aa,N,ha,hb,ab,λH3 r s=>[I,A (R.trans s2) W U r s]]
 .have ac:1<=sizeLine/\E (.ref Tv) M H:=[Ck (by show 1<=1000;decide),q.at X.aj]
  let hl:(l.map V.str).length=l.length:=zAb _;by_cases l3:l.length=3
  .obtain⟨a,y,z,rfl⟩:∃a y z,l=#[a,y,z]:=by
    match l,l3 with
    |#[a,y,z],_=>exact[a,y,z,I]
   let F:H L=g (.lst #[.str a,.str y,.str z]):=p;let zl:z.cps.toList.length<=900:=by let:=aa z zZ;rw[<- Hq z,Dg]at this;lia
   let ad:∀{n:Nat},n<10^12->Zx (n:Int):=λh=>[Z,Z];refine[_,I,L,_,I,.inl (Al.of F),I,_,I,dT I ?_];by_cases c1:a=O "own"
   .subst c1
    refine[_,I,L,_,_,_,I,I,Al.of F,I,I,_,I,dT I ?_];refine[_,I,L,_,_,_,I,I,Al.of F,I,_,I,L,_,_,_,I,I,Al.of F,I,.inl [z.cps.toList,by rw[Hq],zl,λf R=>?_]];rcases S (.inl I)with e|⟨n,e,_,N⟩
    .rw[e];exact(q.later R).at X.av
    .rw[e]
     exactλz k W U x=>.inr [z,y,n,I,N,(q.later (R.trans (Ho W U))).at X.aw]
   refine[_,I,L,_,_,_,I,I,Al.of F,I,I,_,I,dF (λz=>c1 (V.str.inj z)) ?_];refine[_,I,L,_,I,.inl (Al.of F),I,_,I,dT I ?_];by_cases c2:a=O "limit"
   .subst c2
    refine[_,I,L,_,_,_,I,I,Al.of F,I,I,_,I,dT I ?_];refine[_,I,L,_,_,_,I,I,Al.of F,I,_,I,L,_,_,_,I,I,Al.of F,I,.inl [z.cps.toList,by rw[Hq],zl,λf R=>?_]];rcases S (.inr I)with e|⟨n,e,_,N⟩
    .rw[e];exact(q.later R).at X.av
    .rw[e]
     exactλz k W U x=>.inr [z,y,n,I,N,(q.later (R.trans (Ho W U))).at X.aw]
   refine[_,I,L,_,_,_,I,I,Al.of F,I,I,_,I,dF (λz=>c2 (V.str.inj z)) ?_];exact[_,I,L,_,I,.inl (Al.of F),I,_,I,dF (λz=>mC (V.int.inj z) (by show ¬((3:Int)=4);decide)) ac]
  .have n3:¬V.int ((l.map V.str).length:Int)=V.int 3:=λz=>l3 (by let:=V.int.inj z;rw[hl]at this;lia)
   refine[_,I,L,_,I,.inl (Al.of p),I,_,I,dF n3 ?_];refine[_,I,L,_,I,.inl (Al.of p),I,_,I,dF n3 ?_];by_cases l4:l.length=4
   .obtain⟨a,y,z,u,rfl⟩:∃a y z u,l=#[a,y,z,u]:=by
     match l,l4 with
     |#[a,y,z,u],_=>exact[a,y,z,u,I]
    let F:H L=g (.lst #[.str a,.str y,.str z,.str u]):=p;let zl:z.cps.toList.length<=900:=by let:=aa z zZ;rw[<- Hq z,Dg]at this;lia
    let ul:u.cps.toList.length<=900:=by let:=aa u zZ;rw[<- Hq u,Dg]at this;lia
    refine[_,I,L,_,I,.inl (Al.of F),I,_,I,dT I ?_];by_cases c1:a=O "layer"
    .subst c1
     refine[_,I,L,_,_,_,I,I,Al.of F,I,I,_,I,dT I ?_];refine[_,I,L,_,_,_,I,I,Al.of F,I,_,I,L,_,_,_,I,I,Al.of F,I,.inl [z.cps.toList,by rw[Hq],zl,λf R=>?_]];rcases S I with e|⟨m,e,m1,S⟩
     .rw[e];exact(q.later R).at X.av
     rw[e];refine[_,I,L,_,_,_,I,I,Al.of (R _ _ F),I,.inl [u.cps.toList,by rw[Hq],ul,λv s2=>?_]];rcases S with e|⟨n,e,n1,S⟩
     .rw[e];exact((q.later R).later s2).at X.av
     rw[e];intro z k W U x;let s3:=R.trans (s2.trans (Ho (o1:=.own z) (o2:=.ins Br k []) W U));refine .inr [z,k,y,m,n,I,Aa,?_];rcases S with N|⟨N,nm⟩
     .exact .inl [N,(q.later s3).at X.aw]
     .exact .inr [N,[Z,Z],[Z,Z],Z,λH3 r=>q _ _ H3 X.aw λb o e=>r b o (s3 b o e) λzz=>by rw[zz]at e;rw[(R.trans s2).free W]at e;cases e]
    .exact[_,I,L,_,_,_,I,I,Al.of F,I,I,_,I,dF (λz=>c1 (V.str.inj z)) ac]
   .have n4:¬V.int ((l.map V.str).length:Int)=V.int 4:=λz=>l4 (by let:=V.int.inj z;rw[hl]at this;lia)
    exact[_,I,L,_,I,.inl (Al.of p),I,_,I,dF n4 ac]
end
def Dr.put(d:Dr):Bn->Dr
 |.cov _=>d
 |.when t=>{ d with cd:=g t }
 |.cls c=>{ d with cl:=d.cl++#[c] }
 |.shr l=>{ d with sh:=g l }
 |.wts=>{ d with wt:=B }
def kM(d:Dr):Bn->Prop
 |.cov _=>False
 |.when _=>d.cd=M
 |.cls _=>d.cl.length<=100
 |.shr _=>d.sh=M
 |.wts=>d.wt=lX
def Ld(n:J):Dr:=[n,M,[],M,lX]
structure jO(κ:A8)(CC CO CL CM CD:T)(E:List T)(H:Hp)(l:T)(ds:List Dr):Prop where
 ex:∃pcs:List (T×T),H l=g (.lst (pcs.map λx=>V.ref x.1))/\jN (λpc d=>(pc.1∈E/\pc.2∈E)/\jW κ CC CO CL CM CD (Ap E H) H pc.1 pc.2 d) pcs ds/\(pcs.map (·.1)).Nodup/\(pcs.map (·.2)).Nodup/\l∉pcs.map (·.2)
 le:l∈E
 al:∀e∈E,∃o,H e=g o
inductive Lo:List Dr->List Bn->List Dr->Prop
 |nil {ds}:Lo ds [] ds
 |cov {ds n rs ds'}:Mi (.cov n)->ds.length<8->n∉ds.map (·.nm)->Lo (ds++#[Ld n]) rs ds'->Lo ds (.cov n::rs) ds'
 |put {ds d r rs ds'}:Mi r->kM d r->Fx (d.put r)->Lo (ds++#[d.put r]) rs ds'->Lo (ds++#[d]) (r::rs) ds'
def fN:CR.GW #[1]:=[Y,Y,Y,Y]
def Wr{n:J}(h:Mi (.cov n)):Fx (Ld n):=by
 refine[h.1,h.2,(by show 0<=8;decide),[λz F=>?_,(by show #[n].Nodup;simp)],fN];let:z=n:=by simpa[Ld,Dr.lc]using F
 subst this;exact h.1
def jN.with{C L:Type}{R:C->L->Prop}{z:List C}{bs}(h:jN R z bs):jN (λa b=>a∈z/\R a b) z bs:=by
 induction h with
 |nil=>exact .nil
 |cons r _ H=>exact .cons [zAl,r] (H.imp λa b ⟨m,q⟩=>[zAh _ m,q])
def jO.same{κ:A8}{E:List T}{H H':Hp}{l:T}{ds:List Dr}(h:jO κ CC CO CL CM CD E H l ds)(s:Ae H H'):jO κ CC CO CL CM CD E H' l ds:=by
 let[[F,X,P,W],L,R]:=h;let Q:Ae (Ap E H) (Ap E H'):=Ap.mono (λb o e y=>s b o e) λx U=>.inl U;exact[[F,s _ _ X,P.imp λA d ⟨N,C⟩=>[N,C.same Q (s _) (s _)],W],L,λe S=>by let[o,z]:=R e S;exact[o,s _ _ z]]
inductive ED(κ:A8)(CC CO CL CM CR:T)(vs:List V)(H:Hp)(Q:VK):Prop
 |mk (l:_) (wl:_) (n:_) (E:_) (ds:_) (z0:vs=#[.ref l,.ref wl]) (z1:jO κ CC CO CL CM CR E H l ds) (z2:H wl=g (.lst ((Bn.cov n).ws.map V.str))) (z3:ds.length<8) (z4:n∉ds.map (·.nm)) (z5:ds.length<=8) (z6:∀p c dx H',Ae H H'->H p=M->H c=M->p≠c->H' p=g (.ins CR dx (Mv n .non c .non lX))->H' c=g (.lst [])->Q (.ref p) H'):ED κ CC CO CL CM CR vs H Q
def BI(κ:A8)(C L N R CR:T):Sp:=λP H Q x=>ED κ C L N R CR P H Q
inductive P6(κ:A8)(CC CO CL CM CR:T)(vs:List V)(H:Hp)(Q:VK):Prop
 |mk (p:_) (c:_) (wl:_) (E:_) (d:_) (r:_) (z0:vs=#[.ref p,.ref wl]) (z1:(p∈E/\c∈E)) (z2:(∀e∈E,∃o,H e=g o)) (z3:jW κ CC CO CL CM CR (Ap E H) H p c d) (z4:H wl=g (.lst (r.ws.map V.str))) (z5:wl≠c) (z6:Mi r) (z7:kM d r) (z8:∀H',(∀b o,H b=g o->b≠p->b≠c->H' b=g o)->jW κ CC CO CL CM CR (Ap E H') H' p c (d.put r)->Q .non H'):P6 κ CC CO CL CM CR vs H Q
def BS(κ:A8)(C L N R CR:T):Sp:=λP H Q x=>P6 κ C L N R CR P H Q
inductive U8(κ:A8)(CC CO CL CM CR:T)(vs:List V)(H:Hp)(Q:VK):Prop
 |mk (l:_) (E:_) (ds:_) (r:_) (rs:_) (ds':_) (z0:vs=#[.ref l,.str r.row]) (z1:jO κ CC CO CL CM CR E H l ds) (z2:Lo ds (r::rs) ds') (z3:ds.length<=8) (z4:∀E' ds2 H',(∀b o,H b=g o->b∉E->H' b=g o)->(∀e∈E',e∈E\/H e=M)->jO κ CC CO CL CM CR E' H' l ds2->ds2.length<=8->Lo ds2 rs ds'->Q .non H'):U8 κ CC CO CL CM CR vs H Q
def DR(κ:A8)(C L N R CR:T):Sp:=λP H Q x=>U8 κ C L N R CR P H Q
structure ZQ(κ:A8)(CC CO CL CM C CD CB:T)(H:Hp)(b:T)(ls:List LC):Prop where
 ex:∃cl ak cs,YW CB H b cl ak cs/\jN (λc d=>c.2.1=d.nm/\c.2.2=d.wt/\kB κ CC CO CL CM C CD H c.1 d) cs ls
inductive NN(κ:A8)(CC CO CL CM C CD CB:T)(vs:List V)(H:Hp)(Q:VK):Prop
 |mk (a:_) (rs:_) (ds:_) (z0:vs=#[.ref a]) (z1:H a=g (.lst (rs.map λr=>V.str (Bn.row r)))) (z2:rs.length<=1000) (z3:Lo [] rs ds) (z4:∀b H',Ae H H'->ZQ κ CC CO CL CM C CD CB H' b (ds.map Dr.lc)->Q (.ref b) H'):NN κ CC CO CL CM C CD CB vs H Q
def TL(κ:A8)(L N P U C W X:T):Sp:=λR H Q x=>NN κ L N P U C W X R H Q
def BU(E:List T)(H:Hp):Ae (Ap E H) (Ap [] H):=λb o h=>Ap.of (λz=>nomatch z) (Ap.at h).2
def Pu{C:Type}(xs:List C)(x:C):Ob (xs++#[x]) (-1)=g x:=by
 unfold Ob;let e:IG (xs++#[x]).length (-1)=g xs.length:=by
  rw[zAc,zBe];unfold IG
  split
  .lia
  .split
   .congr 1;lia
   .lia
 rw[e];simp
def O5{c:Cl}(h:I9 c):∃k r,BR c=k::r/\(k=O "own" \/ k=O "layer" \/ k=O "limit"):=by
 cases c with
 |any _=>exact h.elim
 |own y d=>exact[_,_,I,.inl I]
 |lay y a b=>exact[_,_,I,.inr (.inl I)]
 |lim y d=>exact[_,_,I,.inr (.inr I)]
inductive HF(K:zAa)(CV:T)(κ:A8)(CC CO CL CM CR:T)(vs:List V)(H:Hp)(E:XK):Prop
 |mk (l:_) (wl:_) (M:_) (ds:_) (ws:List J) (z0:vs=#[.ref l,.ref wl]) (z1:jO κ CC CO CL CM CR M H l ds) (z2:H wl=g (.lst (ws.map V.str))) (z3:ds.length<=8) (z4:(ws.length≠2\/∃a n,ws=#[a,n]/\(ds.length=8\/n∈ds.map (·.nm)))) (z5:Rf K CV H E)
def P0(K:zAa)(C:T)(κ:A8)(L N P U CR:T):Sp:=λR H Q E=>HF K C κ L N P U CR R H E
section
seal L2.PS L2.PSs L2.PE L2.PA
variable {P:mF} {w:mR} {K:zAa} {mg:J->Option lV} {base:mX}
def Tj:Cb #["drafts","words"] #["drafts","words"] (Av Mn):=by injections
def Tc(W:Pm P w K mg base){f:T}(F:Fw K "new_draft" "new_draft" Mn f fd):Ar P w K mg base Jv 3 f fd #["drafts","words"] (BI (A8.mk Ag An Ao Aq Bd Bj Bp Ba) Bl De Br Bx Ci):=by
 let sc:=Tj;bv_omega
 .let[_,_,_,_,_,rfl,_]:=h
  rfl
 let[l,k,n,ae,ds,rfl,[[R,v,al,_,_,_],_,_],hw,l8,nn,_,q]:=h;let C:=al.len;refine[_,(Ab (Ce (PW.pt (Jg (Ax Sl (Ix Bg W.z W.ag (Cf (pv 1))) Ah (Bf _)) (Gv (Ax Dv (Ix Bg W.z W.ag (Cf (pv 0))) (Vr W.z W.cr) (Bf _)))))
    (Ac Ju)
    Be)
   (Ab (Ce (Ax Ng (Cr By (pv 1) Ah (λ_ _=>I)) (Hv (NC:=#["draft"]) (own:=#["draft"]) (cs:=[]) (ix:=[]) I (Az.of I) I trivial (Em (pv 0)) (λ_ _ _=>(Xa 0)) (λ_ _ _=>Fh) (λ_ _ _=>(Sw (K:=K) (pv 0) I))) I)
    (Ac Ju)
    Be)
   (Ac (Ay (Fp (JW W) (hr.mono Y) I (Cf (Cr By (pv 1) Ah (λ_ _=>I)))))))),?_]
 let N:H k=g (.lst #[.str (O "cover"),.str n]):=hw;let lm:(R.map λx=>V.ref x.1).length=ds.length:=by rw[zAb,C]
 refine[_,I,k,_,I,.inl (Al.of N),I,_,I,nF I ?_];refine[_,I,l,_,I,.inl (Al.of v),I,_,I,dF (λz=>by let:=V.int.inj z;rw[lm]at this;lia) ?_];refine[_,I,k,_,_,_,I,I,Al.of N,I,_,I,l,I,[_,Al.of v],λm nm=>?_];refine Ez (K:=K) (a:=l) (xs:=R.map λx=>V.ref x.1) (λi X S=>X=((ds.take i).map (·.nm)).map V.str/\S m=g (.lst X)/\Ae H S) [I,Aa,Ad nm _]
  (λi X S _ ⟨e,j,L⟩=>[j,by rw[e,zAb,zAb,zAq];lia,Al.of (L _ _ v)]) (by rw[lm,zCy];lia) (λi x X S hi ⟨e,j,L⟩=>?_) (λX S ⟨e,j,L⟩=>?_)
 .rw[zAt]at hi
  let[pc,ab,rfl]:=zAI.mp hi;let[d,ed,_,[r,cv,sv,cs,hp,_]]:=al.get ab;refine[_,I,pc.1,_,r,_,_,I,L _ _ hp,W.ae.cl,W.b9,Wf _ _ _ _ _,j,I,?_,Aa,λb o z=>?_]
  .rw[Df ed,zAf,zAf,e]
   rfl
  .rw[Ak (Ai z nm)]
   exact L b o z
 rw[lm,zAB]at e;subst e;refine[m,_,I,.inl (Al.of j),I,Ll _,_,I,bF ?_ ?_]
 .show Wb (.str n) _=lX
  unfold Wb;rw[rL,zCs];intro y hy e;let e':Px (.str y) (.str n)=B:=e;unfold Px at e';let:y=n:=by simpa using e'
  subst this;exact nn hy
 refine[_,I,k,_,_,_,I,I,Al.of (L _ _ N),I,λp r np nd ne=>[p,r,n,I,Aa,λc H3 u kp aa ad=>[I,?_]]];let ac:p≠c:=λz=>by rw[z,Aa]at u;cases u
 let U:S c=M:=Gu u;refine q p c r H3 (λb o e=>?_) (L.free np) (L.free U) ac aa ad;let t:=L _ _ e;let n1:=Ai t np;rw[kp b n1 (Ai t U),Ak n1,Ak (Ai t nd)];exact t
def Y5(C:Pm P w K mg base):Jc C 3 "new_draft" #["drafts","words"] (BI (A8.mk Ag An Ao Aq Bd Bj Bp Ba) Bl De Br Bx Ci):=(W2 C.z C.ie bd).cal λf H F=>Tc C F
def Vq(W:Pm P w K mg base){f:T}(F:Fw K "new_draft" "new_draft" Mn f fd):Ar P w K mg base (Nt P w) 3 f fd #["drafts","words"] (P0 K Cp (A8.mk Ag An Ao Aq Bd Bj Bp Ba) Bl De Br Bx Ci):=by
 let sc:=Tj;refine F.okX sc (λvs H Q E h=>?_) (λa0 A v s H vs Q E hr h=>?_)
 .let[_,_,_,_,_,rfl,_]:=h
  rfl
 let[l,k,ac,j,p,rfl,[[U,t,al,_,_,_],_,_],hw,l8,L,q]:=h;let S:=al.len;refine[_,(Ab (Ce (PW.pt (Jg (Ax Sl (Ix Bg W.z W.ag (Cf (pv 1))) Ah (Bf _)) (Gv (Ax Dv (Ix Bg W.z W.ag (Cf (pv 0))) (Vr W.z W.cr) (Bf _)))))
    (Ac (Eh Bt I (Zf W.z W.b8 W.bb) I (Cf Aj)))
    Be)
   (Ab (Ce (Ax Ng (Cr By (pv 1) Ah (λ_ _=>I)) (Hv (NC:=#["draft"]) (own:=#["draft"]) (cs:=[]) (ix:=[]) I (Az.of I) I trivial (Em (pv 0)) (λ_ _ _=>(Xa 0)) (λ_ _ _=>Fh) (λ_ _ _=>(Sw (K:=K) (pv 0) I))) I)
    (Ac (Eh Bt I (Zf W.z W.b8 W.bb) I (Cf Aj)))
    Be)
   (Ac (Ay (Fp (JW W) (hr.mono Y) I (Cf (Cr By (pv 1) Ah (λ_ _=>I)))))))),?_]
 let R:(U.map λx=>V.ref x.1).length=j.length:=by rw[zAb,S]
 let lw:(p.map V.str).length=p.length:=zAb _;refine[_,I,k,_,I,.inl (Al.of hw),I,_,I,?_];by_cases r:p.length=2
 .refine nF (by rw[lw,r];rfl) ?_
  rcases L with z|⟨a,n,rfl,L⟩
  .exact mC r z
  refine[_,I,l,_,I,.inl (Al.of t),I,_,I,?_];by_cases u:j.length=8
  .exact dT (by rw[R,u];rfl) [Ck (by show 1<=1000;decide),q.at W.aj]
  let nn:n∈j.map (·.nm):=L.resolve_left u;refine dF (λz=>u (by let:=V.int.inj z;rw[R]at this;lia)) ?_;let aa:H k=g (.lst #[.str a,.str n]):=hw;refine[_,I,k,_,_,_,I,I,Al.of aa,I,_,I,l,I,[_,Al.of t],λm y=>?_];refine Ez (K:=K) (a:=l) (xs:=U.map λx=>V.ref x.1) (λi X C=>X=((j.take i).map (·.nm)).map V.str/\C m=g (.lst X)/\Ae H C) [I,Aa,Ad y _]
   (λi X C _ ⟨e,c,N⟩=>[c,by rw[e,zAb,zAb,zAq];lia,Al.of (N _ _ t)]) (by rw[R,zCy];lia) (λi x X C hi ⟨e,c,N⟩=>?_) (λX C ⟨e,c,N⟩=>?_)
  .rw[zAt]at hi
   let[pc,ab,rfl]:=zAI.mp hi;let[d,ed,_,[dx,cv,sv,cs,hp,_]]:=al.get ab;refine[_,I,pc.1,_,dx,_,_,I,N _ _ hp,W.ae.cl,W.b9,Wf _ _ _ _ _,c,I,?_,Aa,λb o z=>?_]
   .rw[Df ed,zAf,zAf,e]
    rfl
   .rw[Ak (Ai z y)]
    exact N b o z
  rw[R,zAB]at e;subst e;refine[m,_,I,.inl (Al.of c),I,Ll _,_,I,bT ?_ [Ck (by show 1<=1000;decide),(q.later N).at W.aj]];show Wb (.str n) _=B;unfold Wb;rw[rL,zA];exact[n,nn,by show Px (.str n) (.str n)=B;unfold Px;simp]
 .exact nT (λz=>r (by let:=V.int.inj z;rw[lw]at this;lia)) (Fc [Ck (by show 1<=1000;decide),q.at W.aj])
def AT(C:Pm P w K mg base):Qr P w K mg base 3 "new_draft" #["drafts","words"] (λvs H Q E=>BI (A8.mk Ag An Ao Aq Bd Bj Bp Ba) Bl De Br Bx Ci vs H Q E\/P0 K Cp (A8.mk Ag An Ao Aq Bd Bj Bp Ba) Bl De Br Bx Ci vs H Q E):=(W2 C.z C.ie bd).calX λf L F=>Ar.or (Tc C F).toX (Vq C F)
end
def RM(l:List (J×Int)):Prop:=l.length<=3/\∀x∈l,x.1.length<=100/\0<=x.2/\x.2<1000
def KR(ws:List J):Prop:=∃h w,ws=#[h,w]/\w.length<=100/\¬Io 3 w.cps.toList
inductive NK(K:zAa)(CV CR:T)(vs:List V)(H:Hp)(Q:VK):Prop
 |mk (p:_) (wl:_) (dx:_) (nm:_) (cv:_) (c:_) (wt:_) (l:_) (z0:vs=#[.ref p,.ref wl]) (z1:H p=g (.ins CR dx (Mv nm cv c .non wt))) (z2:H wl=g (.lst ((Bn.shr l).ws.map V.str))) (z3:RM l) (z4:∀a xs H',Kb p H H'->H' p=g (.ins CR dx (Mv nm cv c (.ref a) wt))->Nw H H' a=g (.lst xs)->jT (Nw H H') xs (Wv l)->Q .non H')
inductive IX(K:zAa)(CV CR:T)(vs:List V)(H:Hp)(E:XK):Prop
 |mk (p:_) (wl:_) (dx:_) (nm:_) (cv:_) (c:_) (sv:_) (wt:_) (k:_) (ws:List J) (z0:vs=#[.ref p,.ref wl]) (z1:H p=g (.ins CR dx (Mv nm cv c sv wt))) (z2:H wl=g (.lst ((k::ws).map V.str))) (z3:(sv≠.non\/(k::ws).length%2=0\/(sv=.non/\KR ws))) (z4:Rf K CV H E)
def JX(K:zAa)(L CR:T):Sp:=λC H Q E=>NK K L CR C H Q\/IX K L CR C H E
def cO:Bn->Prop
 |.shr l=>RM l
 |r=>Mi r
def fL(ws:List J):Prop:=ws.length<=100/\(∀x∈ws,okW x)/\∃C f,mE (O " ") ws=mE (O " ") C/\C≠[]/\(∀x∈C,okW x)/\C.length<=100/\lJ Bb Ej Xl C f
def YN(d:Dr)(k:J)(r:List J):Prop:=(k=O "when"/\(d.cd≠M\/(d.cd=M/\fL r)))\/(k=O "share"/\(d.sh≠M\/(k::r).length%2=0\/(d.sh=M/\KR r))) \/
 (k=O "waits"/\(d.wt=B\/r≠[]))\/((k≠O "when"/\k≠O "share"/\k≠O "waits")/\SF (k::r))
inductive W6(K:zAa)(CV:T)(κ:A8)(CC CO CL CM CR:T)(vs:List V)(H:Hp)(Q:VK):Prop
 |mk (p:_) (c:_) (wl:_) (M:_) (d:_) (r:_) (z0:vs=#[.ref p,.ref wl]) (z1:(p∈M/\c∈M)) (z2:(∀e∈M,∃o,H e=g o)) (z3:jW κ CC CO CL CM CR (Ap M H) H p c d) (z4:H wl=g (.lst (r.ws.map V.str))) (z5:wl≠c) (z6:cO r) (z7:kM d r) (z8:∀H',(∀b o,H b=g o->b≠p->b≠c->H' b=g o)->jW κ CC CO CL CM CR (Ap M H') H' p c (d.put r)->Q .non H')
inductive W5(K:zAa)(CV:T)(κ:A8)(CC CO CL CM CR:T)(vs:List V)(H:Hp)(E:XK):Prop
 |mk (p:_) (c:_) (wl:_) (m:_) (d:_) (k:_) (r:List J) (z0:vs=#[.ref p,.ref wl]) (z1:jW κ CC CO CL CM CR m H p c d) (z2:H wl=g (.lst ((k::r).map V.str))) (z3:(∀x∈k::r,x.length<=100)) (z4:YN d k r) (z5:Rf K CV H E)
def Ya(K:zAa)(C:T)(κ:A8)(L N P U CR:T):Sp:=λR H Q E=>W6 K C κ L N P U CR R H Q\/W5 K C κ L N P U CR R H E
section
seal L2.PS L2.PSs L2.PE L2.PA
variable {P:mF} {w:mR} {K:zAa} {mg:J->Option lV} {base:mX}
def Uo:Cb #["draft","words"] #["draft","words"] (Av Kv):=by injections
def Nc(j:Pm P w K mg base){f:T}(F:Fw K "take_of_cover" "take_of_cover" Kv f fd)(Ctake_share:Qr P w K mg base 4 "take_share" #["draft","words"] (JX K Cp Ci)) :
  Ar P w K mg base (Nt P w) 42 f fd #["draft","words"] (Ya K Cp (A8.mk Ag An Ao Aq Bd Bj Bp Ba) Bl De Br Bx Ci):=by
 let sc:=Uo;refine F.okX sc (λvs H Q E h=>?_) (λa3 A a2 s H vs Q E hr h=>?_)
 .rcases h with ⟨_,_,_,_,_,_,rfl,_⟩|⟨_,_,_,_,_,_,_,rfl,_⟩<;>rfl
 refine[_,(Ac (Ce (Ax Dv (Cr By (pv 1) Ah (λ_ _=>I)) Aj (Bf _))
    (Ac (Ct (Eu (Y7 j) (hr.mono Y) Bt I (Dy (pv 0) (pv 1)))))
    (Ac (Ce (Ax Dv (Cr By (pv 1) Ah (λ_ _=>I)) Aj (Bf _))
    (Ac (Ct (Eu Ctake_share (hr.mono Y) Bt I (Dy (pv 0) (pv 1)))))
    (Ac (Ce (Ax Dv (Cr By (pv 1) Ah (λ_ _=>I)) Aj (Bf _))
    (Ac (Ct (Eu (U9 j) (hr.mono Y) Bt I (Dy (pv 0) (pv 1)))))
    (Ac (Ct (Fg mJ mM mL Dx (Cj (pv 0) I) (Cf (Eu (AN j) (hr.mono Y) Bt I (Cf (pv 1))))))))))))),?_]
 let S:∀{y z:J},y≠z->¬V.str y=V.str z:=λh e=>h (V.str.inj e);rcases h with ⟨p,c,N,E1,d,r,rfl,⟨pE,cE⟩,a1,⟨v,cv,sv,cs,m,hc,X,h4,i⟩,U,ag,ok,od,q⟩|⟨p,c,N,R,d,k,r,rfl,⟨v,cv,sv,cs,m,hc,X,h4,i⟩,U,hx,no,q⟩
 .have aa:p≠c:=Jy m hc (by intro z;cases z)
  let a0:∀{H':Hp},(∀b o,H b=g o->b≠p->b≠c->H' b=g o)->Ae (Ap E1 H) (Ap E1 H'):=λk=>Ap.mono (λb o e n=>k b o e (λz=>n (z▸pE)) (λz=>n (z▸cE))) λx hx=>.inl hx;cases r with
  |cov n=>exact od.elim
  |when t=>
   let od:d.cd=M:=od;rw[od]at X;let X:cv=.non:=X;subst X;let L:H N=g (.lst (V.str (O "when")::(Bz Bb t).map V.str)):=U;refine[_,I,N,_,_,_,I,I,Al.of L,at0 _ _,I,_,I,dT I ?_];refine[_,I,_,I,.inl [p,N,v,d.nm,c,sv,d.wt,t,I,m,U,ok,λu H' kb ab cd=>?_]];let k':∀b o,H b=g o->b≠p->b≠c->H' b=g o:=λb o e n _=>kb b o e n;let C:=a0 k';exact q H' k' [v,u,sv,cs,ab,kb _ _ hc aa.symm,Bv.same (Ap.new a1) _ cd,h4.same C,i.same C]
  |shr l=>
   let od:d.sh=M:=od;rw[od]at i;let i:sv=.non:=i;subst i;let L:H N=g (.lst (V.str (O "share")::(E9 l).map V.str)):=U;refine[_,I,N,_,_,_,I,I,Al.of L,at0 _ _,I,_,I,dF (S G) ?_];refine[_,I,N,_,_,_,I,I,Al.of L,at0 _ _,I,_,I,dT I ?_];refine[_,I,_,I,.inl [p,N,v,d.nm,cv,c,d.wt,l,I,m,U,ok,λa xs H' kb ab ha px=>?_]];let k':∀b o,H b=g o->b≠p->b≠c->H' b=g o:=λb o e n _=>kb b o e n;let C:=a0 k';let sn:Ae (Nw H H') (Ap E1 H'):=Ap.new a1;exact q H' k' [v,cv,.ref a,cs,ab,kb _ _ hc aa.symm,X.same C,h4.same C,[a,xs,I,sn _ _ ha,px.mono (Jb sn)]]
  |wts=>
   let od:d.wt=lX:=od;rw[od]at m;refine[_,I,N,_,_,_,I,I,Al.of U,I,I,_,I,dF (S G) ?_];refine[_,I,N,_,_,_,I,I,Al.of U,I,I,_,I,dF (S G) ?_];refine[_,I,N,_,_,_,I,I,Al.of U,I,I,_,I,dT I ?_];refine[_,I,_,I,.inl [p,N,v,d.nm,cv,c,sv,I,m,U,?_]];let k':∀b o,H b=g o->b≠p->b≠c->upd H p (.ins Ci v (Mv d.nm cv c sv B)) b=g o:=λb o e n _=>by rw[Ak n];exact e
   let C:=a0 k';exact q _ k' [v,cv,sv,cs,Aa,by rw[Ak aa.symm];exact hc,X.same C,h4.same C,i.same C]
  |cls z=>
   let[k,r,ek,hk]:=O5 ok;let L:H N=g (.lst (V.str k::r.map V.str)):=by rw[U];show g (HO.lst ((BR z).map V.str))=_;rw[ek];rfl
   let n1:k≠O "when":=by rcases hk with rfl|rfl|rfl<;>decide +kernel
   let n2:k≠O "share":=by rcases hk with rfl|rfl|rfl<;>decide +kernel
   let n3:k≠O "waits":=by rcases hk with rfl|rfl|rfl<;>decide +kernel
   refine[_,I,N,_,_,_,I,I,Al.of L,at0 _ _,I,_,I,dF (S n1) ?_];refine[_,I,N,_,_,_,I,I,Al.of L,at0 _ _,I,_,I,dF (S n2) ?_];refine[_,I,N,_,_,_,I,I,Al.of L,at0 _ _,I,_,I,dF (S n3) ?_];refine[_,I,p,_,v,_,_,I,m,j.ae.cl,j.ax,Nx _ _ _ _ _,.inl [I,_,Al.of hc],_,I,.inl [N,z,I,U,ok,λy H1 s1 cl=>?_]];let lc:cs.length<sizeLine:=by let:=h4.len;let:d.cl.length<=100:=od;rw[zCy];lia
   refine[c,_,_,I,I,s1 _ _ hc,lc,?_];let k':∀b o,H b=g o->b≠p->b≠c->upd H1 c (.lst (cs++#[.ref y])) b=g o:=λb o e _ n=>by rw[Ak n];exact s1 _ _ e
   let C:=a0 k';let sn:Ae (Nw H H1) (Ap E1 (upd H1 c (.lst (cs++#[.ref y])))):=λb o e=>by
    let[b1,b2]:=Ap.at (Ap.new a1 b o e);exact Ap.of b1 (by rw[Ak (λy=>b1 (by rw[y];exact cE))];exact b2)
   exact q _ k' [v,cv,sv,_,by rw[Ak aa];exact s1 _ _ m,Aa,X.same C,(h4.same C).app (.cons [y,I,cl.same sn] .nil),i.same C]
 .have L:H N=g (.lst (V.str k::r.map V.str)):=U
  rcases no with ⟨rfl,no⟩|⟨rfl,no⟩|⟨rfl,no⟩|⟨⟨n1,n2,n3⟩,no⟩
  .refine[_,I,N,_,_,_,I,I,Al.of L,at0 _ _,I,_,I,dT I ?_]
   refine[_,I,_,I,.inr [p,N,v,d.nm,cv,c,sv,d.wt,_,r,I,m,U,q,?_]];rcases no with ne|⟨e,l1,ae,us,W,ej,af,ad,ul,fl⟩
   .refine .inl λz=>?_
    cases e:d.cd with
    |none=>exact ne e
    |some t=>
     rw[e]at X;let[pu,_,_,e',_]:=Bv.obj X;rw[z]at e';cases e'
   .rw[e]at X
    exact .inr [X,l1,ae,us,W,ej,af,ad,ul,fl]
  .refine[_,I,N,_,_,_,I,I,Al.of L,at0 _ _,I,_,I,dF (S G) ?_]
   refine[_,I,N,_,_,_,I,I,Al.of L,at0 _ _,I,_,I,dT I ?_];refine[_,I,_,I,.inr [p,N,v,d.nm,cv,c,sv,d.wt,_,r,I,m,U,?_,q]];rcases no with ne|ev|⟨e,ac⟩
   .refine .inl λz=>?_
    cases e:d.sh with
    |none=>exact ne e
    |some l=>
     rw[e]at i;let[a,xs,e',_]:=i;rw[z]at e';cases e'
   .exact .inr (.inl ev)
   .rw[e]at i
    exact .inr (.inr [i,ac])
  .refine[_,I,N,_,_,_,I,I,Al.of L,at0 _ _,I,_,I,dF (S G) ?_]
   refine[_,I,N,_,_,_,I,I,Al.of L,at0 _ _,I,_,I,dF (S G) ?_];refine[_,I,N,_,_,_,I,I,Al.of L,at0 _ _,I,_,I,dT I ?_];refine[_,I,_,I,.inr [p,N,v,d.nm,cv,c,sv,d.wt,_,I,m,U,?_,q]];rcases no with e|ne
   .exact .inl e
   .refine .inr λz=>ne ?_
    rw[zAb,zAd]at z;exact zBY Z
  .refine[_,I,N,_,_,_,I,I,Al.of L,at0 _ _,I,_,I,dF (S n1) ?_]
   refine[_,I,N,_,_,_,I,I,Al.of L,at0 _ _,I,_,I,dF (S n2) ?_];refine[_,I,N,_,_,_,I,I,Al.of L,at0 _ _,I,_,I,dF (S n3) ?_];exact[_,I,p,_,v,_,_,I,m,j.ae.cl,j.ax,Nx _ _ _ _ _,.inl [I,_,Al.of hc],_,I,.inr [N,k::r,I,U,zZ,hx,no,q]]
def Ctake_share(X:Pm P w K mg base):Qr P w K mg base 4 "take_share" #["draft","words"] (JX K Cp Ci):=TX X.z X.p6 #["draft","words"] (dg λvs H Q E h=>by
  rcases h with ⟨_,_,_,_,_,_,_,_,rfl,_⟩ | ⟨_,_,_,_,_,_,_,_,_,_,rfl,_⟩<;>rfl) λsc H Q E hr h=>by
 refine[_,(Ab (Ce (PW.pt (Jg (Ax ER (Cj (pv 0) I) Kf (Bf _)) (Gv (Ax Dv (Au Dk (Ix Bg X.z X.ag (Cf (pv 1))) Ah) Ah (Bf _)))))
    (Ac (Eh Bt I (Zf X.z X.b8 X.bb) I (Cf Aj)))
    Be)
   (Ac (Dj (pv 0) (MD (NC:=#["house","weight"]) (own:=#["house","weight"]) (cs:=[]) (ix:=[]) LG I I I (Az.of I) I trivial (MJ I (X.z.nn X.qr) (Dy (O4 (pv 1) Ah Ah) (O4 (pv 1) Ah Ah))) (λ_ _ _=>(DT (K:=K) (n:=2) I I (Dw (Xa 0) (Dw (Xa 1) Km)))) (λ_ _ _=>Fh) (λ_ _ _ _ _ hW=>(Du (Dy (pv 0) (Eu (Y2 X) (hr.mono Y) hW I (Cf (pv 1))))))) I))),?_]
 refine Je λN eN=>?_;rcases h with ⟨p,W,dx,nm,cv,c,wt,l,rfl,hp,hw,ok,q⟩|⟨p,W,dx,nm,cv,c,sv,wt,k,ws,rfl,hp,hw,ag,q⟩
 .have L:H W=g (.lst ((O "share" :: E9 l).map V.str)):=hw
  let ae:2<=sizeLine:=by rw[zCy];decide
  let ll:((O "share" :: E9 l).map V.str).length=2*l.length+1:=by rw[zAb,zAd,Tu]
  refine[_,I,p,_,dx,_,_,I,hp,X.ae.cl,X.aq,Qa _ _ _ _ _,I,_,I,nF I ?_];refine[_,I,W,_,I,.inl (Al.of L),_,_,I,I,(by show(0:Int)<2;decide),I,_,I,dF (λz=>by let:=V.int.inj z;rw[ll]at this;lia) ?_];let[p1,p2]:=X5 l ok.1;let l3:=ok.1
  first|refine Fn eN λN eN=>?_|subst eN
  refine[_,I,W,_,_,_,I,I,I,Y,Al.of L,by rw[p1,zAb];lia,λR n1=>?_];rw[p1];let s1:=Ad n1 (.lst (l.map λx=>V.str x.1));refine[_,I,W,_,_,_,I,I,I,Y,Al.of (s1 _ _ L),by rw[p2,zAb];lia,λC n2=>?_];rw[p2];let s2:=Ad n2 (.lst (l.map λx=>V.str (tx (Di x.2.toNat))));let h1:=s2 _ _ (Aa (H:=H) (a:=R) (o:=.lst (l.map λx=>V.str x.1)));let s:=Aa (H:=upd H R (.lst (l.map λx=>V.str x.1))) (a:=C) (o:=.lst (l.map λx=>V.str (tx (Di x.2.toNat))));let F:=s1.trans s2;generalize upd (upd H R (.lst (l.map λx=>V.str x.1))) C (.lst (l.map λx=>V.str (tx (Di x.2.toNat))))=u at h1 s F;refine[R,C,I,[_,Al.of h1],[_,Al.of s],λa na=>?_];refine T5 (K:=K) (a:=R) (b:=C) (xs:=l.map λx=>V.str x.1) (zs:=l.map λx=>V.str (tx (Di x.2.toNat))) (λi f A=>A a=g (.lst f)/\Ae u A/\f.length=i/\jT (Nw u A) f (Wv (l.take i))) [Aa,Ad na _,I,trivial]
   (λi f A _ ⟨U,S,j,_⟩=>[U,Z,Al.of (S _ _ h1),Al.of (S _ _ s)]) (by rw[zAb,zCy];lia) (λi x z f A t hx hz ⟨U,S,j,g4⟩ nt=>?_) (λf A ⟨U,S,j,g4⟩=>?_)
  .rw[zAt]at hx hz
   let[y,ey,rfl]:=zAI.mp hx;rw[ey]at hz;let ez:=mI hz;subst ez;let[y1,y2,y3]:=ok.2 y (zAz ey);let r:=Ad nt (.tup #[.str y.1,.str (tx (Di y.2.toNat))]);refine[_,I,_,I,.inl [y.2.toNat,I,Z,ae,λt2 aa=>?_]];let s4:=Ad aa (.tup #[.str y.1,.int (y.2.toNat:Nat)]);let ac:=r.trans s4;let ea:upd (upd A t (.tup #[.str y.1,.str (tx (Di y.2.toNat))])) t2 (.tup #[.str y.1,.int (y.2.toNat:Nat)]) a=g (.lst f):=ac _ _ U;let ad:t2≠a:=λz=>by rw[z,r _ _ U]at aa;cases aa
   refine[ea,I,Aa,λb o e=>?_,by rw[zAc,j];rfl,?_]
   .rw[Ak (Ai e na)]
    exact ac _ _ (S _ _ e)
   .rw[Df ey]
    unfold Wv;rw[zAf];let sN:Ae (Nw u A) (Nw u (upd (upd (upd A t (.tup #[.str y.1,.str (tx (Di y.2.toNat))])) t2 (.tup #[.str y.1,.int (y.2.toNat:Nat)])) a (.lst (f++#[.ref t2]))))->True:=λ_=>trivial;refine jT.app (g4.mono λb zs e=>?_) (jT.one (t:=t2) (Nw.of (S.free (r.free aa)) ?_))
    .let[e0,e]:=Nw.at e
     refine Nw.of e0 ?_;rw[Ak (Jy e U (by intro z;cases z))];exact ac _ _ e
    .rw[Ak ad,Aa]
     let:((y.2.toNat:Nat):Int)=y.2:=by lia
     rw[this]
  .rw[zAb,zAb,Nat.min_self,zAB]at g4
   let r:=F.trans S;let ah:p≠a:=Ai (F _ _ hp) na;refine[_,I,p,_,dx,_,I,r _ _ hp,X.ae.cl,X.aq,(by show 5<1000;decide),?_];let sN:Ae (Nw u A) (Nw H (upd A p (.ins Ci dx (Cw (O "shares") (.ref a) (Mv nm cv c .non wt))))):=λb o e=>by
    let[e0,e]:=Nw.at e;let ab:H b=M:=F.free e0;exact Nw.of ab (by rw[Ak (λz=>by rw[z,hp]at ab;cases ab)];exact e)
   refine q a f _ ((Kb.of r).trans Kb.upd) Aa ?_ (g4.mono (Jb sN));exact sN _ _ (Nw.of na U)
 .have ae:2<=sizeLine:=by rw[zCy];decide
  let m:1<=sizeLine:=Ck (by show 1<=1000;decide);let lw:((k::ws).map V.str).length=(k::ws).length:=zAb _;let af:=q.at X.aj (d:=M);refine[_,I,p,_,dx,_,_,I,hp,X.ae.cl,X.aq,Qa _ _ _ _ _,I,_,I,?_];by_cases sn:sv=.non
  .subst sn
   refine nF I [_,I,W,_,I,.inl (Al.of hw),_,_,I,I,(by show(0:Int)<2;decide),I,_,I,?_];by_cases ev:(k::ws).length%2=0
   .exact dT (by rw[lw];exact nI V.int (show((k::ws).length:Int)%2=0 by lia)) [m,af]
   refine dF (λz=>ev (by let:=V.int.inj z;rw[lw]at this;lia)) ?_;let[_,h,v,rfl,v1,nw]:=(ag.resolve_left (λz=>z I)).resolve_left ev;let L:H W=g (.lst #[.str k,.str h,.str v]):=hw;let i1:uO (nL (g 1) M (g 2) 3).1 (nL (g 1) M (g 2) 3).2.1 (nL (g 1) M (g 2) 3).2.2=#[1]:=by ac_nf
   let i2:uO (nL (g 2) M (g 2) 3).1 (nL (g 2) M (g 2) 3).2.1 (nL (g 2) M (g 2) 3).2.2=#[2]:=by ac_nf
   let e1:Mz #[V.str k,V.str h,V.str v] (g 1) 2=#[V.str h]:=by
    unfold Mz;rw[show #[V.str k,V.str h,V.str v].length=3 from rfl,i1];rfl
   let e2:Mz #[V.str k,V.str h,V.str v] (g 2) 2=#[V.str v]:=by
    unfold Mz;rw[show #[V.str k,V.str h,V.str v].length=3 from rfl,i2];rfl
   first|refine Fn eN λN eN=>?_|subst eN
   refine[_,I,W,_,_,_,I,I,I,Y,Al.of L,by rw[e1];show 1<=1000;decide,λR n1=>?_];rw[e1];let s1:=Ad n1 (.lst #[V.str h]);refine[_,I,W,_,_,_,I,I,I,Y,Al.of (s1 _ _ L),by rw[e2];show 1<=1000;decide,λC n2=>?_];rw[e2];let s2:=Ad n2 (.lst #[V.str v]);let h1:=s2 _ _ (Aa (H:=H) (a:=R) (o:=.lst #[V.str h]));let s:=Aa (H:=upd H R (.lst #[V.str h])) (a:=C) (o:=.lst #[V.str v]);let F:=s1.trans s2;generalize upd (upd H R (.lst #[V.str h])) C (.lst #[V.str v])=u at h1 s F;refine[R,C,I,[_,Al.of h1],[_,Al.of s],λa na=>?_];refine T5 (K:=K) (a:=R) (b:=C) (xs:=#[V.str h]) (zs:=#[V.str v]) (λi f A=>i=0/\f=[]/\A a=g (.lst f)/\Ae u A) [I,I,Aa,Ad na _]
    (λi f A _ ⟨g0,U,S,j⟩=>[S,by rw[U];exact zAy _,Al.of (j _ _ h1),Al.of (j _ _ s)]) m (λi x z f A t hx hz ⟨g0,U,S,j⟩ nt=>?_) (λf A ⟨g0,_⟩=>?_)
   .subst g0
    obtain rfl:V.str h=x:=mI hx;obtain rfl:V.str v=z:=mI hz;let r:=Ad nt (.tup #[.str h,.str v]);exact[_,I,_,I,.inr [v,I,v1,nw,q.later (F.trans (j.trans r))]]
   .cases g0
  .exact nT sn (Fc [m,af])
def Yb(C:Pm P w K mg base):Qr P w K mg base 42 "take_of_cover" #["draft","words"] (Ya K Cp (A8.mk Ag An Ao Aq Bd Bj Bp Ba) Bl De Br Bx Ci):=(W2 C.z C.e9 bd).calX λf H F=>Nc C F (Ctake_share C)
end
def lQ(K:zAa)(N:T)(M:List T)(H:Hp)(E:XK):Prop:=∀C e L,zAY K (.ref C) (.ref N)=g B->(∀b o,H b=g o->b∉M->L b=g o)->E (.ref C) e L
def lQ.rf{K:zAa}{M:List T}{H L:Hp}{E:XK}(q:lQ K CV M H E)(k:∀b o,H b=g o->b∉M->L b=g o):Rf K CV L E:=λC e N h s=>q C e N h λb o e n=>s b o (k b o e n)
def eF(ds:List Dr)(k:J)(r:List J):Prop:=(k=O "cover"/\(r.length≠1\/∃n,r=#[n]/\(ds.length=8\/n∈ds.map (·.nm)\/(ds.length<8/\n∉ds.map (·.nm)/\¬Fx (Ld n))))) \/
 (k≠O "cover"/\(ds=[]\/∃C d,ds=C++#[d]/\(YN d k r\/∃b:Bn,k::r=b.ws/\cO b/\kM d b/\¬Fx (d.put b)/\d.nm.length<=100/\(d.put b).lc.hs.length<=900/\∀x∈(d.put b).lc.hs,x.1.length<=100)))
inductive Z0(K:zAa)(CV:lU)(κ:A8)(CC CO CL CM CR:lU)(vs:List V)(H:Hp)(E:XK):Prop
 |mk (l:_) (M:_) (ds:_) (x:_) (z0:vs=#[.ref l,x]) (z1:jO κ CC CO CL CM CR M H l ds) (z2:ds.length<=8) (z3:lQ K CV M H E) (z4:((∃T,Cy K H x (.type T)/\C9 x=lX)\/∃k r,x=.str (mE (O " ") (k::r))/\(∀y∈k::r,okW y)/\(k::r).length<=100/\eF ds k r))
def Zr(K:zAa)(C:T)(κ:A8)(L N P U CR:T):Sp:=λR H Q E=>Z0 K C κ L N P U CR R H E
section
seal L2.PS L2.PSs L2.PE L2.PA
variable {P:mF} {w:mR} {K:zAa} {mg:J->Option lV} {base:mX}
def Vj:Cb #["drafts","row","words"] #["drafts","row"] (Av Nn):=by injections
def Xf(t:Pm P w K mg base){f:T}(F:Fw K "take_row" "take_row" Nn f fd) :
  Ar P w K mg base (Nt P w) 43 f fd #["drafts","row"] (Zr K Cp (A8.mk Ag An Ao Aq Bd Bj Bp Ba) Bl De Br Bx Ci):=by
 let sc:=Vj;refine F.okX sc (λvs H Q E h=>?_) (λb3 A b2 s H vs Q E hr h=>?_)
 .let[_,_,_,_,rfl,_]:=h
  rfl
 let[l,i,ds,x,rfl,D,l8,q,au]:=h;let D':=D;let[[L,hl,al,be,a6,nl],lE,b1]:=D;refine[_,(Ab (Ce (Et (Eb (Ix Ec t.z t.ad (Dy (pv 1) (La "str" rfl (t.z.nn t.ar) I)))))
    (Ac (Eh Bt I (Zf t.z t.b8 t.bb) I (Cf Aj)))
    Be)
   (Ab (Fk sc 2 (Fg mY pZ pY Tn (pv 1) (Cf Aj)))
   (Ab (Ce (Ax Dv (Cr By (pv 2) Ah (λ_ _=>I)) Aj (Bf _))
    (Ac (Ct (Fg mJ mM mL Dx (pv 0) (Cf (Eu (AT t) (hr.mono Y) Bt I (Dy (pv 0) (pv 2)))))))
    (Ac (Ce (LW (pv 0))
    (Ac (Ct (Eu (Yb t) (hr.mono Y) Bt I (Dy (Cr By (pv 0) (N9 Wl Ah) (λ_ _=>I)) (pv 2)))))
    (Ac (Eh Bt I (Zf t.z t.b8 t.bb) I (Cf Aj))))))
   (Ac (Ct (Fb (AK t) (hr.mono Y) Bt (Cr By (pv 0) (N9 Wl Ah) (λ_ _=>I)))))))),?_]
 refine Je λN U=>?_;let R:=al.len;let b0:1<=sizeLine:=Ck (by show 1<=1000;decide);rcases au with ⟨X,ty,ns⟩|⟨k,r,rfl,ag,ah,u⟩
 .refine[_,I,_,_,_,_,_,I,Ie,ty,DA ty,_,I,?_]
  rw[ns];exact Fc [b0,q _ _ H t.aj λb o e _=>e]
 refine[_,I,_,_,_,_,_,I,Ie,.str _,Xb,_,I,Gr ?_];let jl:=Ik (z:=O " ") (B:=100) (ps:=k::r) λy hy=>(ag y hy).2;let e1:(O " ").length=1:=by ac_nf
 rw[e1]at jl;let ba:(k::r).length*(100+1)<=100*(100+1):=zBq _ ah
 first|refine Fn U λN U=>?_|subst U
 refine[_,I,I,_,_,I,I,G,by rw[zCy];lia,λW an=>?_];rw[Ls zZ ag];let s1:=Ad an (.lst ((k::r).map V.str));let v:upd H W (.lst ((k::r).map V.str)) W=g (.lst ((k::r).map V.str)):=Aa;let a:=D'.same s1;let aq:W∉i:=λz=>by let[o,z]:=b1 _ z;rw[an]at z;cases z
 generalize upd H W (.lst ((k::r).map V.str))=H1 at s1 v a;refine Ic #[g (.ref l),g (.str (mE (O " ") (k::r))),g (.ref W)] rfl ?_
 first|refine Fn U λN U=>?_|subst U
 let ak:H1 W=g (.lst (V.str k::r.map V.str)):=v;let S:=s1 _ _ hl;let q1:Rf K Cp H1 E:=q.rf λb o e _=>s1 b o e;let hx:∀y∈k::r,y.length<=100:=λy hy=>(ag y hy).2;let ay:(L.map λx=>V.ref x.1).length<sizeLine:=by rw[zAb,R,zCy];lia
 rcases u with ⟨rfl,u⟩|⟨nk,u⟩
 .refine[_,I,W,_,_,_,I,I,Al.of ak,at0 _ _,I,_,I,dT I ?_]
  refine[_,I,.inl [I,_,Al.of S],_,I,_,I,?_];rcases u with n1|⟨n,rfl,u⟩
  .exact .inr [l,W,i,ds,_,I,a,v,l8,.inl (by rw[zAd];lia),q1]
  rcases u with e8|⟨hn⟩|⟨l7,nn,af⟩
  .exact .inr [l,W,i,ds,_,I,a,v,l8,.inr [_,n,I,.inl e8],q1]
  .exact .inr [l,W,i,ds,_,I,a,v,l8,.inr [_,n,I,.inr hn],q1]
  refine .inl [l,W,n,i,ds,I,a,v,l7,nn,l8,λp c dx m s2 np nc bf av a3=>?_];refine[l,_,_,I,I,s2 _ _ S,ay,?_];let ab:l≠p:=Ai S np;let aa:l≠c:=Ai S nc;let ae:upd m l (.lst (L.map (λx=>V.ref x.1)++#[.ref p])) p=g (.ins Ci dx (Mv n .non c .non lX)):=by rw[Ak ab.symm];exact av
  let ap:upd m l (.lst (L.map (λx=>V.ref x.1)++#[.ref p])) c=g (.lst []):=by rw[Ak aa.symm];exact a3
  let ao:upd m l (.lst (L.map (λx=>V.ref x.1)++#[.ref p])) l=g (.lst (L.map (λx=>V.ref x.1)++#[.ref p])):=Aa;let k3:∀b o,H b=g o->b∉i->upd m l (.lst (L.map (λx=>V.ref x.1)++#[.ref p])) b=g o:=λb o e n=>by rw[Ak (λy=>n (by rw[y];exact lE))];exact s2 _ _ (s1 _ _ e)
  generalize upd m l (.lst (L.map (λx=>V.ref x.1)++#[.ref p]))=H3 at ae ap ao k3
  first|refine Fn U λN U=>?_|subst U
  refine[_,I,_,I,l,_,_,_,I,I,Al.of ao,Pu _ _,p,dx,_,I,ae,I,.inr [p,c,H3,Ld n,I,Ae.refl _,[dx,.non,.non,[],ae,ap,I,.nil,I],af,hx n zZ,(by show 1<=900;decide),λx a1=>?_,λC e H' h s=>q C e H' h λb o e n=>s b o (k3 b o e n)]];let:x=(n,1):=by simpa[Ld,Dr.lc]using a1
  rw[this];exact hx n zZ
 .refine[_,I,W,_,_,_,I,I,Al.of ak,at0 _ _,I,_,I,dF (λz=>nk (V.str.inj z)) ?_]
  rcases u with rfl|⟨a8,d,rfl,u⟩
  .obtain rfl:L=[]:=zBY R
   exact[_,I,lX,.inl [_,Al.of S,zZ],Gr [b0,q1.at t.aj]]
  let[[a5,ai,a4,_,_,ar],_,am]:=a;let[j,[p,c],rfl,bc,[pE,cE],da]:=a4.snoc_inv;let ac:H1 l=g (.lst (j.map (λx=>V.ref x.1)++#[.ref p])):=by rw[ai,zAf];rfl
  refine[_,I,lY,.inl [_,Al.of ac,zZ],Fc ?_];refine[_,I,_,I,l,_,_,_,I,I,Al.of ac,Pu _ _,_,I,?_];rcases u with u|⟨b,eb,a2,od,af,ad,ax,az⟩
  .exact .inr [p,c,W,_,d,k,r,I,da,v,hx,u,q1]
  let aw:W≠c:=λz=>aq (by rw[z];exact cE);refine .inl [p,c,W,i,d,b,I,[pE,cE],am,da,by rw[v,eb],aw,a2,od,λm k2 aj=>?_];let ab:l≠p:=by let[_,_,_,_,g1,_]:=da;exact Jy S g1 (by intro z;cases z)
  let aa:l≠c:=λz=>ar (zAv.mpr [(p,c),zZ,z.symm]);let a0:m l=g (.lst (j.map (λx=>V.ref x.1)++#[.ref p])):=k2 _ _ ac ab aa;let[as,bb,a7,a9,g1,g2,g3]:=id aj;let en:(d.put b).nm=d.nm:=by cases b<;>rfl
  first|refine Fn U λN U=>?_|subst U
  exact[_,I,_,I,l,_,_,_,I,I,Al.of a0,Pu _ _,p,as,_,I,g1,I,.inr [p,c,_,d.put b,I,Ap.sub _ _,aj,af,by rw[en];exact ad,ax,az,λC e H' h s=>q C e H' h λb o e n=>s b o (k2 b o (s1 _ _ e) (λy=>n (by rw[y];exact pE)) (λy=>n (by rw[y];exact cE)))]]
def VM{r:Bn}(h:Mi r):cO r:=by
 cases r with
 |shr l=>exact[h.2.1,λx z=>by let:=h.2.2 x z;let:=Ga this.1;exact[Z,Z,Z]]
 |cov n=>exact h
 |when t=>exact h
 |cls c=>exact h
 |wts=>exact h
def Y8{K}{j}{κ}{L R z F CR}{vs}{H}{Q}{E}(h:BS κ L R z F CR vs H Q E):Ya K j κ L R z F CR vs H Q E0:=by
 let[p,c,S,W,d,r,e,X,b,C,A,N,f,k,U]:=h;exact .inl [p,c,S,W,d,r,e,X,b,C,A,N,VM f,k,U]
def W8(C:Pm P w K mg base):Jc C 42 "take_of_cover" #["draft","words"] (BS (A8.mk Ag An Ao Aq Bd Bj Bp Ba) Bl De Br Bx Ci):=(W2 C.z C.e9 bd).cal λf H F=>(Nc C F (Ctake_share C)).ofX.imp λx x x x h=>Y8 h
def Q3(L:Pm P w K mg base){f:T}{fd:zCA}(F:Fw K "take_row" "take_row" Nn f fd) :
  Ar P w K mg base Jv 43 f fd #["drafts","row"] (DR (A8.mk Ag An Ao Aq Bd Bj Bp Ba) Bl De Br Bx Ci):=by
 let sc:=Vj;bv_omega
 .let[_,_,_,_,_,_,rfl,_]:=h
  rfl
 let[l,U,ds,r,rs,e6,rfl,[[R,hl,al,a5,a4,nl],lE,c0],rd,l8,q]:=h;refine[_,(Ab (Ce (Et (Eb (Ix Ec L.z L.ad (Dy (pv 1) (La "str" rfl (L.z.nn L.ar) I)))))
    (Ac Ju)
    Be)
   (Ab (Fk sc 2 (Fg mY pZ pY Tn (pv 1) (Cf Aj)))
   (Ab (Ce (Ax Dv (Cr By (pv 2) Ah (λ_ _=>I)) Aj (Bf _))
    (Ac (Ct (Fg mJ mM mL Dx (pv 0) (Cf (Gg (Y5 L) hr (Dy (pv 0) (pv 2)))))))
    (Ac (Ce (LW (pv 0))
    (Ac (Ct (Gg (W8 L) hr (Dy (Cr By (pv 0) (N9 Wl Ah) (λ_ _=>I)) (pv 2)))))
    (Ac Ju))))
   (Ac (Ct (Ed (Us L) (hr.mono Y) (Cr By (pv 0) (N9 Wl Ah) (λ_ _=>I)))))))),?_]
 refine Je λN eN=>?_;let c5:=al.len;let b9:Mi r:=by cases rd<;>assumption
 refine[_,I,_,_,_,_,_,I,Ie,.str _,Xb,_,I,Gr ?_]
 first|refine Fn eN λN eN=>?_|subst eN
 refine[_,I,I,_,_,I,I,G,RI b9,λv d1=>?_];rw[GA b9];let s1:=Ad d1 (.lst (r.ws.map V.str));let hw:upd H v (.lst (r.ws.map V.str)) v=g (.lst (r.ws.map V.str)):=Aa;let k1:∀b o,H b=g o->b∉U->upd H v (.lst (r.ws.map V.str)) b=g o:=λb o e _=>s1 _ _ e;let c7:Ae (Ap U H) (Ap U (upd H v (.lst (r.ws.map V.str)))):=Ap.mono k1 λx m=>.inl m;let a7:=al.imp λW d ⟨C,h⟩=>([C,h.same c7 (s1 _) (s1 _)]:(W.1∈U/\W.2∈U)/\jW (A8.mk Ag An Ao Aq Bd Bj Bp Ba) Bl De Br Bx Ci (Ap U (upd H v (.lst (r.ws.map V.str)))) (upd H v (.lst (r.ws.map V.str))) W.1 W.2 d);let X:=s1 _ _ hl;let S:∀e∈U,∃o,upd H v (.lst (r.ws.map V.str)) e=g o:=λe j=>by let[o,z]:=c0 e j;exact[o,s1 _ _ z]
 let d8:v∉U:=λz=>by let[o,z]:=c0 _ z;rw[d1]at z;cases z
 generalize upd H v (.lst (r.ws.map V.str))=H1 at s1 hw k1 c7 a7 X S;refine Ic #[g (.ref l),g (.str r.row),g (.ref v)] rfl ?_
 first|refine Fn eN λN eN=>?_|subst eN
 let d5:(R.map λx=>V.ref x.1).length<sizeLine:=by rw[zAb,c5,zCy];lia
 cases rd with
 |@cov _ n _ _ ok l7 nn rd=>
  refine[_,I,v,_,_,_,I,I,Al.of hw,I,I,_,I,dT I ?_];refine[_,I,.inl [I,_,Al.of X],_,I,_,I,l,v,n,U,ds,I,[[R,X,a7,a5,a4,nl],lE,S],hw,l7,nn,l8,λp c dx i s2 np nc e5 e0 e4=>?_];refine[l,_,_,I,I,s2 _ _ X,d5,?_];let b5:l≠p:=Ai X np;let a8:l≠c:=Ai X nc;let b3:upd i l (.lst (R.map (λx=>V.ref x.1)++#[.ref p])) p=g (.ins Ci dx (Mv n .non c .non lX)):=by rw[Ak b5.symm];exact e0
  let b7:upd i l (.lst (R.map (λx=>V.ref x.1)++#[.ref p])) c=g (.lst []):=by rw[Ak a8.symm];exact e4
  let a9:upd i l (.lst (R.map (λx=>V.ref x.1)++#[.ref p])) l=g (.lst ((R++#[(p,c)]).map λx=>V.ref x.1)):=by rw[Aa,zAf];rfl
  let k3:∀b o,H1 b=g o->b∉U->upd i l (.lst (R.map (λx=>V.ref x.1)++#[.ref p])) b=g o:=λb o e n=>by rw[Ak (λy=>n (by rw[y];exact lE))];exact s2 _ _ e
  let a3:∀b o,H1 b=g o->b≠l->upd i l (.lst (R.map (λx=>V.ref x.1)++#[.ref p])) b=g o:=λb o e n=>by rw[Ak n];exact s2 _ _ e
  let b4:∀e∈p::c::U,∃o,upd i l (.lst (R.map (λx=>V.ref x.1)++#[.ref p])) e=g o:=λe j=>by
   rcases zAg.mp j with rfl|j
   .exact[_,b3]
   rcases zAg.mp j with rfl|j
   .exact[_,b7]
   let[o,z]:=S e j;by_cases c':e=l
   .subst c';exact[_,a9]
   .exact[o,a3 e o z c']
  let b8:Ae (Ap U H1) (Ap (p::c::U) (upd i l (.lst (R.map (λx=>V.ref x.1)++#[.ref p])))):=Ap.mono k3 λx m=>by
   rcases zAg.mp m with rfl|m
   .exact .inr np
   rcases zAg.mp m with rfl|m
   .exact .inr nc
   exact .inl m
  let d0:∀b o,H b=g o->b∉U->upd i l (.lst (R.map (λx=>V.ref x.1)++#[.ref p])) b=g o:=λb o e n=>k3 b o (s1 _ _ e) n;generalize upd i l (.lst (R.map (λx=>V.ref x.1)++#[.ref p]))=H3 at b3 b7 a9 k3 a3 b4 b8 d0;let a6:∀x∈R,x.1≠p/\x.2≠c/\x.1≠l/\x.2≠l:=λx m=>by
   let[d,_,_,[e8,_,_,_,g1,g2,_]]:=a7.mem m;exact[Ai g1 np,Ai g2 nc,Jy g1 X (by intro z;cases z),λz=>nl (zAv.mpr [x,m,z])]
  let c4:jW (A8.mk Ag An Ao Aq Bd Bj Bp Ba) Bl De Br Bx Ci (Ap (p::c::U) H3) H3 p c (Ld n):=[dx,.non,.non,[],b3,b7,I,.nil,I];let e3:jN (λW d=>(W.1∈p::c::U/\W.2∈p::c::U)/\jW (A8.mk Ag An Ao Aq Bd Bj Bp Ba) Bl De Br Bx Ci (Ap (p::c::U) H3) H3 W.1 W.2 d) (R++#[(p,c)]) (ds++#[Ld n]):=by
   refine(jN.app ?_ (.cons [[zZ,zZ],c4] .nil));let:jN (λW d=>W∈R/\((W.1∈U/\W.2∈U)/\jW (A8.mk Ag An Ao Aq Bd Bj Bp Ba) Bl De Br Bx Ci (Ap U H1) H1 W.1 W.2 d)) R ds:=a7.with
   exact this.imp λW d ⟨hm,⟨g1,g2⟩,g3⟩=>by
    let[_,_,n3,n4]:=a6 W hm;exact[[by simp[g1],by simp[g2]],g3.same b8 (λo e=>a3 _ o e n3) (λo e=>a3 _ o e n4)]
  let D3:jO (A8.mk Ag An Ao Aq Bd Bj Bp Ba) Bl De Br Bx Ci (p::c::U) H3 l (ds++#[Ld n]):=by
   refine[[R++#[(p,c)],a9,e3,?_,?_,?_],by simp[lE],b4]
   .rw[zAf,zBg]
    refine[a5,zZ,λa ha b hb e=>?_];let[x,m,rfl]:=zAv.mp ha;let:b=p:=by simpa using hb
    exact(a6 x m).1 (e.trans this)
   .rw[zAf,zBg]
    refine[a4,zZ,λa ha b hb e=>?_];let[x,m,rfl]:=zAv.mp ha;let:b=c:=by simpa using hb
    exact(a6 x m).2.1 (e.trans this)
   .rw[zAf]
    intro z;rcases zAE.mp z with z|z
    .exact nl z
    .exact a8 (by simpa using z)
  first|refine Fn eN λN eN=>?_|subst eN
  refine[_,I,_,I,l,_,_,_,I,I,Al.of a9,(by rw[zAf];exact Pu _ _),p,dx,_,I,b3,I,p,c,_,[],Ld n,I,BU _ _,(λ_ z=>nomatch z),c4,Wr ok,λu H4 s4 _ _=>?_];refine q (p::c::U) (ds++#[Ld n]) H4 (λb o e nE=>s4 _ _ (d0 b o e nE)) (λe j=>?_) (D3.same s4) (by rw[zAc];show _+1<=8;lia) rd;rcases zAg.mp j with rfl|j
  .exact .inr (s1.free np)
  rcases zAg.mp j with rfl|j
  .exact .inr (s1.free nc)
  exact .inl j
 |@put d2 d _ _ _ ok od gd rd=>
  let[a0,[p,c],rfl,e1,[pE,cE],da]:=a7.snoc_inv;let nk:∃k r',r.ws=k::r'/\k≠O "cover":=by
   cases r with
   |cov n=>exact od.elim
   |when t=>exact[_,_,I,G]
   |shr t=>exact[_,_,I,G]
   |wts=>exact[_,_,I,G]
   |cls z=>
    let[k,r',ek,hk]:=O5 ok;exact[k,r',ek,by rcases hk with rfl|rfl|rfl<;>decide +kernel]
  let[k,r',ek,nk]:=nk;let e2:H1 v=g (.lst (V.str k::r'.map V.str)):=by rw[hw,ek];rfl
  refine[_,I,v,_,_,_,I,I,Al.of e2,at0 _ _,I,_,I,dF (λz=>nk (V.str.inj z)) ?_];let c3:H1 l=g (.lst (a0.map (λx=>V.ref x.1)++#[.ref p])):=by rw[X,zAf];rfl
  refine[_,I,B,.inl [_,Al.of c3,zZ],Fc ?_];let d4:v≠c:=λz=>d8 (by rw[z];exact cE);refine[_,I,_,I,l,_,_,_,I,I,Al.of c3,Pu _ _,_,I,p,c,v,U,d,r,I,[pE,cE],S,da,hw,d4,ok,od,λi k2 b0=>?_];let e5:p≠c:=by let[_,_,_,_,g1,g2,_]:=da;exact Jy g1 g2 (by intro z;cases z)
  let b5:l≠p:=by let[_,_,_,_,g1,_]:=da;exact Jy X g1 (by intro z;cases z)
  let a8:l≠c:=λz=>nl (zAv.mpr [(p,c),zZ,z.symm]);let d9:Ae (Ap U H1) (Ap U i):=Ap.mono (λb o e n=>k2 b o e (λy=>n (by rw[y];exact pE)) (λy=>n (by rw[y];exact cE))) λx m=>.inl m;let c8:i l=g (.lst ((a0++#[(p,c)]).map λx=>V.ref x.1)):=k2 _ _ X b5 a8;let c6:∀e∈U,∃o,i e=g o:=λe j=>by
   let[o,z]:=S e j;let[_,_,_,_,g1,g2,_]:=b0;by_cases c1:e=p
   .subst c1;exact[_,g1]
   by_cases c2:e=c
   .subst c2;exact[_,g2]
   exact[o,k2 e o z c1 c2]
  rw[zAf]at a5 a4;let D2:jO (A8.mk Ag An Ao Aq Bd Bj Bp Ba) Bl De Br Bx Ci U i l (d2++#[d.put r]):=by
   refine[[a0++#[(p,c)],c8,jN.app ?_ (.cons [[pE,cE],b0] .nil),by rw[zAf];exact a5,by rw[zAf];exact a4,nl],lE,c6];refine e1.with.imp λW d' ⟨hm,C,g3⟩=>[C,?_]
   let n1:W.1≠p:=λz=>(zBg.mp a5).2.2 W.1 (zAv.mpr [W,hm,I]) p zZ z;let n2:W.2≠c:=λz=>(zBg.mp a4).2.2 W.2 (zAv.mpr [W,hm,I]) c zZ z;let[_,_,_,_,a1,a2,_]:=da;let d6:=g3;let[_,_,_,_,b1,b2,_]:=d6;exact g3.same d9 (λo e=>k2 _ o e n1 (Jy b1 a2 (by intro z;cases z))) (λo e=>k2 _ o e (Jy b2 a1 (by intro z;cases z)) n2)
  let c9:i l=g (.lst (a0.map (λx=>V.ref x.1)++#[.ref p])):=by rw[c8,zAf];rfl
  let[d7,e9,f2,e7,g1,g2,g3]:=id b0
  first|refine Fn eN λN eN=>?_|subst eN
  refine[_,I,_,I,l,_,_,_,I,I,Al.of c9,Pu _ _,p,d7,_,I,g1,I,p,c,_,[],d.put r,I,BU _ _,(λ_ z=>nomatch z),b0,gd,λu H4 s4 _ _=>?_];refine q U (d2++#[d.put r]) H4 (λb o e nE=>s4 _ _ (k2 b o (s1 _ _ e) (λy=>nE (by rw[y];exact pE)) (λy=>nE (by rw[y];exact cE)))) (λe j=>.inl j) (D2.same s4) ?_ rd;rw[zAc]at l8⊢;exact l8
def A5(C:Pm P w K mg base):Qr P w K mg base 43 "take_row" #["drafts","row"] (λvs H Q E=>DR (A8.mk Ag An Ao Aq Bd Bj Bp Ba) Bl De Br Bx Ci vs H Q E\/Zr K Cp (A8.mk Ag An Ao Aq Bd Bj Bp Ba) Bl De Br Bx Ci vs H Q E):=(W2 C.z C.qm bd).calX λf L F=>Ar.or (Q3 C F).toX (Xf C F)
end
def kX(L:T)(H:Hp)(E:XK)(n:Int):Prop:=∀d C,Ae H C->C d=g (.xd #[(O "at",.int n)])->E (.ref L) (g d) C
def kD(K:zAa)(H:Hp)(ds:List Dr)(x:V):Prop:=(∃C,Cy K H x (.type C)/\C9 x=lX)\/∃k r,x=.str (mE (O " ") (k::r))/\(∀y∈k::r,okW y)/\(k::r).length<=100/\eF ds k r
def kD.same{K:zAa}{H H':Hp}{ds:List Dr}{x:V}(h:kD K H ds x)(s:Ae H H'):kD K H' ds x:=by
 rcases h with ⟨C,t,n⟩|h
 .exact .inl [C,Cy.same t s,n]
 .exact .inr h
inductive LX(K:zAa)(CT:lU)(vs:List V)(H:Hp)(E:XK):Prop
 |mk (x:_) (T:_) (z0:vs=#[x]) (z1:Cy K H x (.type T)) (z2:T ≠ "list") (z3:kX CT H E 0)
inductive KZ(K:zAa)(CT:T)(vs:List V)(H:Hp)(E:XK):Prop
 |mk (a:_) (rs:_) (ds:_) (x:_) (post:_) (z0:vs=#[.ref a]) (z1:H a=g (.lst (rs.map (λr=>V.str (Bn.row r))++x::post))) (z2:Lo [] rs ds) (z3:kD K H ds x) (z4:kX CT H E (rs.length:Int))
def BE(K:zAa)(L:T):Sp:=λC H Q E=>LX K L C H E\/KZ K L C H E
def kX.out{H N:Hp}{E:XK}{n:Int}(q:kX CT H E n)(L:Ae H N){a d:T}{F o1:HO}(z:N a=M)(C:upd N a F d=M)(P:d≠a):E (.ref CT) (g d) (unt (upd (upd (upd N a F) a o1) d (.xd #[(O "at",.int n)])) a):=by
 refine q d _ (λb o e=>?_) (by rw[Iv P,Aa]);let S:=L b o e;exact Ig (r:=a) (Kb.of L) z C b o e (Ai S z)
section
seal L2.PS L2.PSs L2.PE L2.PA
variable {P:mF} {w:mR} {K:zAa} {mg:J->Option lV} {base:mX}
def Lu:Cb #["self","at"] #["self","at"] (Av Gy):=by injections
def Ru(C:Pm P w K mg base){f:T}(F:Fw K "__init__" "NoText.__init__" Gy f b):Ar P w K mg base Jv 1 f b #["self","at"] (Qb Db "at"):=by
 let sc:=Lu;bv_omega
 .let[_,_,rfl,_]:=h
  rfl
 let[e,n,rfl,L,q]:=h;refine[_,(Ac (F6 (pv 0) (pv 1) I)),?_];exact[_,I,_,I,e,Db,I,L,C.ck,λd z N=>q d z N]
def ES(C:Pm P w K mg base):PD P w K mg base 1 "NoText" Db #["self","at"] (Qb Db "at"):=hX C.z C.ib C.kn bd λf H F=>Ru C F
def N0(C:Pm P w K mg base){f:T}(F:Fw K "__init__" "NoText.__init__" Gy f b):S1 P w K mg base 1 f b #["self","at"] (Qb Db "at"):=by
 let U:=Lu;refine F.okH U (λX H Q E h=>?_) (λW A N s H X Q E S h=>?_)
 .let[_,_,rfl,_]:=h
  rfl
 let[e,n,rfl,L,q]:=h;refine[_,(Ac (F6 (pv 0) (pv 1) I)),?_];exact[_,I,_,I,e,Db,I,L,C.ck,λd z R=>q d z R]
def O8(C:Pm P w K mg base):IU P w K mg base 1 "NoText" Db #["self","at"] (Qb Db "at"):=jM C.z C.ib C.kn bd λf H F=>N0 C F
def Sk:Cb #["rows","drafts","at","row"] #["rows"] (Av Mf):=by injections
def Vx(k:Pm P w K mg base){f:T}(F:Fw K "read_book" "read_book" Mf f fd) :
  Ar P w K mg base (LU P w) 44 f fd #["rows"] (BE K Db):=by
 let sc:=Sk;refine F.okW sc (λvs H Q E h=>?_) (λa2 A a1 s H vs Q E m h=>?_)
 .rcases h with ⟨_,_,rfl,_⟩|⟨_,_,_,_,_,rfl,_⟩<;>rfl
 refine[_,(Ab (Ce (Et (Eb (Ix Ec k.z k.ad (Dy (pv 0) (La "list" rfl (k.z.nn k.az) I)))))
    (Ac (Gs (V1.n Tl) I (ES k) (m.mono Y) I (Cf Ah)))
    Be)
   (Ab (Fk sc 1 (Ca Iw))
   (Ab (Gc oZ I (Wa I (k.z.nn k.bt) (Cf (pv 0))) (Oc (n:=2) I (Dw (Ot sc 2) (Dw (Ot sc 3) Km)))
    (Ac (DM Tl (λ_=>vJ) I I I I (k.z.nv k.de) (λpn E W hW hp=>
    (Ac (Ct (Eu (A5 k) (m.mono Y) hW I (Dy (pv 1) (pv 3)))))) (λe oe ac af=>
    (Ac (Zd af ac (O8 k) ((m.mono Y).sup _) I (Cf (pv 2))))))))
   (Ac (Ay (Fp (UD k) (m.mono Y) I (Cf (Hv (NC:=#["draft"]) (own:=#["draft"]) (cs:=[]) (ix:=[]) I (Az.of I) I trivial (Em (pv 1)) (λ_ _ _=>(Xa 0)) (λ_ _ _=>Fh) (λ_ _ _=>(Ed (Us k) (m.mono Y) (pv 0))))))))))),?_]
 refine Je λN R=>?_;let a0:1<=sizeLine:=Ck (by show 1<=1000;decide);rcases h with ⟨x,c,rfl,ty,ad,q⟩|⟨a,L,p,x,ab,rfl,S,rd,ai,q⟩
 .refine[_,I,_,_,_,_,_,I,Ie,ty,T2 ty ad,_,I,Fc ?_]
  refine[a0,λa S=>?_];exact[a,_,I,Aa,λd hd ne=>[I,d,by rw[Ak ne.symm,Aa],q.out (Ae.refl H) S hd ne]]
 refine[_,I,_,_,_,_,_,I,Ie,.lst S,K0,_,I,Gr ?_]
 first|refine Fn R λN R=>?_|subst R
 refine[zAy _,λl nl=>?_];refine Ic #[g (.ref a),g (.ref l),M,M] rfl ?_
 first|refine Fn R λN R=>?_|subst R
 let s1:=Ad nl (.lst []);let D0:jO (A8.mk Ag An Ao Aq Bd Bj Bp Ba) Bl De Br Bx Ci #[l] (upd H l (.lst [])) l []:=[[[],Aa,.nil,zZ,zZ,zZ],zZ,λe he=>by rw[zAp.mp he];exact[_,Aa]];let lm:(L.map λr=>V.str (Bn.row r)).length=L.length:=zAb _;refine[_,I,a,I,[_,Al.of (s1 _ _ S)],Sh (K:=K) (a:=a) (xs:=L.map (λr=>V.str (Bn.row r))++x::ab) (λi σ H2=>i<=L.length/\(∃o1 o2,σ=#[g (.ref a),g (.ref l),o1,o2])/\Ae H H2/\∃j u,(∀e∈j,H e=M)/\jO (A8.mk Ag An Ao Aq Bd Bj Bp Ba) Bl De Br Bx Ci j H2 l u/\u.length<=8/\Lo u (L.drop i) p)
  [zAy _,[M,M,I],s1,#[l],[],λe he=>by rw[zAp.mp he];exact nl,D0,zZ,rd] (λi σ H2 _ ⟨_,_,U,_⟩=>Al.of (U _ _ S)) ?_ ?_]
 .rintro i y σ H2 t hi ⟨aa,⟨o1,o2,rfl⟩,U,j,u,eE,D2,l8,X⟩ nt
  let v:=Ad nt (.tup #[.int i,y]);by_cases il:i<L.length
  .rw[zCk (by rw[lm];exact il),zAt]at hi
   let[r,er,rfl]:=zAI.mp hi;let ed:L.drop i=r::L.drop (i+1):=by
    rw[zBQ (zAs.mp er).1]
    congr 1
    exact(zAs.mp er).2
   rw[ed]at X;refine[_,I,_,I,.inl [l,j,u,r,L.drop (i+1),p,I,D2.same v,X,l8,λE2 ag H3 k3 e3 D3 ae ah=>?_]];refine[il,[_,_,I],λb o e=>k3 b o (v _ _ (U _ _ e)) (λz=>by rw[eE b z]at e;cases e),E2,ag,λe he=>?_,D3,ae,ah];rcases e3 e he with z|z
   .exact eE e z
   .exact U.free (v.free z)
  .obtain rfl:i=L.length:=by lia
   rw[zBO (by rw[lm];exact zAm _),lm,Nat.sub_self]at hi;obtain rfl:x=y:=mI hi;rw[zCv]at X;obtain rfl:u=p:=by cases X;rfl
   refine[_,I,_,I,.inr [l,j,u,x,I,D2.same v,l8,λC e H3 hC k3=>[C,I,hC,?_],(ai.same (U.trans v))]];let s4:Ae H H3:=λb o e=>k3 b o (v _ _ (U _ _ e)) (λz=>by rw[eE b z]at e;cases e);refine[_,I,a0,λa S=>?_];exact[a,_,I,Aa,λd hd ne=>[I,d,by rw[Ak ne.symm,Aa],q.out s4 S hd ne]]
 .rintro σ H2 ⟨aa,_⟩
  rw[zAc,lm,zAd]at aa
  lia
def AL(C:Pm P w K mg base):UQ P w K mg base 44 "read_book" #["rows"] (BE K Db):=(W2 C.z C.ig bd).calW λf H F=>Vx C F
end
def jN.mapR{C N H:Type}{R:C->H->Prop}{f:N->H}{z:List C}{bs}(h:jN (λa b=>R a (f b)) z bs):jN R z (bs.map f):=by
 induction h with
 |nil=>exact .nil
 |cons r _ L=>exact .cons r L
def Lo.names{ds C:List Dr}{rs:List Bn}(h:Lo ds rs C):(ds.map (·.nm)).Nodup->ds.length<=8->(C.map (·.nm)).Nodup/\C.length<=8:=by
 induction h with
 |nil=>exactλa b=>[a,b]
 |@cov ds n rs C P U N _ H=>
  intro a b;refine H ?_ (by rw[zAc];show _+1<=8;lia);rw[zAf,zBg];refine[a,zZ,λx L y Q e=>?_];let:y=n:=by simpa[Ld]using Q
  subst this;subst e;exact N L
 |@put ds d r rs C P W R _ H=>
  intro a b;refine H ?_ (by rw[zAc]at b⊢;exact b);let e:(d.put r).nm=d.nm:=by cases r<;>rfl
  rw[zAf]at a⊢;rw[zAr,zBr,e];exact a
def Lo.good{ds H:List Dr}{rs:List Bn}(h:Lo ds rs H):(∀d∈ds,Fx d)->∀d∈H,Fx d:=by
 induction h with
 |nil=>exactλa=>a
 |@cov ds n rs H N R W _ L=>
  refineλa=>L λd C=>?_;rcases zAE.mp C with C|C
  .exact a d C
  .rw[zAp.mp C];exact Wr N
 |@put ds d r rs H N U P _ L=>
  refineλa=>L λQ C=>?_;rcases zAE.mp C with C|C
  .exact a Q (zBi _ C)
  .rw[zAp.mp C];exact P
def Pf:Ev->Bool
 |.at .alw=>B
 |_=>lX
structure TN(d:LC):Prop where
 nm:Mi (.cov d.nm)
 t:Mi (.when d.t)
 cl:d.cl.length<=8/\∀c∈d.cl,I9 c
 hs:Mi (.shr d.hs)
 nd:(d.hs.map (·.1)).Nodup
 gw:CR.GW (d.hs.map (·.2))
def Ek(d:LC):List Bn:=Bn.cov d.nm::((if Pf d.t=B then [] else #[Bn.when d.t])++(d.cl.map Bn.cls++((if d.hs=#[(d.nm,1)] then [] else #[Bn.shr d.hs])++(if d.wt=B then #[Bn.wts] else []))))
def Bh(r:Bn):V:=.str r.row
def Ey(a b c:J):a++b++c=a++(b++c):=by
 show vR ((a.cps++b.cps)++c.cps)=vR (a.cps++(b.cps++c.cps));rw[sW]
def Kp(z a b:J)(r:List J):mE z (a::b::r)=a++z++mE z (b::r):=rfl
def Ss(n:J):O "cover "++n=(Bn.cov n).row:=by
 let e:O "cover "=O "cover"++O " ":=by ac_nf
 show _=mE (O " ") #[O "cover",n];rw[Kp,e];rfl
def Ln(z k:J){ws:List J}(h:ws≠[]):mE z (k::ws)=k++z++mE z ws:=by
 cases ws with
 |nil=>exact mC I h
 |cons a r=>exact Kp z k a r
def Wm{t:Ev}(h:Fd Ej t):O "when "++mE (O " ") (Bz Bb t)=(Bn.when t).row:=by
 let e:O "when "=O "when"++O " ":=by ac_nf
 show _=mE (O " ") (O "when" :: Bz Bb t);rw[Ln _ _ (λz=>by let:=Ly h;rw[z]at this;simp at this),e]
def GB{t:Ev}(h:Fd Ej t)(e:Bz Bb t=#[O "always"]):t=.at .alw:=by
 cases t with
 |«at» c=>
  rw[Iy]at e;cases c with
  |alw=>rfl
  |_=>simp[Bb]at e
 |no t=>
  rw[Ua]at e;let:=List.cons.inj e;exact mC this.1 G
 |al C=>
  rw[Uc]at e;exfalso;unfold Fd at h
  match C,h,e with
  |a::b::r,h,e=>
   let e:=nI oJ e;rw[zAr,zAr,Dh,Dm,zAc,zAd,zAc]at e;let:=Ri (Jl h.2.2 a zZ) 3;let:=Ri (Jl h.2.2 b zZ) 3;simp at e
   lia
  |#[a],h,e=>let:=h.1;simp at this
  |[],h,e=>let:=h.1;simp at this
 |so C=>
  rw[Ut]at e;exfalso;unfold Fd at h
  match C,h,e with
  |a::b::r,h,e=>
   let e:=nI oJ e;rw[zAr,zAr,Dh,Dm,zAc,zAd,zAc]at e;let:=Ri (Jl h.2.2 a zZ) 2;let:=Ri (Jl h.2.2 b zZ) 2;simp at e
   lia
  |#[a],h,e=>let:=h.1;simp at this
  |[],h,e=>let:=h.1;simp at this
def KO{t:Ev}(h:Fd Ej t):(mE (O " ") (Bz Bb t)=O "always")↔Pf t=B:=by
 constructor
 .intro e
  let L:=Ly h;let s:=Ls (ws:=Bz Bb t) (λz=>by rw[z]at L;simp at L) (Ow h);rw[e]at s;let F:=Ls (ws:=#[O "always"]) zZ (λw C=>by rw[zAp.mp C];exact[G,G]);let S:mE (O " ") #[O "always"]=O "always":=rfl;rw[S,s]at F;rw[GB h F];rfl
 .intro e
  cases t with
  |«at» c=>
   cases c with
   |alw=>rw[Iy];rfl
   |_=>cases e
  |_=>cases e
def WJ{r:Bn}(h:Mi r):r.row.length<=6200:=by
 let F:=Ik (z:=O " ") (B:=100) (ps:=r.ws) λy S=>((Ve h).1 y S).2;let L:(O " ").length=1:=by ac_nf
 rw[L]at F;let:=(Ve h).2.2;let C:r.ws.length*(100+1)<=61*(100+1):=zBq _ this;unfold Bn.row
 lia
def NE(l:List (J×Int))(x:J×Int):E9 (l++#[x])=E9 l++#[x.1,tx (Di x.2.toNat)]:=by
 unfold E9;rw[zCh];rfl
def VD(c:Cl):BO c=(BR c).map V.str:=by cases c<;>rfl
def SD{c:Cl}(h:I9 c):bS c:=by
 cases c with
 |own y d=>exact h.2
 |lay y a b=>exact[h.2.1,h.2.2.1]
 |lim y d=>exact h.2
 |any y=>trivial
def aM(H N L:T)(C:T):Prop:=C=H\/C=N\/C=L
def jB(H:Pm P w K c b):KF P w K c b 2 (aM De Br Bx) "words" #["self"] (OZ Bl De Br Bx):=[λC z=>by
  rcases z with rfl|rfl|rfl
  .exact Sq H.qi H.fk.cl bd λf L F=>J1 H F
  .exact Sq H.ol H.b7.cl bd λf L F=>Wq H F
  .exact Sq H.oo H.bv.cl bd λf L F=>Ww H F]
def PX{c:Cl}(h:I9 c):aM CO CL CM (Zs CC CO CL CM c):=by
 cases c with
 |own _ _=>exact .inl I
 |lay _ _ _=>exact .inr (.inl I)
 |lim _ _=>exact .inr (.inr I)
 |any _=>exact h.elim
inductive SX(κ:A8)(CC CO CL CM C CD:T)(vs:List V)(H:Hp)(Q:VK):Prop
 |mk (p:_) (d:_) (z0:vs=#[.ref p]) (z1:kB κ CC CO CL CM C CD H p d) (z2:Mi (.shr d.hs)) (z3:∀H',Ae H H'->Q (Bh (.shr d.hs)) H'):SX κ CC CO CL CM C CD vs H Q
def dL(κ:A8)(L N P U C W:T):Sp:=λR H Q x=>SX κ L N P U C W R H Q
inductive TF(κ:A8)(CC CO CL CM C CD:T)(vs:List V)(H:Hp)(Q:VK):Prop
 |mk (p:_) (d:_) (z0:vs=#[.ref p]) (z1:kB κ CC CO CL CM C CD H p d) (z2:TN d) (z3:∀l H',Ae H H'->H l=M->H' l=g (.lst ((Ek d).map Bh))->Q (.ref l) H'):TF κ CC CO CL CM C CD vs H Q
def dM(κ:A8)(L N P U C W:T):Sp:=λR H Q x=>TF κ L N P U C W R H Q
inductive TM(κ:A8)(CC CO CL CM C CD CB:T)(vs:List V)(H:Hp)(Q:VK):Prop
 |mk (b:_) (ls:_) (z0:vs=#[.ref b]) (z1:ZQ κ CC CO CL CM C CD CB H b ls) (z2:ls.length<=8) (z3:(∀d∈ls,TN d)) (z4:∀l H',Ae H H'->H l=M->H' l=g (.lst ((ls.flatMap Ek).map Bh))->Q (.ref l) H'):TM κ CC CO CL CM C CD CB vs H Q
def eQ(κ:A8)(L N P U C W X:T):Sp:=λR H Q x=>TM κ L N P U C W X R H Q
section
seal L2.PS L2.PSs L2.PE L2.PA
variable {P:mF} {w:mR} {K:zAa} {mg:J->Option lV} {base:mX} (j:Pm P w K mg base)
def M1(j:Pm P w K mg base){f}{fd}(F:Fw K "read_book" "read_book" Mf f fd) :
  Ar P w K mg base (LU P w) 44 f fd #["rows"] (TL (A8.mk Ag An Ao Aq Bd Bj Bp Ba) Bl De Br Bx Bw Eo Fy):=by
 let sc:=Sk;refine F.okW sc (λvs H Q E h=>?_) (λa3 A a1 s H vs Q E hr h=>?_)
 .let[_,_,_,rfl,_]:=h
  rfl
 let[a,R,a0,rfl,ha,ap,rd,q]:=h;refine[_,(Ab (Ce (Et (Eb (Ix Ec j.z j.ad (Dy (pv 0) (La "list" rfl (j.z.nn j.az) I)))))
    (Ac (Gs (V1.n Tl) I (ES j) (hr.mono Y) I (Cf Ah)))
    Be)
   (Ab (Fk sc 1 (Ca Iw))
   (Ab (Gc oZ I (Wa I (j.z.nn j.bt) (Cf (pv 0))) (Oc (n:=2) I (Dw (Ot sc 2) (Dw (Ot sc 3) Km)))
    (Ac (DM Tl (λ_=>vJ) I I I I (j.z.nv j.de) (λpn E W hW hp=>
    (Ac (Ct (Eu (A5 j) (hr.mono Y) hW I (Dy (pv 1) (pv 3)))))) (λe oe ae af=>
    (Ac (Zd af ae (O8 j) ((hr.mono Y).sup _) I (Cf (pv 2))))))))
   (Ac (Ay (Fp (UD j) (hr.mono Y) I (Cf (Hv (NC:=#["draft"]) (own:=#["draft"]) (cs:=[]) (ix:=[]) I (Az.of I) I trivial (Em (pv 1)) (λ_ _ _=>(Xa 0)) (λ_ _ _=>Fh) (λ_ _ _=>(Ed (Us j) (hr.mono Y) (pv 0))))))))))),?_]
 refine Je λN X=>?_;let[aj,am]:=rd.names zZ zZ;let ab:=rd.good (λ_ z=>nomatch z);refine[_,I,_,_,_,_,_,I,Ie,.lst ha,K0,_,I,Gr ?_]
 first|refine Fn X λN X=>?_|subst X
 refine[zAy _,λl nl=>?_];refine Ic #[g (.ref a),g (.ref l),M,M] rfl ?_
 first|refine Fn X λN X=>?_|subst X
 let s1:=Ad nl (.lst []);let D0:jO (A8.mk Ag An Ao Aq Bd Bj Bp Ba) Bl De Br Bx Ci #[l] (upd H l (.lst [])) l []:=[[[],Aa,.nil,zZ,zZ,zZ],zZ,λe C=>by rw[zAp.mp C];exact[_,Aa]];let lm:(R.map λr=>V.str (Bn.row r)).length=R.length:=zAb _;refine[_,I,a,I,[_,Al.of (s1 _ _ ha)],Sh (K:=K) (a:=a) (xs:=R.map λr=>V.str (Bn.row r)) (λi σ S=>(∃o1 o2,σ=#[g (.ref a),g (.ref l),o1,o2])/\Ae H S/\∃E1 v,(∀e∈E1,H e=M)/\jO (A8.mk Ag An Ao Aq Bd Bj Bp Ba) Bl De Br Bx Ci E1 S l v/\v.length<=8/\Lo v (R.drop i) a0)
  [[M,M,I],s1,#[l],[],λe C=>by rw[zAp.mp C];exact nl,D0,zZ,rd] (λi σ S _ ⟨_,s2,_⟩=>Al.of (s2 _ _ ha)) ?_ ?_]
 .rintro i x σ S t hi ⟨⟨o1,o2,rfl⟩,s2,E1,v,eE,D2,l8,L⟩ nt
  rw[zAt]at hi;let[r,er,rfl]:=zAI.mp hi;let ed:R.drop i=r::R.drop (i+1):=by
   rw[zBQ (zAs.mp er).1]
   congr 1
   exact(zAs.mp er).2
  rw[ed]at L;let p:=Ad nt (.tup #[.int i,.str r.row]);refine[_,I,_,I,.inl [l,E1,v,r,R.drop (i+1),a0,I,D2.same p,L,l8,λE2 aq k y e3 D3 as an=>?_]];refine[[_,_,I],λb o e=>y b o (p _ _ (s2 _ _ e)) (λz=>by rw[eE b z]at e;cases e),E2,aq,λe C=>?_,D3,as,an];rcases e3 e C with z|z
  .exact eE e z
  .exact s2.free (p.free z)
 .rintro σ S ⟨⟨o1,o2,rfl⟩,s2,E1,v,eE,D2,l8,L⟩
  rw[lm,zCv]at L;let ah:v=a0:=by cases L;rfl
  subst ah;let[[ac,hl,al,_,_,_],lE,a2]:=D2;let ad:=al.len;let lp:(ac.map λx=>V.ref x.1).length=v.length:=by rw[zAb,ad]
  first|refine Fn X λN X=>?_|subst X
  refine[_,I,l,I,[_,Al.of hl],λm nm=>?_];refine Ez (K:=K) (a:=l) (xs:=ac.map λx=>V.ref x.1) (λi ys k=>∃cs:List Cv,ys=cs.map Yj/\k m=g (.lst ys)/\Ae S k/\jN (λc d=>c.2.1=d.nm/\c.2.2=d.wt/\kB (A8.mk Ag An Ao Aq Bd Bj Bp Ba) Bl De Br Bx Bw Eo (Ap #[m] k) c.1 (Dr.lc d)) cs (v.take i)) [[],I,Aa,Ad nm _,.nil]
   (λi ys k _ ⟨cs,e,h1,p,U⟩=>[h1,by rw[e,zAb,U.len,zAq];lia,Al.of (p _ _ hl)]) (by rw[lp,zCy];lia) (λi x ys k hi ⟨cs,e,h1,p,U⟩=>?_) (λys k ⟨cs,e,h1,p,U⟩=>?_)
  .rw[zAt]at hi
   let[pc,ar,rfl]:=zAI.mp hi;let[d,ed,[pE,cE],da]:=al.get ar;let ag:=da;let[dx,cv,sv,au,g1,_]:=ag;let ai:jW (A8.mk Ag An Ao Aq Bd Bj Bp Ba) Bl De Br Bx Ci (Ap E1 S) k pc.1 pc.2 d:=da.same (Ae.refl _) (p _) (p _);let so:Ae (Ap E1 S) (Ap #[m] k):=λb o e=>by
    let[_,e]:=Ap.at e;exact Ap.of (λz=>by rw[zAp.mp z,nm]at e;cases e) (p _ _ e)
   refine[_,I,pc.1,dx,_,I,p _ _ g1,I,pc.1,pc.2,_,#[m],d,I,so,λe C=>by rw[zAp.mp C];exact[_,h1],ai,ab d (zAz ed),λu H4 s4 nu co=>?_];refine[s4 _ _ h1,I,cs++#[(u,d.nm,d.wt)],by rw[zAf,e];rfl,Aa,λb o e=>?_,?_]
   .rw[Ak (Ai e nm)]
    exact s4 _ _ (p _ _ e)
   .rw[Df ed]
    let sm:∀{H5:Hp} {o:HO},Ae (Ap #[m] H5) (Ap #[m] (upd H5 m o)):=λb o e=>by
     let[e0,e]:=Ap.at e;exact Ap.of e0 (by rw[Ak (λz=>e0 (by rw[z];simp))];exact e)
    let ao:Ae (Ap #[m] k) (Ap #[m] H4):=Ap.mono (λb o e _=>s4 b o e) λx hx=>.inl hx;exact(U.imp λc d ⟨k1,k2,y⟩=>[k1,k2,y.same (ao.trans sm)]).app (.cons [I,I,co.same sm] .nil)
  rw[lp,zAB]at U;subst e;let aa:=U.imp λc d ⟨k1,k2,y⟩=>([k1,k2,y.same (Ap.sub _ _)]:c.2.1=d.nm/\c.2.2=d.wt/\kB (A8.mk Ag An Ao Aq Bd Bj Bp Ba) Bl De Br Bx Bw Eo k c.1 (Dr.lc d));let en:cs.map (·.2.1)=v.map (·.nm):=aa.map_eq λc d h=>h.1;let cv:jQ Bw k cs:=λc hc=>by
   let[d,_,k1,k2,[cl,hv,dd,wh,wt,cv,av,y,_]]:=aa.mem hc;let[[dx,fs,e1,e2,_,_,_,_,e3,_],_]:=y;exact[dx,fs,e1,by rw[k1];exact e2,by rw[k2];exact e3]
  intro b db nb nd ne;let s4:Ae k (upd (upd k db (.own b)) b (.ins Fy db [])):=Ho nb nd;refine[b,db,m,cs,I,Aa,s4 _ _ h1,cv.same s4,by rw[U.len];exact am,by rw[en];exact aj,λcl ak H5 kb bk _ _=>[I,?_]];let s5:Ae k H5:=λc o e=>kb c o (s4 _ _ e) (Ai e nb);refine q b H5 ((s2.trans p).trans s5) [cl,ak,cs,bk,?_];let:=aa.imp λc d ⟨k1,k2,y⟩=>([k1,k2,y.same s5]:c.2.1=(Dr.lc d).nm/\c.2.2=(Dr.lc d).wt/\kB (A8.mk Ag An Ao Aq Bd Bj Bp Ba) Bl De Br Bx Bw Eo H5 c.1 (Dr.lc d));exact this.mapR
def AC:Jc j 44 "read_book" #["rows"] (TL (A8.mk Ag An Ao Aq Bd Bj Bp Ba) Bl De Br Bx Bw Eo Fy):=(W2 j.z j.ig bd).cal λf C F=>Ar.ofW (M1 j F)
def P8:Jc j 1 "show_share" #["cover"] (dL (A8.mk Ag An Ao Aq Bd Bj Bp Ba) Bl De Br Bx Bw Eo):=Os j.z j.p8 #["cover","words","house","weight"] df λE H Q hr h=>by
 let[p,d,rfl,[cl,hv,dd,wh,l,cv,cs,[[s,fs,r,f1,f2,f3,f4,f5,f6,_],_,hh,[[aa,hd],_,ht]],_,_],X,q]:=h;refine[_,(Ab (Fk E 1 (Ca (Cf Aj)))
   (Ab (Gc nK I (MJ I (j.z.nn j.qr) (Dy (Cj (pv 0) I) (Cj (Cj (pv 0) I) I))) (Oc (n:=2) I (Dw (Ot E 2) (Dw (Ot E 3) Km)))
    (Ac (Ct (Fg mJ pM pL Qg (pv 1) (Cf (Ca (Dy (pv 2) (Dq Ep I (j.z.nn j.ar) (show zCz _=g (.type "str") from rfl) (Cf (pv 3))))))))))
   (Ac (Ay (Nm (K:=K) I mY nP nO (Nh (K:=K) I) Aj (Cf (pv 1))))))),?_]
 refine[by show 1<=sizeLine;rw[zCy];decide,λm nm=>?_];refine Ic #[g (.ref p),g (.ref m),M,M] rfl ?_;let L:=Ad nm (.lst #[.str (O "share")]);refine[_,I,p,_,s,fs,_,I,L _ _ r,j.ao.cl,j.bf,f4,_,I,p,_,s,fs,_,I,L _ _ r,j.ao.cl,j.cn,f5,dd,_,aa,_,_,I,L _ _ hd,j.gx.cl,j.bp,Qu _ _,hv,l,I,[_,Al.of (L _ _ hh)],[_,Al.of (L _ _ ht)],?_];let lh:((d.hs.map (·.1)).map V.str).length=d.hs.length:=by rw[zAb,zAb]
 let lw:((d.hs.map (·.2)).map V.int).length=d.hs.length:=by rw[zAb,zAb]
 let l3:=X.2.1;refine RW (K:=K) (a:=hv) (b:=l) (xs:=(d.hs.map (·.1)).map V.str) (ys:=(d.hs.map (·.2)).map V.int) (λi W U=>(∃A R,W=#[g (.ref p),g (.ref m),A,R])/\Ae H U/\U m=g (.lst ((O "share" :: E9 (d.hs.take i)).map V.str))) [[M,M,I],L,Aa] (λi W U _ ⟨_,F,_⟩=>[Al.of (F _ _ hh),Al.of (F _ _ ht)]) ?_ ?_
 .rintro i x y W U t v S ⟨⟨A,R,rfl⟩,F,N⟩ nt
  rw[zAt,zAt]at v S;let[z,ez,rfl]:=zAI.mp v;let[u,C,rfl]:=zAI.mp ez;rw[C]at S;let ey:y=.int u.2:=by simpa using S.symm
  subst ey;let[_,u1,u2]:=X.2.2 u (zAz C);let f:=Ad nt (.tup #[.str u.1,.int u.2]);refine[_,I,.inl [I,_,Al.of (f _ _ N)],_,I,_,I,_,I,Ge Z Z,by show 2<=sizeLine;rw[zCy];decide,λb nb=>?_];let s4:=Ad nb (.lst #[.str u.1,.str (toString u.2)]);let ab:=s4 _ _ (f _ _ N);refine[m,b,_,_,I,I,ab,Aa,?_,[_,_,I],λc o e=>?_,?_]
  .rw[zAb,zAd,Tu,zAq,zCy];show _+2<=_;lia
  .rw[Ak (Ai e nm)]
   exact s4 _ _ (f _ _ (F _ _ e))
  .rw[Aa,Df C,NE]
   let ef:((toString u.2:String):J)=tx (Di u.2.toNat):=by rw[<- Jo];congr 2;lia
   show g (HO.lst (((O "share" :: E9 (d.hs.take i)).map V.str)++#[.str u.1,.str ((toString u.2:String):J)]))=_;rw[ef,<- zBc,zAf];rfl
 .rintro W U ⟨⟨A,R,rfl⟩,F,N⟩
  rw[lh,lw,Nat.min_self,zAB]at N;let k:=Ve X;refine[I,_,I,_,m,(Bn.shr d.hs).ws,I,I,.inl (Al.of N),k.2.1,Z,G,λy S=>by let:=(k.1 y S).2;lia,q _ F]
def C3(l:List Int):(l.map V.int).all Hr=B:=by
 rw[rM];exact zBE.mpr λx x=>I
theorem P3:∀F z:List J,R0 (F.map V.str) (z.map V.str)=decide (F=z)
 |[],[]=>rfl
 |[],_::_=>rfl
 |_::_,[]=>rfl
 |n::F,m::z=>by
  show(Px (.str n) (.str m)&&R0 (F.map V.str) (z.map V.str))=_;rw[P3 F z];by_cases e:n=m
  .subst e
   by_cases L:F=z
   .subst L;simp[Px]
   .simp[Px,L]
  .simp[Px,e]
theorem kT{nm:J}:∀{z:List (J×Int)},(z.map (·.1)=#[nm]/\z.map (·.2)=#[1])↔z=#[(nm,1)]
 |[]=>by simp
 |#[(a,b)]=>by simp
 |_::_::_=>by simp
def Ia(d:LC):List Bn:=if Pf d.t=B then [] else #[Bn.when d.t]
def Nu(d:LC):List Bn:=if d.hs=#[(d.nm,1)] then [] else #[Bn.shr d.hs]
def Lc(d:LC):List Bn:=if d.wt=B then #[Bn.wts] else []
def Uv(d:LC):(Ek d).map Bh=#[Bh (.cov d.nm)]++(Ia d).map Bh++d.cl.map (λc=>Bh (.cls c))++(Nu d).map Bh++(Lc d).map Bh:=by
 unfold Ek Ia Nu Lc;rw[zAr,zAf,zAf,zAf,zBw,<- List.singleton_append,<- zAw,<- zAw,<- zAw];rfl
def Wh(d:LC):(Ia d).length<=1/\(Nu d).length<=1/\(Lc d).length<=1:=by
 unfold Ia Nu Lc;refine[?_,?_,?_]<;>split<;>simp
def Kk{d:LC}(h:d.cl.length<=8):(Ek d).length<=12:=by
 let e:=nI oJ (Uv d);let[C,F,z]:=Wh d;simp only[zAc,zAb,zBe]at e
 lia
def P9:Jc j 202 "show_cover" #["cover"] (dM (A8.mk Ag An Ao Aq Bd Bj Bp Ba) Bl De Br Bx Bw Eo):=Os j.z j.p9 #["cover","rows","condition"] df λsc H Q hr h=>by
 let[p,d,rfl,co,s,q]:=h;let hu:=UZ hr;let[cl,hv,dd,wh,wt,cv,cs,[[v,fs,t,f1,f2,f3,f4,f5,f6,_],hc,hh,[[ao,hd],_,ht]],an,ac]:=id co;refine[_,(Ab (Fk sc 1 (Ca (Cf (Au Bm Aj (Cj (pv 0) I)))))
   (Ab (Fk sc 2 (Gg (Vp j) hr (Cf (Cj (pv 0) I))))
   (Ab (Ce (Ax Sl (pv 2) Aj (Bf _))
    (Ac (Ct (Fg mJ mM mL Dx (pv 1) (Cf (Au Bm Aj (pv 2))))))
    Be)
   (Ab (Ct (Fg mJ pM pL Qg (pv 1) (Cf (Hv (NC:=#["clause"]) (own:=#["clause"]) (cs:=[]) (ix:=[]) I (Az.of I) I trivial (Em (Cj (pv 0) I)) (λ_ _ _=>(Xa 0)) (λ_ _ _=>Fh) (λ_ _ _=>(Nm (K:=K) I mY nP nO (Nh (K:=K) I) Aj (Cf (Na (jB j) (hr.mono Y) (pv 0)))))))))
   (Ab (Ce (PW.pt (Jg (Ax (IK hu) (Cj (pv 0) I) (Ca (Cf (Cj (pv 0) I))) (Bf _)) (Gv (Ax (IK hu) (Cj (Cj (pv 0) I) I) (Ca (Cf Ah)) (Bf _)))))
    (Ac (Ct (Fg mJ mM mL Dx (pv 1) (Cf (Gg (P8 j) hr (Cf (pv 0)))))))
    Be)
   (Ab (Ce (Eb (Cj (pv 0) I))
    (Ac (Ct (Fg mJ mM mL Dx (pv 1) (Cf Aj))))
    Be)
   (Ac (Ay (pv 1))))))))),?_]
 let u:1<=sizeLine:=by rw[zCy];decide
 let av:=Ga s.nm.1;let[aa,ah,d6,aq]:=s.t;let[ar,au,ax]:=Wh d;let aw:=s.cl.1;refine Je λN U=>?_;refine[_,I,p,_,v,fs,_,I,t,j.ao.cl,j.bj,f1,_,_,I,I,?_,u,λm nm=>?_]
 .have e6:(O "cover ").length=6:=by ac_nf
  rw[e6,zCy];lia
 rw[Ss];let s1:=Ad nm (.lst #[Bh (.cov d.nm)]);let al:upd H m (.lst #[Bh (.cov d.nm)]) m=g (.lst #[Bh (.cov d.nm)]):=Aa;refine W9 U #[g (.ref p),g (.ref m),M] rfl λN U=>?_;refine[_,I,p,_,v,fs,_,I,s1 _ _ t,j.ao.cl,j.d9,f2,cv,d.t,I,Bv.same s1 _ an,aq,aa,ah,λH2 W=>?_];let ae:=s1.trans W;let R:=W _ _ al;refine W9 U #[g (.ref p),g (.ref m),g (.str (mE (O " ") (Bz Bb d.t)))] rfl λN U=>?_;let S:∀X,Ae H X->X m=g (.lst (#[Bh (.cov d.nm)]++(Ia d).map Bh))->N #[g (.ref p),g (.ref m),g (.str (mE (O " ") (Bz Bb d.t)))] X:=by
  clear R ae W al s1;intro H2 W R;refine Fn U λN U=>?_;refine[_,I,.inl [I,_,Al.of R],_,I,p,_,v,fs,_,I,W _ _ t,j.ao.cl,j.bn,f3,cl,I,[_,Al.of (W _ _ hc)],λb nb=>?_];refine Ez (K:=K) (a:=cl) (xs:=cs) (λi ys E=>ys=(d.cl.take i).map (λc=>Bh (.cls c))/\E b=g (.lst ys)/\Ae H2 E) [I,Aa,Ad nb _]
   (λi ys E _ ⟨e,h1,k⟩=>[h1,by rw[e,zAb,zAq];lia,Al.of (k _ _ (W _ _ hc))]) (by rw[ac.len,zCy];lia) (λi x ys E hi ⟨e,h1,k⟩=>?_) (λys E ⟨e,aj,k⟩=>?_)
  .let[c,ec,pu,rfl,[dc,ap]]:=ac.get hi
   let af:=s.cl.2 c (zAz ec);let ab:=k _ _ (W _ _ ap);refine[I,_,I,pu,_,dc,Mu c,I,ab,PX af,cS c,pu,c,I,[dc,ab],I,SD af,λl H4 f nl hl=>?_];rw[VD]at hl;let wk:=Ve (r:=.cls c) af;let w1:1<=(BR c).length:=wk.2.1;let w2:=CG c;refine[_,l,BR c,I,I,.inl (Al.of hl),w1,Z,G,λy hy=>by let:=(wk.1 y hy).2;lia,f _ _ h1,I,?_,Aa,λb' o z=>?_]
   .rw[Df ec,zAf,e]
    rfl
   .rw[Ak (Ai z nb)]
    exact f _ _ (k _ _ z)
  rw[ac.len,zAB]at e;subst e;let ag:=k _ _ R;refine[m,b,_,_,I,I,ag,aj,?_,?_]
  .rw[zAc,zAb,zAb,zCy];show 1+_+_<=_;lia
  let f:Ae H (upd E m (.lst (#[Bh (.cov d.nm)]++(Ia d).map Bh++d.cl.map (λc=>Bh (.cls c))))):=λc o e=>by rw[Ak (Ai e nm)];exact k _ _ (W _ _ e)
  let ad:upd E m (.lst (#[Bh (.cov d.nm)]++(Ia d).map Bh++d.cl.map (λc=>Bh (.cls c)))) m=g (.lst (#[Bh (.cov d.nm)]++(Ia d).map Bh++d.cl.map (λc=>Bh (.cls c)))):=Aa;generalize upd E m (.lst (#[Bh (.cov d.nm)]++(Ia d).map Bh++d.cl.map (λc=>Bh (.cls c))))=H4 at f ad;clear aj ag k nb R W;refine Fn U λN U=>?_;let S:∀X,Ae H X->X m=g (.lst (#[Bh (.cov d.nm)]++(Ia d).map Bh++d.cl.map (λc=>Bh (.cls c))++(Nu d).map Bh))->N #[g (.ref p),g (.ref m),g (.str (mE (O " ") (Bz Bb d.t)))] X:=by
   clear ad f;intro H5 C F;refine Fn U λN U=>?_;let S:∀X,Ae H X->X m=g (.lst (#[Bh (.cov d.nm)]++(Ia d).map Bh++d.cl.map (λc=>Bh (.cls c))++(Nu d).map Bh++(Lc d).map Bh))->N #[g (.ref p),g (.ref m),g (.str (mE (O " ") (Bz Bb d.t)))] X:=by
    intro n A L;subst U;rw[<- Uv]at L;exact[_,I,q m n A nm L]
   refine[_,I,p,_,v,fs,_,I,C _ _ t,j.ao.cl,j.bg,f6,_,I,?_];cases ew:d.wt with
   |false=>
    refine Gr (S H5 C ?_);rw[F];unfold Lc;rw[ew];simp
   |true=>
    refine Fc [_,I,.inl [I,_,Al.of F],m,_,_,I,I,F,?_,S _ (λc o e=>by rw[Ak (Ai e nm)];exact C _ _ e) ?_]
    .rw[zAc,zAc,zAc,zAb,zAb,zAb,zCy];show 1+_+_+_<_;lia
    .rw[Aa];unfold Lc;rw[ew];rfl
  let a0:∀X,Ae H X->X m=g (.lst (#[Bh (.cov d.nm)]++(Ia d).map Bh++d.cl.map (λc=>Bh (.cls c))))->¬d.hs=#[(d.nm,1)]->∀n,Ae X n->N #[g (.ref p),g (.ref m),g (.str (mE (O " ") (Bz Bb d.t)))] (upd n m (.lst (#[Bh (.cov d.nm)]++(Ia d).map Bh++d.cl.map (λc=>Bh (.cls c))++#[Bh (.shr d.hs)]))):=λX s' ay ne n A=>by
   refine S _ (λc o e=>by rw[Ak (Ai e nm)];exact A _ _ (s' _ _ e)) ?_;rw[Aa];unfold Nu;rw[mK ne];rfl
  let ai:(#[Bh (.cov d.nm)]++(Ia d).map Bh++d.cl.map (λc=>Bh (.cls c))).length<sizeLine:=by
   rw[zAc,zAc,zAb,zAb,zCy];show 1+_+_<_;lia
  refine[_,I,p,_,v,fs,_,I,f _ _ t,j.ao.cl,j.bf,f4,_,I,p,_,v,fs,_,I,f _ _ t,j.ao.cl,j.bj,f1,u,λb1 n1=>?_];let t1:=Ad n1 (.lst #[.str d.nm]);let ak:upd H4 b1 (.lst #[.str d.nm]) b1=g (.lst (#[d.nm].map V.str)):=Aa;let C:=f.trans t1;let F:=t1 _ _ ad;generalize upd H4 b1 (.lst #[.str d.nm])=H5 at t1 ak C F;refine[hv,b1,_,_,I,I,Al.of (C _ _ hh),Al.of ak,Ll _,Ll _,_,I,?_];show if (!R0 ((d.hs.map (·.1)).map V.str) (#[d.nm].map V.str))=lY then _ else _;rw[P3];by_cases c1:d.hs.map (·.1)=#[d.nm]
  .refine nF c1 ?_
   refine[_,I,p,_,v,fs,_,I,C _ _ t,j.ao.cl,j.cn,f5,dd,_,ao,_,_,I,C _ _ hd,j.gx.cl,j.bp,Qu _ _,u,λb2 n2=>?_];let t2:=Ad n2 (.lst #[.int 1]);let am:upd H5 b2 (.lst #[.int 1]) b2=g (.lst ((#[1]:List Int).map V.int)):=Aa;let A:=C.trans t2;let L:=t2 _ _ F;generalize upd H5 b2 (.lst #[.int 1])=n at t2 am A L;refine[wt,b2,_,_,I,I,Al.of (A _ _ ht),Al.of am,C3 _,C3 _,_,I,?_];show if (!R0 ((d.hs.map (·.2)).map V.int) ((#[1]:List Int).map V.int))=lY then _ else _;rw[DK];by_cases c2:d.hs.map (·.2)=#[1]
   .refine nF c2 (S _ A ?_)
    rw[L];unfold Nu;rw[mS (kT.mp [c1,c2])];simp
   .refine nT c2 ?_
    let ne:¬d.hs=#[(d.nm,1)]:=λz=>c2 (kT.mpr z).2;refine[_,I,.inl [I,_,Al.of L],_,I,p,d,I,co.same A,s.hs,λH7 s7=>[m,_,_,I,I,s7 _ _ L,ai,a0 n A L ne H7 s7]]
  .refine nT c1 (Fc ?_)
   let ne:¬d.hs=#[(d.nm,1)]:=λz=>c1 (kT.mpr z).1;refine[_,I,.inl [I,_,Al.of F],_,I,p,d,I,co.same C,s.hs,λH7 s7=>[m,_,_,I,I,s7 _ _ F,ai,a0 H5 C F ne H7 s7]]
 refine[_,I,I,_,I,?_];let ta:=KO aa;by_cases c:V.str (mE (O " ") (Bz Bb d.t))=V.str (O "always")
 .refine nF c (S H2 ae ?_)
  rw[R];unfold Ia;rw[mS (ta.mp (V.str.inj c))];rfl
 .refine nT c ?_
  let na:¬Pf d.t=lY:=λz=>c (nI V.str (ta.mpr z));refine[_,I,.inl [I,_,Al.of R],_,I,_,_,I,I,?_,?_]
  .have:=WJ s.t
   let e5:(O "when ").length=5:=by ac_nf
   let jl:=Ik (z:=O " ") (B:=100) (ps:=Bz Bb d.t) λy hy=>(Ow aa y hy).2;let e1:(O " ").length=1:=by ac_nf
   rw[e1]at jl;let as:(Bz Bb d.t).length*(100+1)<=60*(100+1):=zBq _ ah;rw[e5,zCy];lia
  rw[Wm aa];refine[m,_,_,I,I,R,by show 1<sizeLine;rw[zCy];decide,S _ (λc o e=>by rw[Ak (Ai e nm)];exact ae _ _ e) ?_];rw[Aa];unfold Ia;rw[mK na];rfl
def X2:Jc j 203 "show_book" #["book"] (eQ (A8.mk Ag An Ao Aq Bd Bj Bp Ba) Bl De Br Bx Bw Eo Fy):=Os j.z j.qc #["book","rows","cover"] df λE H Q t h=>by
 let[b,F,rfl,[f,ak,s,[[n,fs,hb,f1,f2,_],R,_],r],l8,A,q]:=h;refine[_,(Ab (Fk E 1 (Ca Iw))
   (Ab (Gc nK I (Em (Cj (pv 0) I)) (Ot E 2)
    (Ac (Ct (Fg mJ pM pL Qg (pv 1) (Cf (Gg (P9 j) t (Cf (pv 2))))))))
   (Ac (Ay (pv 1))))),?_]
 refine[zAy _,λm X=>?_];refine Ic #[g (.ref b),g (.ref m),M] rfl ?_;let U:=Ad X (.lst []);let lm:(s.map Yj).length=F.length:=by rw[zAb,r.len]
 refine[_,I,b,_,n,fs,_,I,U _ _ hb,j.gz.cl,j.gb,f1,f,I,[_,Al.of (U _ _ R)],?_];refine Po (K:=K) (a:=f) (xs:=s.map Yj) (λi W L=>(∃o,W=#[g (.ref b),g (.ref m),o])/\Ae H L/\L m=g (.lst (((F.take i).flatMap Ek).map Bh))) [[M,I],U,Aa] (λi W L _ ⟨_,z,_⟩=>Al.of (z _ _ R)) ?_ ?_
 .rintro i x W L k ⟨⟨o,rfl⟩,z,N⟩
  rw[zAt]at k;let[c,ec,rfl]:=zAI.mp k;let[d,S,_,_,u]:=r.get ec;refine[_,I,.inl [I,_,Al.of N],_,I,c.1,d,I,u.same z,A d (zAz S),λl H3 p nl y=>?_];let aa:((F.take i).flatMap Ek).length<=12*i:=by
   let:∀l:List LC,(∀d∈l,d.cl.length<=8)->(l.flatMap Ek).length<=12*l.length:=λl=>by
    induction l with
    |nil=>intro _;simp
    |cons a l v=>
     intro h;let h1:=Kk (h a zZ);let h2:=v λd C=>h d (by simp[C]);rw[zCt,zAc,zAd]
     lia
   let h:=this (F.take i) λd C=>(A d (zAW C)).cl.1;let:(F.take i).length<=i:=yA _ _
   lia
  let il:i<F.length:=(zAs.mp S).1;let cb:=Kk (A d (zAz S)).cl.1;refine[m,l,_,_,I,I,p _ _ N,y,?_,[_,I],λc o e=>?_,?_]
  .rw[zAb,zAb,zCy];lia
  .rw[Ak (Ai e X)]
   exact p _ _ (z _ _ e)
  .rw[Aa,Df S,zCh,zAf]
   simp
 .rintro W L ⟨⟨o,rfl⟩,z,N⟩
  rw[lm,zAB]at N;exact[_,I,q m L z X N]
end
inductive DW(K:zAa)(vs:List V)(H:Hp)(Q:VK):Prop
 |mk (a:_) (ns:_) (k:Int) (z0:vs=#[.ref a,.int k]) (z1:Al K H a (oA V.int ns)) (z2:0<=k) (z3:ns.length<=63) (z4:Q (.int (ns.getD k.toNat 0)) H):DW K vs H Q
def VZ(K:zAa):Sp:=λC H Q x=>DW K C H Q
section
variable {P:mF} {w:mR} {K:zAa} {mg:J->Option lV} {base:mX}
def Gi(C:Pm P w K mg base):Jc C 1 "_law_cell" #["_law_script","_law_k"] (VZ K):=Os C.z C.qd #["_law_script","_law_k"] df λU H Q W h=>by
 let[a,z,k,rfl,F,N,S,q]:=h;refine[_,(Ab (Ce (Ax Mm (pv 1) (Ix Bg C.z C.ag (Cf (pv 0))) (Bf _))
    (Ac (Ay (Cr By (pv 0) (pv 1) (λx x=>I))))
    Be)
   (Ac (Ay Ah))),?_]
 let R:(oA V.int z).length=z.length:=zAb _;refine[_,I,_,I,a,_,I,.inl F,_,_,I,I,_,I,?_];rw[R];refine HD (λc=>?_) (λc=>?_)
 .have L:k<(z.length:Int):=mU c
  exact[_,I,_,I,a,_,_,_,I,I,F,Ml N L,q]
 .have L:¬k<(z.length:Int):=of_decide_eq_false (zCa.mpr c)
  let e:z.getD k.toNat 0=0:=by
   rw[zBh,xB Z];rfl
  rw[e]at q;exact q
end
def MX(i:Int):Nat:=97+(i%26).toNat
def Ws(i:Int):Kh (MX i):=by
 unfold Kh MX;let z:0<=i%26:=pW _ Y;let C:i%26<26:=qT _ Y
 lia
def JQ(i:Int):Ob (O "abcdefghijklmnopqrstuvwxyz").cps.toList (i%26)=g (MX i):=by
 let e:(O "abcdefghijklmnopqrstuvwxyz").cps.toList=(zAU 26).map (97 + ·):=by ac_nf
 let z:0<=i%26:=pW _ Y;let C:i%26<26:=qT _ Y;let[k,F]:=nJ z;rw[e];unfold MX;rw[F];refine Gk ?_;rw[zAt,sQ Z];rfl
def BK:(O "abcdefghijklmnopqrstuvwxyz").length<=sizeLine:=by
 let e:(O "abcdefghijklmnopqrstuvwxyz").length=26:=by ac_nf
 rw[e];exact Ck Y
def Ux{i:Nat}{v:Int}{nx:St->Hp->Prop}{σ:St}{H:Hp}(lo C:Int)(z:lo<=v/\v<=C)(h:∀x:Int,lo<=x->x<=C->Hy i (.int x) σ H nx):Hy i (.int v) σ H nx:=h v z.1 z.2
def md{a b:Int}(h:0<b):0<=a%b/\a%b<=b-1:=[pW _ Z,by let:=qT a h;lia]
def HN:List Nat:=#[115,101,108,102]
def ET:O "self"=tx HN:=by ac_nf
def gF:O "q"=tx #[113]:=by ac_nf
def NS{l m:List Nat}(h:tx l=tx m):l=m:=by
 let:=nI (λz=>z.cps.toList) h
 simpa[tx]using this
def WY(l:List Nat):Prop:=l[0]?=g 120/\l[2]?=g 120/\l[4]?=g 120/\l[1]?≠g 120
structure GO(ns:List J):Prop where
 hi:ns.length<=8
 nd:ns.Nodup
 ok:∀z∈ns,nameV (.str z)=B/\z.length<=8/\z ≠ "self"
 ac:∀z∈ns,z ≠ "acme"
 xx:∀z∈ns,¬WY z.cps.toList
def EK:List Nat:=#[97,99,109,101]
def QS:O "acme"=tx EK:=by ac_nf
def MI(C:Nat->List Nat){k:Nat}(S:k<=8)(nm:∀i,i<k->Si (C i))(ns:∀i,i<k->C i≠HN)(N:∀i,i<k->C i≠EK)(U:∀i,i<k->¬WY (C i))(W:∀i j,i<k->j<k->C i=C j->i=j):GO ((zAU k).map λi=>tx (C i)):=by
 refine[by rw[zAb,zBl];exact S,?_,λz F=>?_,λz F h=>?_,λz F h=>?_]
 .rw[List.nodup_iff_pairwise_ne,List.pairwise_map]
  refine List.Pairwise.imp_of_mem (R:=λa b=>a≠b) (λ{i j} P H n e=>n ?_) (List.nodup_iff_pairwise_ne.mp List.nodup_range);exact W i j (zBs.mp P) (zBs.mp H) (NS e)
 .let[i,P,rfl]:=zAv.mp F
  let L:=zBs.mp P;let n:=nm i L;refine[mV n,by rw[Dg];exact n.1.2,λh=>?_];let Q:tx (C i)=O "self":=h;rw[ET]at Q;exact ns i L (NS Q)
 .let[i,P,rfl]:=zAv.mp F
  let Q:tx (C i)=O "acme":=h;rw[QS]at Q;exact N i (zBs.mp P) (NS Q)
 .let[i,P,rfl]:=zAv.mp F
  exact U i (zBs.mp P) h
def Yn(c k:Nat):List Nat:=zAe (k+1) c
def LK(c m:Nat):(zAe m #[c]).flatten=zAe m c:=by
 induction m with
 |zero=>rfl
 |succ m C=>rw[zAN,zBf,C,zAN];rfl
def aQ{c k:Nat}(z:WY (Yn c k)):False:=by
 let[F,L,_,C]:=z;unfold Yn at F L C;rw[zCr]at F L C
 split at F<;>split at L<;>simp at F L
 subst F;rw[mS Z]at C;exact C I
def EC{c k:Nat}(C:Kh c)(U:k<=8):GO ((zAU k).map λi=>tx (Yn c i)):=by
 refine MI (Yn c) U (λi P=>[by unfold Yn;rw[zAC];lia,λd L=>?_]) (λi P z=>?_) (λi P z=>?_) (λi P z=>aQ z) (λi j P H e=>?_)
 .rw[zAK L]
  exact C
 .unfold Yn at z
  let Q:(115:Nat)∈zAe (i+1) c:=by rw[z];decide
  let F:(101:Nat)∈zAe (i+1) c:=by rw[z];decide
  let S:=zAK Q;let N:=zAK F
  lia
 .unfold Yn at z
  let Q:(97:Nat)∈zAe (i+1) c:=by rw[z];decide
  let F:(99:Nat)∈zAe (i+1) c:=by rw[z];decide
  let S:=zAK Q;let N:=zAK F
  lia
 .have:=nI oJ e
  unfold Yn at this;rw[zAC,zAC]at this
  lia
def DX(m:Int)(a k j:Nat):Nat:=MX (m+(j:Int)*j+(k:Int)*(if j=a then 1 else 0))
def BG(m:Int)(a n k:Nat):List Nat:=(zAU n).map (DX m a k)
def CF(m:Int)(a n k:Nat):(BG m a n k).length=n:=by unfold BG;rw[zAb,zBl]
def HQ{m:Int}{a n i:Nat}(H:a<n):BG m a n i≠EK:=λe=>by
 let P:n=4:=by rw[<- CF m a n i,e];rfl
 subst P;let z:∀j,j<4->g (DX m a i j)=EK[j]?:=λj C=>by
  let:=nI (λl=>l[j]?) e;unfold BG at this
  simpa only[zAt,sQ C,yU]using this
 let S:DX m a i 0=97:=mI (z 0 Y);let L:DX m a i 1=99:=mI (z 1 Y);let F:DX m a i 2=109:=mI (z 2 Y);let N:DX m a i 3=101:=mI (z 3 Y);unfold DX MX at S L F N;let U:a=0\/a=1\/a=2\/a=3:=by lia
 rcases U with rfl|rfl|rfl|rfl<;>simp at S L F N<;>lia
def aH{m:Int}{a n i:Nat}(z:WY (BG m a n i)):False:=by
 let[P,R,Q,_]:=z;let F:∀{j:Nat},(BG m a n i)[j]?=g 120->DX m a i j=120:=λ{j} h=>by
  unfold BG at h;rw[zAt]at h;let[y,H,e]:=zAI.mp h;let[W,L]:=zAs.mp H;rw[List.getElem_range]at L;rw[L];exact e
 let N:=F P;let L:=F R;let S:=F Q;unfold DX MX at N L S;by_cases C:0=a
 .subst C
  simp at L S;omega
 by_cases U:2=a
 .subst U
  simp at N S;omega
 rw[mK C]at N;rw[mK U]at L;simp at N L;omega
def OP{m:Int}{a n k:Nat}(z:a<n)(S:n<=8)(L:k<=8)(h:∀i,i<k->BG m a n i≠HN):GO ((zAU k).map λi=>tx (BG m a n i)):=by
 refine MI (BG m a n) L (λi N=>[by rw[CF];lia,λc F=>?_]) h (λi N=>HQ z) (λi N=>aH) (λi j N C e=>?_)
 .unfold BG at F
  let[j,_,rfl]:=zAv.mp F;exact Ws _
 .have e:=nI (λl=>l[a]?) e
  unfold BG at e;simp only[zAt,sQ z,yU,vY]at e;unfold DX MX at e;simp only[rY]at e;generalize m+(a:Int)*a=v at e;let U:0<=(v+(i:Int)*1)%26:=pW _ Y;let H:0<=(v+(j:Int)*1)%26:=pW _ Y
  lia
def kI{z:J}{l:List J}:Wb (.str z) (l.map V.str)=B↔z∈l:=by
 unfold Wb;rw[rL,zA];constructor
 .rintro ⟨y,L,e⟩
  let F:Px (.str y) (.str z)=B:=e;let:y=z:=by simpa[Px]using F
  rw[<- this];exact L
 .intro h
  exact[z,h,by show Px (.str z) (.str z)=B;simp[Px]]
inductive S6  (vs:List V)(H:Hp)(Q:VK):Prop
 |mk (c k:Int) (z0:vs=#[.int c,.int k]) (z1:0<=c) (z2:0<=k) (z3:k<=8) (z4:∀r ns H',Ae H H'->H r=M->H' r=g (.lst (ns.map V.str))->GO ns->(ns.length:Int)=k->Q (.ref r) H'):S6  vs H Q
def QD:Sp:=λC H Q x=>S6  C H Q
section
seal L2.PS L2.PSs L2.PE L2.PA
variable {P:mF} {w:mR} {K:zAa} {mg:J->Option lV} {base:mX}
def Kt(X:Pm P w K mg base):Jc X 1 "_law_names" #["_law_cell_here","_law_many"] QD:=Os X.z X.pb #["_law_cell_here","_law_many","_law_letters","_law_size","_law_at","_law_first","_law_names_here","_law_k","_law_name","_law_j"] df λb H Q hr h=>by
 let[c,k,rfl,c0,k1,k8,q]:=h;refine[_,(Ab (C8 (i:=2) b.nd I (Or.inr I) Aj)
   (Ab (Fk b 3 (Au Ea Ah (Au Dk (pv 0) Ah)))
   (Ab (Fk b 4 (Au Dk (Au Dt (pv 0) Ah) (pv 3)))
   (Ab (C8 (i:=5) b.nd I (Or.inr I) (Au Dt (pv 0) Ah))
   (Ab (Ce (Ax Dv (Au Dk (Au Dt (pv 0) Ah) Ah) Ah (Bf _))
    (Ac (Ay (Hv (NC:=#["_law_k","_law_letters","_law_first"]) (own:=#["_law_k"]) (cs:=#["_law_letters","_law_first"]) (ix:=#[2,5]) I (Az.of I) I [[I,.inl I,I],[[I,.inl I,I],trivial]] (Gb I (X.z.nn X.ay) (Cf (pv 1))) (λ_ _ _=>(Xa 0)) (λ_ _ _=>Fh) (λ_ _ _=>(Au Iq (Cr AE (pv 1) (Au Dk (pv 2) Ah) (λ_ _=>I)) (Au Ea (pv 0) Ah))))))
    Be)
   (Ab (Fk b 6 (Ca Iw))
   (Ab (Gc nK I (Gb I (X.z.nn X.ay) (Cf (pv 1))) (Ot b 7)
    (Ab (Fk b 8 Aj)
   (Ab (Gc nK I (Gb I (X.z.nn X.ay) (Cf (pv 3))) (Ot b 9)
    (Ac (Fk b 8 (Au Bm (pv 8) (Cr AE (pv 2) (Au Dk (Au Ea (Au Ea (pv 5) (Au Jq (pv 9) (pv 9))) (Au Jq (pv 7) (Dq FQ I (X.z.nn X.dk) (show zCz _=g (.type "int") from rfl) (Cf (Nr Dv (pv 9) (pv 4) (Bf _)))))) Ah) (λ_ _=>I))))))
   (Ac (Ct (Fg mJ mM mL Dx (pv 6) (Cf (pv 8))))))))
   (Ab (Ce (Ax Ng Aj (pv 6) I)
    (Ac (Ay (Hv (NC:=#["_law_k"]) (own:=#["_law_k"]) (cs:=[]) (ix:=[]) I (Az.of I) I trivial (Gb I (X.z.nn X.ay) (Cf (pv 1))) (λ_ _ _=>(Xa 0)) (λ_ _ _=>Fh) (λ_ _ _=>(Au Iq Aj (Au Ea (pv 0) Ah))))))
    Be)
   (Ac (Ay (pv 6))))))))))),?_]
 refine Je λN F=>?_;let m0:0<=c%8:=pW _ Y;let m8:c%8<8:=qT _ Y;subst F;refine[_,I,_,_,I,I,(by show(0:Int)<8;decide),_,_,I,I,?_];refine Ux 1 8 [Z,Z] λsz z1 z8=>?_;let[n,rfl]:=nJ (show 0<=sz by lia);refine[_,I,_,_,I,I,[Y,Y],_,I,_,_,I,I,(by show(0:Int)<(n:Int);lia),?_];refine Ux 0 ((n:Int)-1) (md Z) λad at0 ac=>?_;let[a,rfl]:=nJ at0;let ha:a<n:=by lia
 refine[_,I,_,_,I,I,[Y,Y],?_];refine Ic #[g (.int c),g (.int k),g (.str "abcdefghijklmnopqrstuvwxyz"),g (.int n),g (.int a),g (.int (c/320)),M,M,M,M] rfl ?_;refine Je λN F=>?_;generalize c/320=m;refine Fn F λN F=>?_;refine[_,I,_,_,I,I,[Y,Y],_,_,I,I,(by show(0:Int)<5;decide),I,_,I,?_];by_cases c5:c/64%5=1
 ·
  refine dT (nI V.int c5) [_,I,_,I,Z,Z,λr S=>?_];refine Ro (lo:=0) (n:=k.toNat) (λi A C=>A=((zAU i).map λi=>tx (Yn (MX m) i)).map V.str/\C r=g (.lst A)/\Ae H C) [I,Aa,Ad S _]
   (λi A C _ ⟨e,E,_⟩=>[E,by rw[e,zAb,zAb,zBl];exact zAm _]) (by rw[zCy];lia) (λi A C s ⟨e,E,p⟩=>?_) (λA C ⟨e,E,p⟩=>?_)
  .refine[_,I,_,I,_,_,I,I,(by show(0:Int)<26;decide),_,_,_,I,I,BK,JQ _,_,I,_,_,I,I,#[MX m],_,I,I,Z,Z,(show 1<=1000 from by lk),E,I,?_,Aa,λx o z=>?_]
   .rw[e,LK,show(0+(i:Int)+1).toNat=i+1 by lia,zCn,zAf,zAf]
    rfl
   .rw[Ak (Ai z S)]
    exact p x o z
  subst e;exact q r _ C p S E (EC (Ws m) Z) (by rw[zAb,zBl];lia)
 refine dF (λz=>c5 (V.int.inj z)) ?_;refine Fn F λN F=>?_;refine[zAy _,λr S=>?_];refine Fn F λN F=>?_;let p:=Ad S (.lst []);refine[_,I,_,I,Z,Z,?_];refine Kj (lo:=0) (n:=k.toNat)
  (λi f d=>(∃v t U:Option V,f=#[g (.int c),g (.int k),g (.str "abcdefghijklmnopqrstuvwxyz"),g (.int n),g (.int a),g (.int m),g (.ref r),v,t,U])/\d r=g (.lst (((zAU i).map λi=>tx (BG m a n i)).map V.str))/\Ae H d)
  [[M,M,M,I],Aa,p] ?_ ?_
 .rintro i f d s ⟨⟨v,t,U,rfl⟩,W,l⟩
  let i8:i<8:=by lia
  rw[show(0+(i:Int))=(i:Int) by lia];refine[_,I,_,I,Z,Z,?_];refine Kj (lo:=0) (n:=(n:Int).toNat) (λj f L=>(∃U,f=#[g (.int c),g (.int k),g (.str "abcdefghijklmnopqrstuvwxyz"),g (.int n),g (.int a),g (.int m),g (.ref r),g (.int i),g (.str (tx ((zAU j).map (DX m a i)))),U])/\L=d) [[U,I],I] ?_ ?_
  .rintro j f L hj ⟨⟨aa,rfl⟩,rfl⟩
   let ab:j<n:=by lia
   rw[show(0+(j:Int))=(j:Int) by lia];refine[_,I,_,I,_,I,_,I,_,I,_,_,I,I,.inl [Z,Z],_,_,I,I,_,I,_,I,_,I,I,.inr [_,I,_,_,I,I,.inl [Z,Z],_,_,I,I,_,_,I,I,(by show(0:Int)<26;decide),_,_,_,I,I,BK,JQ _,_,_,I,I,?_,[g (.int j),?_],I]]
   .rw[Dg,zAb,zBl,zCy]
    show j+1<=_
    lia
   .have e1:(if decide (V.int (j:Int)=V.int (a:Int))=B then(1:Int) else 0)=if j=a then 1 else 0:=by
     by_cases z:j=a
     .rw[mS z,mS (mV (by rw[z]))]
     .rw[mK z,mK (λy=>z (by let:=V.int.inj (mU y);lia))]
    let e2:tx ((zAU j).map (DX m a i))++([#v[MX (m+(j:Int)*j+(i:Int)*(if decide (V.int (j:Int)=V.int (a:Int))=B then(1:Int) else 0))]]:J)=tx ((zAU (j+1)).map (DX m a i)):=by
     rw[e1,zCn,zAf];exact En _ #[_]
    exact nI (λz=>#[g (V.int c),g (V.int k),g (V.str "abcdefghijklmnopqrstuvwxyz"),g (V.int n),g (V.int a),g (V.int m),g (V.ref r),g (V.int i),g (V.str z),g (V.int j)]) e2
  .rintro f L ⟨⟨aa,rfl⟩,rfl⟩
   let el:(zAU (n:Int).toNat).map (DX m a i)=BG m a n i:=by rw[zB];rfl
   rw[el];refine[_,I,.inl [I,_,Al.of W],_,I,r,_,_,I,I,W,?_,[_,_,_,I],?_,λx o z=>?_]
   .rw[zAb,zAb,zBl,zCy]
    lia
   .rw[Aa,zCn,zAf,zAf]
    rfl
   .rw[Ak (Ai z S)]
    exact l x o z
 .rintro f d ⟨⟨v,t,U,rfl⟩,W,l⟩
  refine Fn F λN F=>?_;refine[_,I,r,_,I,.inl (Al.of W),I,Ll _,_,I,?_];by_cases cs:(O "self")∈(zAU k.toNat).map λi=>tx (BG m a n i)
  .refine bT (kI.mpr cs) [_,I,_,I,Z,Z,λr2 R=>?_]
   refine Ro (lo:=0) (n:=k.toNat) (λi A L=>A=((zAU i).map λi=>tx (Yn 113 i)).map V.str/\L r2=g (.lst A)/\Ae d L) [I,Aa,Ad R _]
    (λi A L _ ⟨e,E,_⟩=>[E,by rw[e,zAb,zAb,zBl];exact zAm _]) (by rw[zCy];lia) (λi A L s ⟨e,E,u⟩=>?_) (λA L ⟨e,E,u⟩=>?_)
   .refine[_,I,_,_,I,I,#[113],_,nI V.str gF,I,Z,Z,(show 1<=1000 from by lk),E,I,?_,Aa,λx o z=>?_]
    .rw[e,LK,show(0+(i:Int)+1).toNat=i+1 by lia,zCn,zAf,zAf]
     rfl
    .rw[Ak (Ai z R)]
     exact u x o z
   subst e;exact q r2 _ L (l.trans u) (l.free R) E (EC (by unfold Kh;decide) Z) (by rw[zAb,zBl];lia)
  .subst F
   refine bF (zCa.mpr λz=>cs (kI.mp z)) [_,I,?_];subst F;refine q r _ d l S W (OP ha Z Z λi s e=>cs ?_) (by rw[zAb,zBl];lia);refine zAv.mpr [i,zBs.mpr s,?_];rw[e,<- ET]
end
inductive B3  (vs:List V)(H:Hp)(Q:VK):Prop
 |mk (c:Int) (z0:vs=#[.int c]) (z1:∀r:Int,0<=r->r<=2147483646->Q (.int r) H):B3  vs H Q
def IN:Sp:=λC H Q x=>B3  C H Q
section
variable {P:mF} {w:mR} {K:zAa} {mg:J->Option lV} {base:mX}
def Gj(C:Pm P w K mg base):Jc C 1 "_law_spread" #["_law_cell_here"] IN:=Os C.z C.nq #["_law_cell_here"] df λN H Q L h=>by
 let[c,rfl,q]:=h;refine[_,(Ac (Ay (Au Dk (Au Jq (pv 0) Ah) Ah))),?_];refine[_,I,_,_,I,I,.inr [Y,Y],_,_,I,I,(by show(0:Int)<2147483647;decide),?_];let b:=md (a:=c*48271) (b:=2147483647) Y;exact q _ b.1 (by let:=b.2;lia)
end
def Up(u:Int):Prop:=1<=u/\u<=10000000019
inductive NT  (vs:List V)(H:Hp)(Q:VK):Prop
 |mk (d u:Int) (z0:vs=#[.int d,.int u]) (z1:0<=d) (z2:Up u) (z3:∀m:Int,0<=m->m<=120000000230->Q (.int m) H):NT  vs H Q
def ZH:Sp:=λC H Q x=>NT  C H Q
inductive EX(K:zAa)(vs:List V)(H:Hp)(Q:VK):Prop
 |mk (a:_) (ns:_) (z0:vs=#[.ref a]) (z1:Al K H a (oA V.int ns)) (z2:ns.length<=63) (z3:∀u H',Ae H H'->Up u->Q (.int u) H'):EX K vs H Q
def XI(K:zAa):Sp:=λC H Q x=>EX K C H Q
def e10:(10:Int)^(10:Int).toNat=10000000000:=by ac_nf
section
seal L2.PS L2.PSs L2.PE L2.PA
variable {P:mF} {w:mR} {K:zAa} {mg:J->Option lV} {base:mX} (c:Pm P w K mg base)
def Np:Jc c 1 "_law_amount" #["_law_digit","_law_unit_here"] ZH:=Os c.z c.o5 #["_law_digit","_law_unit_here"] df λW H Q R h=>by
 let[d,u,rfl,S,[L,F],q]:=h;refine[_,(Ac (Ay (Au Ea (Au Jq (Au Dk (pv 0) Ah) (pv 1)) (Au Dk (Au Dt (pv 0) Ah) Ah)))),?_];refine[_,I,_,_,I,I,(by show(0:Int)<13;decide),_,I,_,_,I,I,.inr [Z,Z],_,I,_,_,I,I,[Y,Y],_,_,I,I,(by show(0:Int)<3;decide),_,_,I,I,?_];let z:=md (a:=d) (b:=13) Y;let C:=md (a:=d/13) (b:=3) Y;let N:0<=d%13*u:=Int.mul_nonneg z.1 Z;let U:d%13*u<=12*10000000019:=Int.mul_le_mul Z F Z Y;exact q _ Z Z
def X8:Jc c 2 "_law_unit" #["_law_script"] (XI K):=Os c.z c.qe #["_law_script"] df λd H Q N h=>by
 let[a,X,rfl,E,L,q]:=h;refine[_,(Ac (Ay (Cr By (Ca (Aw Ah (Aw Ah (Aw Ah (Dy Ah (Au Ea (Au VC Ah Ah) Ah)))))) (Au Dk (Gg (Gj c) N (Cf (Gg (Gi c) N (Dy (pv 0) Ah)))) Ah) (λx x=>I)))),?_];refine[_,_,I,I,[Y,Y,Y],_,_,I,I,Ck (by show 5<=1000;decide),λl A=>?_];let R:=Ad A (.lst #[V.int 1,.int 1,.int 97,.int 1000,.int ((10:Int)^(10:Int).toNat+19)]);refine[_,I,a,X,0,I,R.seq E,Z,L,_,I,λr F S=>[_,_,I,I,(by show(0:Int)<5;decide),?_]];let m:=md (a:=r) (b:=5) Y;let C:r%5=0\/r%5=1\/r%5=2\/r%5=3\/r%5=4:=by lia
 obtain⟨u,W,U⟩:∃u:Int,Ob #[V.int 1,.int 1,.int 97,.int 1000,.int ((10:Int)^(10:Int).toNat+19)] (r%5)=g (.int u)/\Up u:=by
  rcases C with e|e|e|e|e<;>rw[e]
  .exact[1,I,Y,Y]
  .exact[1,I,Y,Y]
  .exact[97,I,Y,Y]
  .exact[1000,I,Y,Y]
  .exact[(10:Int)^(10:Int).toNat+19,I,by rw[e10];decide,by rw[e10];decide]
 exact[_,_,_,_,I,I,Al.of Aa,W,q u _ R U]
end
abbrev cY:=J×J×Int×Int
def aY(r:cY):List V:=#[.str r.1,.str r.2.1,.int r.2.2.1,.int r.2.2.2]
def dI(r:cY):Prop:=(r.1="own" \/ r.1="layer" \/ r.1="limit")/\Gz r.2.1/\(0<=r.2.2.1/\r.2.2.1<=120000000230)/\(r.1="layer"->r.2.2.1<r.2.2.2/\r.2.2.2<=240000000461)
def DH(r:cY):Cl:=if r.1="own" then .own r.2.1 r.2.2.1 else if r.1="layer" then .lay r.2.1 r.2.2.1 r.2.2.2 else .lim r.2.1 r.2.2.1
inductive UB  (vs:List V)(H:Hp)(Q:VK):Prop
 |mk (c u:Int) (z0:vs=#[.int c,.int u]) (z1:0<=c) (z2:Up u) (z3:∀t r H',Ae H H'->H t=M->H' t=g (.tup (aY r))->dI r->Q (.ref t) H'):UB  vs H Q
def gR:Sp:=λC H Q x=>UB  C H Q
section
seal L2.PS L2.PSs L2.PE L2.PA
variable {P:mF} {w:mR} {K:zAa} {mg:J->Option lV} {base:mX}
def Rc(C:Pm P w K mg base):Jc C 2 "_law_drawn_clause" #["_law_cell_here","_law_unit_here"] gR:=Os C.z C.ja #["_law_cell_here","_law_unit_here","_law_by","_law_low","_law_way"] df λX H Q d h=>by
 let[c,u,rfl,i,S,q]:=h;refine[_,(Ab (Fk X 2 (Cr By (Ca (Aw Aj (Aw Aj (Dy Aj Aj)))) (Au Dk (pv 0) Ah) (λ_ _=>I)))
   (Ab (Fk X 3 (Gg (Np C) d (Dy (Au Dk (Au Dt (pv 0) Ah) Ah) (pv 1))))
   (Ab (Fk X 4 (Au Dk (Au Dt (pv 0) Ah) Ah))
   (Ab (Ce (Ax Mm (pv 4) Ah (Bf _))
    (Ac (Ay (Du (Aw Aj (Aw (pv 2) (Dy (Au Dt (pv 3) Ah) Ah))))))
    Be)
   (Ab (Ce (Ax Dv (pv 4) Ah (Bf _))
    (Ac (Ay (Du (Aw Aj (Aw (pv 2) (Dy (pv 3) (Au Ea (Au Ea (pv 3) Ah) (Gg (Np C) d (Dy (Au Dk (Au Dt (pv 0) Ah) Ah) (pv 1))))))))))
    Be)
   (Ac (Ay (Du (Aw Aj (Aw (pv 2) (Dy (pv 3) Ah))))))))))),?_]
 let L:4<=sizeLine:=by rw[zCy];decide
 refine[L,λl n=>?_];let m4:=md (a:=c) (b:=4) Y;let p:c%4=0\/c%4=1\/c%4=2\/c%4=3:=by lia
 obtain⟨y,s,F⟩:∃y:J,Ob #[V.str "event",.str "thing",.str "year",.str "loss"] (c%4)=g (.str y)/\Gz y:=by
  rcases p with e|e|e|e<;>rw[e]
  .exact[_,I,.inl I]
  .exact[_,I,.inr (.inl I)]
  .exact[_,I,.inr (.inr (.inl I))]
  .exact[_,I,.inr (.inr (.inr I))]
 refine[_,I,_,_,I,I,(by show(0:Int)<4;decide),_,_,_,_,I,I,Al.of Aa,s,?_];let R:=Ad n (.lst #[V.str "event",.str "thing",.str "year",.str "loss"]);refine Ic #[g (.int c),g (.int u),g (.str y),M,M] rfl ?_;let A:=md (a:=c/20) (b:=39) Y;refine[_,I,_,_,I,I,[Y,Y],_,_,I,I,(by show(0:Int)<39;decide),_,I,_,u,I,A.1,S,λm o f=>?_];refine Ic #[g (.int c),g (.int u),g (.str y),g (.int m),M] rfl ?_;refine[_,I,_,_,I,I,[Y,Y],_,_,I,I,(by show(0:Int)<5;decide),?_];refine Ux 0 4 (md Y) λU x w4=>?_;refine[_,I,_,_,I,I,_,I,?_];by_cases j:U<2
 .refine dT j [_,I,_,I,_,_,I,I,[Y,Y],L,λt N=>?_]
  exact q t ("own",y,m/2,0) _ (R.trans (Ad N _)) (R.free N) Aa [.inl I,F,[by show 0<=m/2;lia,by show m/2<=_;lia],λz=>mC (show O "own"=O "layer" from z) G]
 refine dF j [_,I,I,_,I,?_];by_cases k:U=2
 .have E:=md (a:=c/780) (b:=39) Y
  refine dT (nI V.int k) [_,I,_,I,_,I,_,_,I,I,_,I,_,_,I,I,[Y,Y],_,_,I,I,(by show(0:Int)<39;decide),_,I,_,u,I,E.1,S,λW r v=>[_,_,I,I,L,λt N=>?_]];exact q t ("layer",y,m,m+1+W) _ (R.trans (Ad N _)) (R.free N) Aa [.inr (.inl I),F,[o,f],λ_=>[by show m<m+1+W;lia,by show m+1+W<=_;lia]]
 .refine dF (λe=>k (V.int.inj e)) [_,I,_,I,L,λt N=>?_]
  exact q t ("limit",y,m,0) _ (R.trans (Ad N _)) (R.free N) Aa [.inr (.inr I),F,[o,f],λz=>mC (show O "limit"=O "layer" from z) G]
end
def Ms{t:Ev}(h:Fd Ej t)(C:Fi t<=60)(F:Dz t<=6)(z:Mx t<66):Mi (.when t):=by
 refine[h,?_,F,z];let:=Pw (wc:=Bb) (λc x=>Xv c) t h
 lia
inductive BL  (vs:List V)(H:Hp)(Q:VK):Prop
 |mk (c u:Int) (th:_) (ca:_) (B C:List J) (z0:vs=#[.int c,.ref th,.ref ca,.int u]) (z1:0<=c) (z2:Up u) (z3:H th=g (.lst (B.map V.str))) (z4:H ca=g (.lst (C.map V.str))) (z5:B.length=3) (z6:C.length=3) (z7:(∀z∈B,N6 z)) (z8:(∀z∈C,N6 z)) (z9:∀v t H',Ae H H'->Bi (Nw H H') v t->Mi (.when t)->Mx t<5->Q v H'):BL  vs H Q
def VW:Sp:=λC H Q x=>BL  C H Q
def IW{ns:List J}{i:Int}(F:0<=i)(h:i<ns.length):∃z,z∈ns/\Ob (ns.map V.str) i=g (.str z):=by
 let[j,rfl]:=nJ F;let L:j<ns.length:=by lia
 refine[ns[j],zBp _,Gk ?_];rw[zAt,zAi L];rfl
def eC{H:Hp}{v:V}{t:Ev}(h:Bi H v t):TrsAt H #[v] #[t]:=by unfold TrsAt;exact[h,by unfold TrsAt;trivial]
def AI{H:Hp}{v u:V}{t s:Ev}(h:Bi H v t)(C:Bi H u s):TrsAt H #[v,u] #[t,s]:=by unfold TrsAt;exact[h,eC C]
def dU{H:Hp}{v u x:V}{t s r:Ev}(h:Bi H v t)(C:Bi H u s)(k:Bi H x r):TrsAt H #[v,u,x] #[t,s,r]:=by unfold TrsAt;exact[h,AI C k]
def I0{t:Ev}(h:Fd Ej t):Fd Ej (.no t):=by unfold Fd;exact h
def We{t s:Ev}(h:Fd Ej t)(C:Fd Ej s):Fd Ej (.al #[t,s]):=by unfold Fd;exact[zZ,zZ,Pz λx z=>by simp at z;rcases z with rfl|rfl<;>assumption]
def CY{t s:Ev}(h:Fd Ej t)(C:Fd Ej s):Fd Ej (.so #[t,s]):=by unfold Fd;exact[zZ,zZ,Pz λx z=>by simp at z;rcases z with rfl|rfl<;>assumption]
def OM{t s r:Ev}(h:Fd Ej t)(C:Fd Ej s)(k:Fd Ej r):Fd Ej (.so #[t,s,r]):=by unfold Fd;exact[zZ,zZ,Pz λx z=>by simp at z;rcases z with rfl|rfl|rfl<;>assumption]
section
seal L2.PS L2.PSs L2.PE L2.PA
variable {P:mF} {w:mR} {K:zAa} {mg:J->Option lV} {base:mX}
def AO(A:Pm P w K mg base):Jc A 2 "_law_cond" #["_law_cell_here","_law_things","_law_causes","_law_unit_here"] VW:=Os A.z A.qf #["_law_cell_here","_law_things","_law_causes","_law_unit_here","_law_cause","_law_thing","_law_over","_law_first","_law_days","_law_some"] df λsc H Q hr h=>by
 let[c,u,th,ca,W,C,rfl,c0,uo,ft,fy,lB,lC,nB,nC,q]:=h;refine[_,(Ab (Fk sc 4 (Du (Dy Aj (Cr By (pv 2) (Au Dk (Au Dt (pv 0) Ah) Ah) (λ_ _=>I)))))
   (Ab (Fk sc 5 (Du (Dy Aj (Cr By (pv 1) (Au Dk (Au Dt (pv 0) Ah) Ah) (λ_ _=>I)))))
   (Ab (Fk sc 6 (Du (Dy Aj (Gg (Np A) hr (Dy (Au Dk (Au Dt (pv 0) Ah) Ah) (pv 3))))))
   (Ab (Fk sc 7 (Au Ea (Au Jq Ah (Au Dk (Au Dt (pv 0) Ah) Ah)) (Au Dk (Au Dt (pv 0) Ah) Ah)))
   (Ab (Fk sc 8 (Du (Aw Aj (Dy (pv 7) (Au Ea (pv 7) (Au Dk (Au Dt (pv 0) Ah) Ah))))))
   (Ab (Fk sc 9 (Ca (Aw (pv 4) (Aw (pv 5) (Aw (pv 6) (Aw (pv 8) (Aw (Du (Dy Aj (pv 4))) (Dy (Du (Dy Aj (Ca (Dy (Du (Dy Aj (pv 6))) (pv 5))))) (Du (Dy Aj (Ca (Aw (pv 4) (Dy (pv 5) (pv 6))))))))))))))
   (Ab (Ct (Fg mJ mM mL Dx (pv 9) (Cf (Du (Dy Aj (Ca (Dy (Du (Dy Aj (Ca (Dy (pv 4) (pv 5))))) (Du (Dy Aj (Du (Dy Aj (Ca (Dy (pv 6) (pv 5))))))))))))))
   (Ab (Ct (Fg mJ mM mL Dx (pv 9) (Cf (Du (Dy Aj (Du (Dy Aj (Ca (Dy (pv 8) (Du (Dy Aj (Ca (Dy (pv 4) (pv 5))))))))))))))
   (Ab (Ce (Ax Tq (Au Dk (pv 0) Ah) Ah (Bf _))
    (Ac (Ay (Cr By (pv 9) (Au K6 (Au Dk (pv 0) Ah) Ah) (λ_ _=>I))))
    Be)
   (Ac (Ay (Du (Cf Aj))))))))))))),?_]
 refine Je λN v=>?_;let U:2<=sizeLine:=by rw[zCy];decide
 let as:3<=sizeLine:=by rw[zCy];decide
 let cn:7<=sizeLine:=by rw[zCy];decide
 let g4:1<=sizeLine:=by rw[zCy];decide
 let[n,i1,x1]:=IW (ns:=C) (i:=c/12%3) Z Z;let[s,i2,x2]:=IW (ns:=W) (i:=c/36%3) Z Z;let o1:=nC n i1;let o2:=nB s i2;let a0:Ae H H:=Ae.refl _;refine[_,I,_,I,_,_,I,I,[Y,Y],_,_,I,I,(by show(0:Int)<3;decide),_,_,_,_,I,I,Al.of fy,x1,U,λL d9=>?_];let s1:=Ad d9 (.tup #[V.str "cause",.str n]);let ct:upd H L (.tup #[V.str "cause",.str n]) L=g (.tup #[V.str "cause",.str n]):=Aa;let ga:H L=M:=a0.free d9;let a1:=a0.trans s1;generalize upd H L (.tup #[V.str "cause",.str n])=H1 at s1 ct a1;refine W9 v #[g (.int c),g (.ref th),g (.ref ca),g (.int u),g (.ref L),M,M,M,M,M] rfl λN v=>?_;refine[_,I,_,I,_,_,I,I,[Y,Y],_,_,I,I,(by show(0:Int)<3;decide),_,_,_,_,I,I,Al.of (a1 _ _ ft),x2,U,λF dy=>?_];let s2:=Ad dy (.tup #[V.str "thing",.str s]);let b7:upd H1 F (.tup #[V.str "thing",.str s]) F=g (.tup #[V.str "thing",.str s]):=Aa;let f2:H F=M:=a1.free dy;let a2:=a1.trans s2;generalize upd H1 F (.tup #[V.str "thing",.str s])=H2 at s2 b7 a2;refine W9 v #[g (.int c),g (.ref th),g (.ref ca),g (.int u),g (.ref L),g (.ref F),M,M,M,M] rfl λN v=>?_;let fu:=md (a:=c/108) (b:=39) Y;refine[_,I,_,_,I,I,[Y,Y],_,_,I,I,(by show(0:Int)<39;decide),_,I,_,u,I,fu.1,uo,λm m0 m1=>[U,λR fb=>?_]];let s3:=Ad fb (.tup #[V.str "over",.int m]);let cw:upd H2 R (.tup #[V.str "over",.int m]) R=g (.tup #[V.str "over",.int m]):=Aa
 let gy:H R=M:=a2.free fb;let a3:=a2.trans s3;generalize upd H2 R (.tup #[V.str "over",.int m])=H3 at s3 cw a3;refine W9 v #[g (.int c),g (.ref th),g (.ref ca),g (.int u),g (.ref L),g (.ref F),g (.ref R),M,M,M] rfl λN v=>?_;refine[_,I,_,_,I,I,[Y,Y],_,_,I,I,(by show(0:Int)<3;decide),_,_,I,I,.inl [Y,Y],_,I,_,_,I,I,[Y,Y],_,_,I,I,(by show(0:Int)<4;decide),_,_,I,I,?_];refine Ux 0 733 [Z,Z] λk f0 f1=>?_;let f5:=md (a:=c/50544) (b:=400) Y;refine W9 v #[g (.int c),g (.ref th),g (.ref ca),g (.int u),g (.ref L),g (.ref F),g (.ref R),g (.int k),M,M] rfl λN v=>?_;refine[_,I,_,I,_,I,_,_,I,I,[Y,Y],_,_,I,I,(by show(0:Int)<400;decide),_,_,I,I,as,λX cd=>?_];generalize c/50544%400=e4 at f5 cd;let s4:=Ad cd (.tup #[V.str "days",.int k,.int (k+e4)]);let db:upd H3 X (.tup #[V.str "days",.int k,.int (k+e4)]) X=g (.tup #[V.str "days",.int k,.int (k+e4)]):=Aa;let go:H X=M:=a3.free cd;let a4:=a3.trans s4;generalize upd H3 X (.tup #[V.str "days",.int k,.int (k+e4)])=H4 at s4 db a4;refine W9 v #[g (.int c),g (.ref th),g (.ref ca),g (.int u),g (.ref L),g (.ref F),g (.ref R),g (.int k),g (.ref X),M] rfl λN v=>?_;refine[_,I,_,I,_,I,_,I,_,I,U,λp e0=>?_];let s5:=Ad e0 (.tup #[V.str "not",.ref L]);let bw:upd H4 p (.tup #[V.str "not",.ref L]) p=g (.tup #[V.str "not",.ref L]):=Aa
 let gc:H p=M:=a4.free e0;let a5:=a4.trans s5;generalize upd H4 p (.tup #[V.str "not",.ref L])=H5 at s5 bw a5;refine[_,I,U,λt6 d4=>?_];let s6:=Ad d4 (.tup #[V.str "not",.ref R]);let b5:upd H5 t6 (.tup #[V.str "not",.ref R]) t6=g (.tup #[V.str "not",.ref R]):=Aa;let fg:H t6=M:=a5.free d4;let a6:=a5.trans s6;generalize upd H5 t6 (.tup #[V.str "not",.ref R])=H6 at s6 b5 a6;refine[_,I,U,λl2 ea=>?_];let s7:=Ad ea (.lst #[V.ref t6,.ref F]);let cq:upd H6 l2 (.lst #[V.ref t6,.ref F]) l2=g (.lst #[V.ref t6,.ref F]):=Aa;let gl:H l2=M:=a6.free ea;let a7:=a6.trans s7;generalize upd H6 l2 (.lst #[V.ref t6,.ref F])=H7 at s7 cq a7;refine[U,λl de=>?_];let s8:=Ad de (.tup #[V.str "all",.ref l2]);let cy:upd H7 l (.tup #[V.str "all",.ref l2]) l=g (.tup #[V.str "all",.ref l2]):=Aa;let fn:H l=M:=a7.free de;let a8:=a7.trans s8;generalize upd H7 l (.tup #[V.str "all",.ref l2])=H8 at s8 cy a8;refine[_,I,_,I,_,I,as,λl3 el=>?_];let s9:=Ad el (.lst #[V.ref L,.ref F,.ref R]);let b4:upd H8 l3 (.lst #[V.ref L,.ref F,.ref R]) l3=g (.lst #[V.ref L,.ref F,.ref R]):=Aa;let gz:H l3=M:=a8.free el;let a9:=a8.trans s9;generalize upd H8 l3 (.lst #[V.ref L,.ref F,.ref R])=H9 at s9 b4 a9;refine[U,λr ef=>?_];let af:=Ad ef (.tup #[V.str "some",.ref l3]);let ck:upd H9 r (.tup #[V.str "some",.ref l3]) r=g (.tup #[V.str "some",.ref l3]):=Aa;let fp:H r=M:=a9.free ef;let dd:=a9.trans af;generalize upd H9 r (.tup #[V.str "some",.ref l3])=b9 at af ck dd
 refine[cn,λj ae=>?_];let cg:=Ad ae (.lst #[V.ref L,.ref F,.ref R,.ref X,.ref p,.ref l,.ref r]);let f:upd b9 j (.lst #[V.ref L,.ref F,.ref R,.ref X,.ref p,.ref l,.ref r]) j=g (.lst #[V.ref L,.ref F,.ref R,.ref X,.ref p,.ref l,.ref r]):=Aa;let et:H j=M:=dd.free ae;let cj:=dd.trans cg;generalize upd b9 j (.lst #[V.ref L,.ref F,.ref R,.ref X,.ref p,.ref l,.ref r])=cm at cg f cj;refine W9 v #[g (.int c),g (.ref th),g (.ref ca),g (.int u),g (.ref L),g (.ref F),g (.ref R),g (.int k),g (.ref X),g (.ref j)] rfl λN v=>?_;refine[_,I,.inl [I,_,Al.of f],_,I,_,I,U,λl4 bh=>?_];let gr:=f;let bn:=Ad bh (.lst #[V.ref L,.ref F]);let eu:upd cm l4 (.lst #[V.ref L,.ref F]) l4=g (.lst #[V.ref L,.ref F]):=Aa;let gt:H l4=M:=cj.free bh;let cu:=cj.trans bn;generalize upd cm l4 (.lst #[V.ref L,.ref F])=da at bn eu cu;replace f:=bn _ _ f;refine[U,λt9 aw=>?_];let fe:=f;let bf:=Ad aw (.tup #[V.str "some",.ref l4]);let fa:upd da t9 (.tup #[V.str "some",.ref l4]) t9=g (.tup #[V.str "some",.ref l4]):=Aa;let fz:H t9=M:=cu.free aw;let b3:=cu.trans bf;generalize upd da t9 (.tup #[V.str "some",.ref l4])=b8 at bf fa b3;replace f:=bf _ _ f;refine[_,I,_,I,U,λl5 bl=>?_];let gm:=f;let ax:=Ad bl (.lst #[V.ref R,.ref F]);let e7:upd b8 l5 (.lst #[V.ref R,.ref F]) l5=g (.lst #[V.ref R,.ref F]):=Aa;let fq:H l5=M:=b3.free bl;let cz:=b3.trans ax;generalize upd b8 l5 (.lst #[V.ref R,.ref F])=cp at ax e7 cz
 replace f:=ax _ _ f;refine[U,λx an=>?_];let eg:=f;let bj:=Ad an (.tup #[V.str "all",.ref l5]);let bq:upd cp x (.tup #[V.str "all",.ref l5]) x=g (.tup #[V.str "all",.ref l5]):=Aa;let em:H x=M:=cz.free an;let dc:=cz.trans bj;generalize upd cp x (.tup #[V.str "all",.ref l5])=cv at bj bq dc;replace f:=bj _ _ f;refine[U,λad ak=>?_];let e3:=f;let be:=Ad ak (.tup #[V.str "not",.ref x]);let bv:upd cv ad (.tup #[V.str "not",.ref x]) ad=g (.tup #[V.str "not",.ref x]):=Aa;let ex:H ad=M:=dc.free ak;let ci:=dc.trans be;generalize upd cv ad (.tup #[V.str "not",.ref x])=b1 at be bv ci;replace f:=be _ _ f;refine[U,λl6 bb=>?_];let fx:=f;let bc:=Ad bb (.lst #[V.ref t9,.ref ad]);let eq:upd b1 l6 (.lst #[V.ref t9,.ref ad]) l6=g (.lst #[V.ref t9,.ref ad]):=Aa;let gx:H l6=M:=ci.free bb;let cx:=ci.trans bc;generalize upd b1 l6 (.lst #[V.ref t9,.ref ad])=b0 at bc eq cx;replace f:=bc _ _ f;refine[U,λS am=>?_];let d5:=f;let av:=Ad am (.tup #[V.str "all",.ref l6]);let br:upd b0 S (.tup #[V.str "all",.ref l6]) S=g (.tup #[V.str "all",.ref l6]):=Aa;let dn:H S=M:=cx.free am;let dh:=cx.trans av;generalize upd b0 S (.tup #[V.str "all",.ref l6])=aj at av br dh;replace f:=av _ _ f;refine[j,_,_,I,I,f,Ck (by show 8<=1000;decide),?_];let ew:Kb j aj (upd aj j (.lst #[V.ref L,.ref F,.ref R,.ref X,.ref p,.ref l,.ref r,.ref S])):=Kb.upd;let ah:upd aj j (.lst #[V.ref L,.ref F,.ref R,.ref X,.ref p,.ref l,.ref r,.ref S]) j=g (.lst #[V.ref L,.ref F,.ref R,.ref X,.ref p,.ref l,.ref r,.ref S]):=Aa
 let ch:Ae H (upd aj j (.lst #[V.ref L,.ref F,.ref R,.ref X,.ref p,.ref l,.ref r,.ref S])):=λb o e=>by rw[Ak (Ai e et)];exact dh _ _ e
 show N _ (upd aj j (.lst #[V.ref L,.ref F,.ref R,.ref X,.ref p,.ref l,.ref r,.ref S]));generalize upd aj j (.lst #[V.ref L,.ref F,.ref R,.ref X,.ref p,.ref l,.ref r,.ref S])=ce at ew ah ch;clear f;let f:=ah;clear ah;refine Fn v λN v=>?_;refine[_,I,.inl [I,_,Al.of f],_,I,_,I,_,I,U,λl7 bi=>?_];let fo:=f;let az:=Ad bi (.lst #[V.ref L,.ref F]);let d2:upd ce l7 (.lst #[V.ref L,.ref F]) l7=g (.lst #[V.ref L,.ref F]):=Aa;let gv:H l7=M:=ch.free bi;let bx:=ch.trans az;generalize upd ce l7 (.lst #[V.ref L,.ref F])=co at az d2 bx;replace f:=az _ _ f;refine[U,λac ap=>?_];let d6:=f;let au:=Ad ap (.tup #[V.str "all",.ref l7]);let bt:upd co ac (.tup #[V.str "all",.ref l7]) ac=g (.tup #[V.str "all",.ref l7]):=Aa;let ec:H ac=M:=bx.free ap;let cb:=bx.trans au;generalize upd co ac (.tup #[V.str "all",.ref l7])=b2 at au bt cb;replace f:=au _ _ f;refine[U,λl8 bo=>?_];let fh:=f;let ba:=Ad bo (.lst #[V.ref X,.ref ac]);let er:upd b2 l8 (.lst #[V.ref X,.ref ac]) l8=g (.lst #[V.ref X,.ref ac]):=Aa;let gw:H l8=M:=cb.free bo;let cf:=cb.trans ba;generalize upd b2 l8 (.lst #[V.ref X,.ref ac])=bz at ba er cf;replace f:=ba _ _ f;refine[U,λaa ao=>?_];let ez:=f;let bm:=Ad ao (.tup #[V.str "some",.ref l8]);let bp:upd bz aa (.tup #[V.str "some",.ref l8]) aa=g (.tup #[V.str "some",.ref l8]):=Aa;let e1:H aa=M:=cf.free ao;let cc:=cf.trans bm;generalize upd bz aa (.tup #[V.str "some",.ref l8])=cr at bm bp cc
 replace f:=bm _ _ f;refine[U,λE al=>?_];let ee:=f;let bg:=Ad al (.tup #[V.str "not",.ref aa]);let bu:upd cr E (.tup #[V.str "not",.ref aa]) E=g (.tup #[V.str "not",.ref aa]):=Aa;let d1:H E=M:=cc.free al;let ey:=cc.trans bg;generalize upd cr E (.tup #[V.str "not",.ref aa])=ai at bg bu ey;replace f:=bg _ _ f;refine[j,_,_,I,I,f,Ck (by show 9<=1000;decide),?_];let du:Kb j ai (upd ai j (.lst #[V.ref L,.ref F,.ref R,.ref X,.ref p,.ref l,.ref r,.ref S,.ref E])):=Kb.upd;let ah:upd ai j (.lst #[V.ref L,.ref F,.ref R,.ref X,.ref p,.ref l,.ref r,.ref S,.ref E]) j=g (.lst #[V.ref L,.ref F,.ref R,.ref X,.ref p,.ref l,.ref r,.ref S,.ref E]):=Aa;let ag:Ae H (upd ai j (.lst #[V.ref L,.ref F,.ref R,.ref X,.ref p,.ref l,.ref r,.ref S,.ref E])):=λb o e=>by rw[Ak (Ai e et)];exact ey _ _ e
 show N _ (upd ai j (.lst #[V.ref L,.ref F,.ref R,.ref X,.ref p,.ref l,.ref r,.ref S,.ref E]));generalize upd ai j (.lst #[V.ref L,.ref F,.ref R,.ref X,.ref p,.ref l,.ref r,.ref S,.ref E])=d at du ah ag;clear f;let f:=ah;clear ah;refine Fn v λN v=>?_;let fj:Kb j d d:=Kb.refl _ _;let dq:Kb j ai d:=du.trans fj;let dj:Kb j cr d:=(Kb.of bg).trans dq;let di:Kb j bz d:=(Kb.of bm).trans dj;let d7:Kb j b2 d:=(Kb.of ba).trans di;let d0:Kb j co d:=(Kb.of au).trans d7;let gf:Kb j ce d:=(Kb.of az).trans d0;let e5:Kb j aj d:=ew.trans gf;let e9:Kb j b0 d:=(Kb.of av).trans e5;let dr:Kb j b1 d:=(Kb.of bc).trans e9;let dm:Kb j cv d:=(Kb.of be).trans dr;let en:Kb j cp d:=(Kb.of bj).trans dm;let ed:Kb j b8 d:=(Kb.of ax).trans en;let d8:Kb j da d:=(Kb.of bf).trans ed;let ge:Kb j cm d:=(Kb.of bn).trans d8;let dt:Kb j b9 d:=(Kb.of cg).trans ge;let c9:Kb j H9 d:=(Kb.of af).trans dt;let c8:Kb j H8 d:=(Kb.of s9).trans c9;let c7:Kb j H7 d:=(Kb.of s8).trans c8;let c6:Kb j H6 d:=(Kb.of s7).trans c7;let c5:Kb j H5 d:=(Kb.of s6).trans c6;let c4:Kb j H4 d:=(Kb.of s5).trans c5;let c3:Kb j H3 d:=(Kb.of s4).trans c4;let c2:Kb j H2 d:=(Kb.of s3).trans c3;let c1:Kb j H1 d:=(Kb.of s2).trans c2;let c0:Kb j H d:=(Kb.of s1).trans c1;let fv:Nw H d L=g (.tup #[V.str "cause",.str n]):=Nw.of ga (c1 _ _ ct (Ai (af _ _ (s9 _ _ (s8 _ _ (s7 _ _ (s6 _ _ (s5 _ _ (s4 _ _ (s3 _ _ (s2 _ _ ct))))))))) ae))
 let fw:Nw H d F=g (.tup #[V.str "thing",.str s]):=Nw.of f2 (c2 _ _ b7 (Ai (af _ _ (s9 _ _ (s8 _ _ (s7 _ _ (s6 _ _ (s5 _ _ (s4 _ _ (s3 _ _ b7)))))))) ae));let fm:Nw H d R=g (.tup #[V.str "over",.int m]):=Nw.of gy (c3 _ _ cw (Ai (af _ _ (s9 _ _ (s8 _ _ (s7 _ _ (s6 _ _ (s5 _ _ (s4 _ _ cw))))))) ae));let gu:Nw H d X=g (.tup #[V.str "days",.int k,.int (k+e4)]):=Nw.of go (c4 _ _ db (Ai (af _ _ (s9 _ _ (s8 _ _ (s7 _ _ (s6 _ _ (s5 _ _ db)))))) ae));let gg:Nw H d p=g (.tup #[V.str "not",.ref L]):=Nw.of gc (c5 _ _ bw (Ai (af _ _ (s9 _ _ (s8 _ _ (s7 _ _ (s6 _ _ bw))))) ae));let f7:Nw H d t6=g (.tup #[V.str "not",.ref R]):=Nw.of fg (c6 _ _ b5 (Ai (af _ _ (s9 _ _ (s8 _ _ (s7 _ _ b5)))) ae));let gj:Nw H d l2=g (.lst #[V.ref t6,.ref F]):=Nw.of gl (c7 _ _ cq (Ai (af _ _ (s9 _ _ (s8 _ _ cq))) ae));let gk:Nw H d l=g (.tup #[V.str "all",.ref l2]):=Nw.of fn (c8 _ _ cy (Ai (af _ _ (s9 _ _ cy)) ae));let g1:Nw H d l3=g (.lst #[V.ref L,.ref F,.ref R]):=Nw.of gz (c9 _ _ b4 (Ai (af _ _ b4) ae));let f6:Nw H d r=g (.tup #[V.str "some",.ref l3]):=Nw.of fp (dt _ _ ck (Ai ck ae));let fl:l4≠j:=λz=>by rw[z]at bh;exact mC bh (λy=>by rw[gr]at y;cases y)
 let gn:Nw H d l4=g (.lst #[V.ref L,.ref F]):=Nw.of gt (d8 _ _ eu (λz=>fl z));let fr:t9≠j:=λz=>by rw[z]at aw;exact mC aw (λy=>by rw[fe]at y;cases y)
 let gb:Nw H d t9=g (.tup #[V.str "some",.ref l4]):=Nw.of fz (ed _ _ fa (λz=>fr z));let f3:l5≠j:=λz=>by rw[z]at bl;exact mC bl (λy=>by rw[gm]at y;cases y)
 let fk:Nw H d l5=g (.lst #[V.ref R,.ref F]):=Nw.of fq (en _ _ e7 (λz=>f3 z));let ev:x≠j:=λz=>by rw[z]at an;exact mC an (λy=>by rw[eg]at y;cases y)
 let eo:Nw H d x=g (.tup #[V.str "all",.ref l5]):=Nw.of em (dm _ _ bq (λz=>ev z));let ek:ad≠j:=λz=>by rw[z]at ak;exact mC ak (λy=>by rw[e3]at y;cases y)
 let dv:Nw H d ad=g (.tup #[V.str "not",.ref x]):=Nw.of ex (dr _ _ bv (λz=>ek z));let fd:l6≠j:=λz=>by rw[z]at bb;exact mC bb (λy=>by rw[fx]at y;cases y)
 let f4:Nw H d l6=g (.lst #[V.ref t9,.ref ad]):=Nw.of gx (e9 _ _ eq (λz=>fd z));let dz:S≠j:=λz=>by rw[z]at am;exact mC am (λy=>by rw[d5]at y;cases y)
 let dk:Nw H d S=g (.tup #[V.str "all",.ref l6]):=Nw.of dn (e5 _ _ br (λz=>dz z));let g2:l7≠j:=λz=>by rw[z]at bi;exact mC bi (λy=>by rw[fo]at y;cases y)
 let ff:Nw H d l7=g (.lst #[V.ref L,.ref F]):=Nw.of gv (d0 _ _ d2 (λz=>g2 z));let e6:ac≠j:=λz=>by rw[z]at ap;exact mC ap (λy=>by rw[d6]at y;cases y)
 let ei:Nw H d ac=g (.tup #[V.str "all",.ref l7]):=Nw.of ec (d7 _ _ bt (λz=>e6 z));let gh:l8≠j:=λz=>by rw[z]at bo;exact mC bo (λy=>by rw[fh]at y;cases y)
 let gd:Nw H d l8=g (.lst #[V.ref X,.ref ac]):=Nw.of gw (di _ _ er (λz=>gh z));let eb:aa≠j:=λz=>by rw[z]at ao;exact mC ao (λy=>by rw[ez]at y;cases y)
 let e8:Nw H d aa=g (.tup #[V.str "some",.ref l8]):=Nw.of e1 (dj _ _ bp (λz=>eb z));let dw:E≠j:=λz=>by rw[z]at al;exact mC al (λy=>by rw[ee]at y;cases y)
 let dl:Nw H d E=g (.tup #[V.str "not",.ref aa]):=Nw.of d1 (dq _ _ bu (λz=>dw z));let ar:Bi (Nw H d) (.ref L) (.at (.cau n)):=by unfold Bi;exact[L,I,fv]
 let aq:Bi (Nw H d) (.ref F) (.at (.thi s)):=by unfold Bi;exact[F,I,fw]
 let ay:Bi (Nw H d) (.ref R) (.at (.ovr m)):=by unfold Bi;exact[R,I,fm]
 let ep:Bi (Nw H d) (.ref X) (.at (.day k (k+e4))):=by unfold Bi;exact[X,I,gu]
 let f8:Bi (Nw H d) (.ref p) (.no (.at (.cau n))):=by unfold Bi;exact[p,_,I,gg,ar]
 let gp:Bi (Nw H d) (.ref t6) (.no (.at (.ovr m))):=by unfold Bi;exact[t6,_,I,f7,ay]
 let f9:Bi (Nw H d) (.ref l) (.al #[.no (.at (.ovr m)),.at (.thi s)]):=by unfold Bi;exact[l,l2,_,I,gk,gj,AI gp aq]
 let g0:Bi (Nw H d) (.ref r) (.so #[.at (.cau n),.at (.thi s),.at (.ovr m)]):=by unfold Bi;exact[r,l3,_,I,f6,g1,dU ar aq ay]
 let gq:Bi (Nw H d) (.ref t9) (.so #[.at (.cau n),.at (.thi s)]):=by unfold Bi;exact[t9,l4,_,I,gb,gn,AI ar aq]
 let e2:Bi (Nw H d) (.ref x) (.al #[.at (.ovr m),.at (.thi s)]):=by unfold Bi;exact[x,l5,_,I,eo,fk,AI ay aq]
 let es:Bi (Nw H d) (.ref ad) (.no (.al #[.at (.ovr m),.at (.thi s)])):=by unfold Bi;exact[ad,_,I,dv,e2]
 let ej:Bi (Nw H d) (.ref S) (.al #[.so #[.at (.cau n),.at (.thi s)],.no (.al #[.at (.ovr m),.at (.thi s)])]):=by unfold Bi;exact[S,l6,_,I,dk,f4,AI gq es]
 let ds:Bi (Nw H d) (.ref ac) (.al #[.at (.cau n),.at (.thi s)]):=by unfold Bi;exact[ac,l7,_,I,ei,ff,AI ar aq]
 let dp:Bi (Nw H d) (.ref aa) (.so #[.at (.day k (k+e4)),.al #[.at (.cau n),.at (.thi s)]]):=by unfold Bi;exact[aa,l8,_,I,e8,gd,AI ep ds]
 let eh:Bi (Nw H d) (.ref E) (.no (.so #[.at (.day k (k+e4)),.al #[.at (.cau n),.at (.thi s)]])):=by unfold Bi;exact[E,_,I,dl,dp]
 let om:0<=m/\m<=999999999999:=[m0,Z];let od:0<=k/\k<=k+e4/\k+e4<=1000000:=[f0,Z,Z];let K1:Fd Ej (.at (.cau n)):=by unfold Fd;exact o1
 let K2:Fd Ej (.at (.thi s)):=by unfold Fd;exact o2
 let K3:Fd Ej (.at (.ovr m)):=by unfold Fd;exact om
 let K4:Fd Ej (.at (.day k (k+e4))):=by unfold Fd;exact od
 refine[_,I,_,_,I,I,(by show(0:Int)<12;decide),_,_,I,I,_,I,?_];let g3:=md (a:=c) (b:=12) Y;by_cases c2:c%12>2
 .refine dT c2 [_,I,_,I,_,_,I,I,(by show(0:Int)<12;decide),_,_,I,I,?_]
  let cs:c%12-3=0\/c%12-3=1\/c%12-3=2\/c%12-3=3\/c%12-3=4\/c%12-3=5\/c%12-3=6\/c%12-3=7\/c%12-3=8:=by lia
  rcases cs with e|e|e|e|e|e|e|e|e
  .refine[j,_,_,.ref L,I,I,Al.of f,(show Ob _ (c%12-3)=_ by rw[e];rfl),q _ _ _ ag ar (Ms K1 (by simp[Fi,sizesT,Fe]) (by first|(simp[Dz,deepsT,Fe];done)|(simp[Dz,deepsT,Fe];decide)) (by simp[Mx,hgts])) (by simp[Mx,hgts])]
  .refine[j,_,_,.ref F,I,I,Al.of f,(show Ob _ (c%12-3)=_ by rw[e];rfl),q _ _ _ ag aq (Ms K2 (by simp[Fi,sizesT,Fe]) (by first|(simp[Dz,deepsT,Fe];done)|(simp[Dz,deepsT,Fe];decide)) (by simp[Mx,hgts])) (by simp[Mx,hgts])]
  .refine[j,_,_,.ref R,I,I,Al.of f,(show Ob _ (c%12-3)=_ by rw[e];rfl),q _ _ _ ag ay (Ms K3 (by simp[Fi,sizesT,Fe]) (by first|(simp[Dz,deepsT,Fe];done)|(simp[Dz,deepsT,Fe];decide)) (by simp[Mx,hgts])) (by simp[Mx,hgts])]
  .refine[j,_,_,.ref X,I,I,Al.of f,(show Ob _ (c%12-3)=_ by rw[e];rfl),q _ _ _ ag ep (Ms K4 (by simp[Fi,sizesT,Fe]) (by first|(simp[Dz,deepsT,Fe];done)|(simp[Dz,deepsT,Fe];decide)) (by simp[Mx,hgts])) (by simp[Mx,hgts])]
  .refine[j,_,_,.ref p,I,I,Al.of f,(show Ob _ (c%12-3)=_ by rw[e];rfl),q _ _ _ ag f8 (Ms (I0 K1) (by simp[Fi,sizesT,Fe]) (by first|(simp[Dz,deepsT,Fe];done)|(simp[Dz,deepsT,Fe];decide)) (by simp[Mx,hgts])) (by simp[Mx,hgts])]
  .refine[j,_,_,.ref l,I,I,Al.of f,(show Ob _ (c%12-3)=_ by rw[e];rfl),q _ _ _ ag f9 (Ms (We (I0 K3) K2) (by simp[Fi,sizesT,Fe]) (by first|(simp[Dz,deepsT,Fe];done)|(simp[Dz,deepsT,Fe];decide)) (by simp[Mx,hgts])) (by simp[Mx,hgts])]
  .refine[j,_,_,.ref r,I,I,Al.of f,(show Ob _ (c%12-3)=_ by rw[e];rfl),q _ _ _ ag g0 (Ms (OM K1 K2 K3) (by simp[Fi,sizesT,Fe]) (by first|(simp[Dz,deepsT,Fe];done)|(simp[Dz,deepsT,Fe];decide)) (by simp[Mx,hgts])) (by simp[Mx,hgts])]
  .refine[j,_,_,.ref S,I,I,Al.of f,(show Ob _ (c%12-3)=_ by rw[e];rfl),q _ _ _ ag ej (Ms (We (CY K1 K2) (I0 (We K3 K2))) (by simp[Fi,sizesT,Fe]) (by first|(simp[Dz,deepsT,Fe];done)|(simp[Dz,deepsT,Fe];decide)) (by simp[Mx,hgts])) (by simp[Mx,hgts])]
  .refine[j,_,_,.ref E,I,I,Al.of f,(show Ob _ (c%12-3)=_ by rw[e];rfl),q _ _ _ ag eh (Ms (I0 (CY K4 (We K1 K2))) (by simp[Fi,sizesT,Fe]) (by first|(simp[Dz,deepsT,Fe];done)|(simp[Dz,deepsT,Fe];decide)) (by simp[Mx,hgts])) (by simp[Mx,hgts])]
 .subst v
  refine dF c2 [g4,λt nt=>?_];refine q _ (.at .alw) _ (ag.trans (Ad nt _)) (by unfold Bi;exact[t,I,Nw.of (ag.free nt) Aa]) (Ms (by unfold Fd;trivial) (by simp[Fi,sizesT,Fe]) (by first|(simp[Dz,deepsT,Fe];done)|(simp[Dz,deepsT,Fe];decide)) (by simp[Mx,hgts])) (by simp[Mx])
end
theorem Tp(z:J):∀{a b},a≠[]->b≠[]->mE z (a++b)=mE z a++z++mE z b
 |[],_,h,_=>mC I h
 |#[x],b,_,h=>Ln z x h
 |x::y::a,b,_,h=>by
  show mE z (x::y::(a++b))=_;rw[Kp z x y (a++b),Kp z x y a];let C:=Tp z (a:=y::a) (b:=b) zZ h;rw[zBc]at C;rw[C,<- Ey,<- Ey]
theorem Zm(b:J):∀{wss} {ws},ws≠[]->(∀x∈wss,x≠[])->mE (O " "++b++O " ") (mE (O " ") ws::wss.map (mE (O " ")))=mE (O " ") (ws++Dm b wss)
 |[],ws,_,_=>by
  show mE (O " ") ws=mE (O " ") (ws++[]);rw[zAA]
 |v::wss,ws,h,F=>by
  let C:=Zm b (wss:=wss) (ws:=v) (F v zZ) λx L=>F x (by simp[L]);rw[zAr,Kp,C,Dm];rw[Tp _ h zZ,Ln _ b (λz=>by let:=F v zZ;simp[this]at z)];simp only[<- Ey]
def Uk(b:J){wss:List (List J)}(h:wss≠[])(z:∀x∈wss,x≠[]):mE (O " "++b++O " ") (wss.map (mE (O " ")))=mE (O " ") (Dh b wss):=by
 cases wss with
 |nil=>exact mC I h
 |cons w C=>
  rw[zAr,Zm b (z w zZ) λx F=>z x (by simp[F]),Dh]
def L7{t:Ev}{k:Int}(h:Fd Ej t):∀w∈Lv Bb k t,okW w:=by
 intro w C;unfold Lv at C
 split at C
 .rcases zAg.mp C with rfl|C
  .exact[G,G]
  rcases zAE.mp C with C|C
  .exact Ow h w C
  .rw[zAp.mp C];exact[G,G]
 .exact Ow h w C
def Pp{ws:List J}(h:∀w∈ws,okW w)(l:ws.length<=60):(mE (O " ") ws).length<=6060:=by
 let F:=Ik (z:=O " ") (B:=100) (ps:=ws) λy S=>(h y S).2;let L:(O " ").length=1:=by ac_nf
 rw[L]at F;let C:ws.length*(100+1)<=60*(100+1):=zBq _ l
 lia
def C4{ws:List J}(h:1<=ws.length):ws≠[]:=λz=>by rw[z]at h;simp at h
def Do(a b:J):(a++b).length=a.length+b.length:=by
 show(a.cps++b.cps).size=_;rw[tN];rfl
inductive SJ(m:Nat)(vs:List V)(H:Hp)(Q:VK):Prop
 |mk (v:_) (t:_) (z0:vs=#[v]) (z1:Bi H v t) (z2:Mx t<m) (z3:Fd Ej t) (z4:(Bz Bb t).length<=60) (z5:∀H',Ae H H'->Q (.str (mE (O " ") (Bz Bb t))) H'):SJ m vs H Q
def QV(m:Nat):Sp:=λC H Q x=>SJ m C H Q
inductive TQ(m:Nat)(vs:List V)(H:Hp)(Q:VK):Prop
 |mk (v:_) (t:_) (k:Int) (z0:vs=#[v,.int k]) (z1:Bi H v t) (z2:Mx t<m) (z3:Fd Ej t) (z4:(Lv Bb k t).length<=60) (z5:∀H',Ae H H'->Q (.str (mE (O " ") (Lv Bb k t))) H'):TQ m vs H Q
def XB(m:Nat):Sp:=λC H Q x=>TQ m C H Q
def ZR{vs:List V}{H:Hp}{Q:VK}{E:XK}(h:QV 0 vs H Q E):False:=by
 let[_,_,_,_,h,_]:=h;exact mC h (zBL _)
def GX(t:Ev):(Xt (Rk [] #[(Sum.inr "some",V.int 1),(Sum.inr "all",V.int 2)]) (Sum.inr (WK t))).getD (V.int 3)=.int (Fe t):=by
 cases t with
 |«at» c=>cases c<;>rfl
 |_=>rfl
section
seal L2.PS L2.PSs L2.PE L2.PA
variable {P:mF} {w:mR} {K:zAa} {mg:J->Option lV} {base:mX}
def Ps(N:Pm P w K mg base):Jc N 1 "_law_money" #["_law_cents_here"] JL:=Os N.z N.pe #["_law_cents_here"] df λA H Q E h=>by
 let[n,rfl,b,q]:=h;refine[_,(Ac (Ay (Au Bm (Au Bm (Au Bm (Dq Ep I (N.z.nn N.ar) (show zCz _=g (.type "str") from rfl) (Cf (Au Dt (pv 0) Ah))) Aj) (Dq Ep I (N.z.nn N.ar) (show zCz _=g (.type "str") from rfl) (Cf (Au Dk (Au Dt (pv 0) Ah) Ah)))) (Dq Ep I (N.z.nn N.ar) (show zCz _=g (.type "str") from rfl) (Cf (Au Dk (pv 0) Ah)))))),?_];let S:(n:Int)/100=((n/100:Nat):Int):=by lia
 let R:(n:Int)/10%10=((n/10%10:Nat):Int):=by lia
 let U:(n:Int)%10=((n%10:Nat):Int):=by lia
 let F:(O ".")=tx #[46]:=by ac_nf
 let z:((toString ((n:Int)/100):String):J)=tx (Di (n/100)):=by rw[S,Jo]
 let W:((toString ((n:Int)/10%10):String):J)=tx #[48+n/10%10]:=by rw[R,Ql (zBK _ Y)]
 let L:((toString ((n:Int)%10):String):J)=tx #[48+n%10]:=by rw[U,Ql (zBK _ Y)]
 let C:(Di (n/100)).length<=60:=Es Y Z;let X:=zCy;refine[_,I,_,_,I,I,[Y,Y],_,I,Ge Z Z,_,_,I,I,?_,?_]
 .rw[z,F,Dg,Dg];show _+1<=_;lia
 refine[_,I,_,_,I,I,[Y,Y],_,_,I,I,(by show(0:Int)<10;decide),_,I,Ge Z Z,_,_,I,I,?_,?_]
 .rw[z,F,W,En,Dg,Dg,zAc];show _+1+1<=_;lia
 refine[_,I,_,_,I,I,(by show(0:Int)<10;decide),_,I,Ge Z Z,_,_,I,I,?_,?_]
 .rw[z,F,W,L,En,En,Dg,Dg,zAc,zAc];show _+1+1+1<=_;lia
 .show Q _ H
  rw[z,F,W,L,En,En,En,zAw,zAw];exact q
def To:Cb #["_law_cond_here","_law_least"] #["_law_cond_here","_law_least"] (Av Jz):=by injections
def Sv(W:Pm P w K mg base){f:T}(F:Fw K "_law_bracketed" "_law_bracketed" Jz f fd){m:Nat}(C_law_text:Y4 P w K mg base (2*m+1) "_law_text" #["_law_cond_here"] (QV m)):Ar P w K mg base Jv (2*m+1+1) f fd #["_law_cond_here","_law_least"] (XB m):=by
 let sc:=To;bv_omega
 .let[_,_,_,rfl,_]:=h
  rfl
 let[v,t,k,rfl,j,R,ok,N,q]:=h;let S:=YV hr;let[p,xs,rfl,x]:=j.tag;refine[_,(Ab (Ce (Ax Mm (IS S (PV (O9 Aj Ah (O9 Aj Ah QT)) I I zZ Y) (Cr Kg (pv 0) Ah (λ_ _=>I)) Ah [I,I,I,I]) (pv 1) (Bf _))
    (Ac (Ay (Au Bm (Au Bm Aj (Gd C_law_text (hr.mono Z) I (Cf (pv 0)))) Aj)))
    Be)
   (Ac (Ay (Gd C_law_text (hr.mono Z) I (Cf (pv 0)))))),?_]
 refineλd hd=>?_;refine[Aa,#[(Sum.inr "some",V.int 1),(Sum.inr "all",V.int 2)],I,Y,d,I,.inl [_,.inl Aa],?_];let L:Ae H (upd (upd H d (.dK [])) d (.dK (Rk [] #[(Sum.inr "some",V.int 1),(Sum.inr "all",V.int 2)]))):=λb o e=>by
  let n:=Ai e hd;rw[Ak n,Ak n];exact e
 let C:∀{l:Hp},Ae H l->Bi l (.ref p) t:=λs=>Bi.same s t j;refine[_,I,p,_,_,_,I,I,Da.of (L _ _ x),at0 _ _,_,lF.k (k:=Sum.inr (WK t)) Aa,?_];rw[GX t];let i:=Ow ok;refine[_,I,_,_,I,I,_,I,HD (λc=>?_) (λc=>?_)]
 .have c:=mU c
  let U:Lv Bb k t=O "(" :: (Bz Bb t++#[O ")"]):=mS c;rw[U]at q N;let aa:(Bz Bb t).length+2<=60:=by rw[zAd,zAc,zBe]at N;lia
  refine[_,I,.ref p,t,I,C L,R,ok,Z,λH2 X=>?_];let l2:=Pp i (by lia:(Bz Bb t).length<=60);let r:(O "( ").length=2:=by ac_nf
  let e3:(O " )").length=2:=by ac_nf
  refine[_,_,I,I,by rw[r,zCy];lia,_,_,I,I,?_,?_]
  .rw[Do,r,e3,zCy];lia
  .have y:O "( "=O "("++O " ":=by ac_nf
   let e5:O " )"=O " "++O ")":=by ac_nf
   let u:=Ly ok;let a:mE (O " ") (O "(" :: (Bz Bb t++#[O ")"]))=O "( "++mE (O " ") (Bz Bb t)++O " )":=by
    rw[Ln _ _ zZ,Tp _ (C4 u) zZ,y,e5,<- Ey,<- Ey,<- Ey];rfl
   rw[<- a];exact q _ (L.trans X)
 .have c:=λz=>c (mV z)
  let U:Lv Bb k t=Bz Bb t:=mK c;rw[U]at q N;exact[_,I,.ref p,t,I,C L,R,ok,N,λH2 X=>q _ (L.trans X)]
def JO(a b:Nat):O "days "++tx (Di a)++O " "++tx (Di b)=mE (O " ") #[O "days",tx (Di a),tx (Di b)]:=by
 let e:O "days "=O "days"++O " ":=by ac_nf
 rw[Kp,Kp,e,<- Ey];simp only[<- Ey];rfl
def AM{k1:J}(k:J)(e:k1=k++O " "){ws:List J}(h:ws≠[]):k1++mE (O " ") ws=mE (O " ") (k::ws):=by rw[Ln _ _ h,e]
def G4:Cb #["_law_cond_here"] #["_law_cond_here"] (Av Pn):=by injections
def G8(W:Pm P w K mg base){f:T}(F:Fw K "_law_text" "_law_text" Pn f fd){m:Nat}(L:Y4 P w K mg base (2*m+1+1) "_law_bracketed" #["_law_cond_here","_law_least"] (XB m)):Ar P w K mg base Jv (2*m+1+1+1) f fd #["_law_cond_here"] (QV (m+1)):=by
 let sc:=G4;bv_omega
 .let[_,_,rfl,_]:=h
  rfl
 let[v,t,rfl,d,hg,ok,C,q]:=h;refine[_,(Ab (Ce (Ax Dv (Cr Kg (pv 0) Ah (λ_ _=>I)) Aj (Bf _))
    (Ac (Ay (Au Bm Aj (Gd (Ps W) (hr.mono Z) I (Cf (Cr Kg (pv 0) Ah (λ_ _=>I)))))))
    Be)
   (Ab (Ce (Ax Dv (Cr Kg (pv 0) Ah (λ_ _=>I)) Aj (Bf _))
    (Ac (Ay (Au Bm (Au Bm (Au Bm Aj (Dq Ep I (W.z.nn W.ar) (show zCz _=g (.type "str") from rfl) (Cf (Cr Kg (pv 0) Ah (λ_ _=>I))))) Aj) (Dq Ep I (W.z.nn W.ar) (show zCz _=g (.type "str") from rfl) (Cf (Cr Kg (pv 0) Ah (λ_ _=>I)))))))
    Be)
   (Ab (Ce (Ax Dv (Cr Kg (pv 0) Ah (λ_ _=>I)) Aj (Bf _))
    (Ac (Ay (Au Bm Aj (Gd L (hr.mono Z) I (Dy (Cr Kg (pv 0) Ah (λ_ _=>I)) Ah)))))
    Be)
   (Ab (Ce (Ax Dv (Cr Kg (pv 0) Ah (λ_ _=>I)) Aj (Bf _))
    (Ac (Ay (Nm (K:=K) I mY nP nO (Wo (K:=K) I) Aj (Cf (Hv (NC:=#["_law_part"]) (own:=#["_law_part"]) (cs:=[]) (ix:=[]) I (Az.of I) I trivial (Em (Cr Kg (pv 0) Ah (λ_ _=>I))) (λ_ _ _=>(Xa 0)) (λ_ _ _=>Fh) (λ_ _ _=>(Gd L (hr.mono Z) I (Dy (pv 0) Ah))))))))
    Be)
   (Ab (Ce (Ax Dv (Cr Kg (pv 0) Ah (λ_ _=>I)) Aj (Bf _))
    (Ac (Ay (Nm (K:=K) I mY nP nO (Wo (K:=K) I) Aj (Cf (Hv (NC:=#["_law_part"]) (own:=#["_law_part"]) (cs:=[]) (ix:=[]) I (Az.of I) I trivial (Em (Cr Kg (pv 0) Ah (λ_ _=>I))) (λ_ _ _=>(Xa 0)) (λ_ _ _=>Fh) (λ_ _ _=>(Gd L (hr.mono Z) I (Dy (pv 0) Ah))))))))
    Be)
   (Ac (Ay (Nm (K:=K) I mY nP nO (Wo (K:=K) I) Aj (Cf (pv 0)))))))))),?_]
 let N:∀{y z:J},y≠z->¬V.str y=V.str z:=λh e=>h (V.str.inj e);let l1:=Ly ok;let lw:=Ow ok;cases t with
 |«at» c=>
  rw[Iy]at q C l1 lw;cases c with
  |alw=>
   unfold Bi at d;let[p,rfl,X]:=d;refine[_,I,p,_,_,_,I,I,Da.of X,at0 _ _,I,_,I,dF (N G) ?_];refine[_,I,p,_,_,_,I,I,Da.of X,at0 _ _,I,_,I,dF (N G) ?_];refine[_,I,p,_,_,_,I,I,Da.of X,at0 _ _,I,_,I,dF (N G) ?_];refine[_,I,p,_,_,_,I,I,Da.of X,at0 _ _,I,_,I,dF (N G) ?_];refine[_,I,p,_,_,_,I,I,Da.of X,at0 _ _,I,_,I,dF (N G) ?_];exact[I,_,I,_,p,Bb .alw,I,I,.inr (Da.of X),l1,Z,G,λy hy=>by let:=(lw y hy).2;lia,q _ (Ae.refl _)]
  |cau n=>
   unfold Bi at d;let[p,rfl,X]:=d;refine[_,I,p,_,_,_,I,I,Da.of X,at0 _ _,I,_,I,dF (N G) ?_];refine[_,I,p,_,_,_,I,I,Da.of X,at0 _ _,I,_,I,dF (N G) ?_];refine[_,I,p,_,_,_,I,I,Da.of X,at0 _ _,I,_,I,dF (N G) ?_];refine[_,I,p,_,_,_,I,I,Da.of X,at0 _ _,I,_,I,dF (N G) ?_];refine[_,I,p,_,_,_,I,I,Da.of X,at0 _ _,I,_,I,dF (N G) ?_];exact[I,_,I,_,p,Bb (.cau n),I,I,.inr (Da.of X),l1,Z,G,λy hy=>by let:=(lw y hy).2;lia,q _ (Ae.refl _)]
  |thi n=>
   unfold Bi at d;let[p,rfl,X]:=d;refine[_,I,p,_,_,_,I,I,Da.of X,at0 _ _,I,_,I,dF (N G) ?_];refine[_,I,p,_,_,_,I,I,Da.of X,at0 _ _,I,_,I,dF (N G) ?_];refine[_,I,p,_,_,_,I,I,Da.of X,at0 _ _,I,_,I,dF (N G) ?_];refine[_,I,p,_,_,_,I,I,Da.of X,at0 _ _,I,_,I,dF (N G) ?_];refine[_,I,p,_,_,_,I,I,Da.of X,at0 _ _,I,_,I,dF (N G) ?_];exact[I,_,I,_,p,Bb (.thi n),I,I,.inr (Da.of X),l1,Z,G,λy hy=>by let:=(lw y hy).2;lia,q _ (Ae.refl _)]
  |day a b=>
   unfold Bi at d;let[p,rfl,X]:=d;unfold Fd at ok;let[a0,ab,b1]:=ok;let ea:((toString a:String):J)=tx (Di a.toNat):=by rw[<- Jo];congr 2;lia
   let eb:((toString b:String):J)=tx (Di b.toNat):=by rw[<- Jo];congr 2;lia
   let la:(Di a.toNat).length<=7:=Es Y Z;let lb:(Di b.toNat).length<=7:=Es Y Z;let e5:(O "days ").length=5:=by ac_nf
   let e6:(O " ").length=1:=by ac_nf
   refine[_,I,p,_,_,_,I,I,Da.of X,at0 _ _,I,_,I,dF (N G) ?_];refine[_,I,p,_,_,_,I,I,Da.of X,at0 _ _,I,_,I,dT I ?_];refine[_,I,p,_,_,_,I,I,Da.of X,I,_,I,Ge a0 Z,_,_,I,I,?_,_,_,I,I,?_,?_]
   .rw[ea,e5,Dg,zCy];lia
   .rw[ea,Do,e5,e6,Dg,zCy];lia
   refine[_,I,p,_,_,_,I,I,Da.of X,I,_,I,Ge Z Z,_,_,I,I,?_,?_]
   .rw[ea,eb,Do,Do,e5,e6,Dg,Dg,zCy];lia
   rw[ea,eb,JO];exact q _ (Ae.refl _)
  |ovr n=>
   unfold Bi at d;let[p,rfl,X]:=d;unfold Fd at ok;let[m0,m1]:=ok;let e5:(O "over ").length=5:=by ac_nf
   refine[_,I,p,_,_,_,I,I,Da.of X,at0 _ _,I,_,I,dT I ?_];let en:#[V.int n]=#[.int (n.toNat:Nat)]:=by congr 2;lia
   let nb:n.toNat<10^60:=zAF (show n.toNat<10^13 by lia) (zCe Y Y);let aa:(Di (n.toNat/100)).length<=10:=Es Y Z;refine[_,I,p,_,_,_,I,I,Da.of X,I,n.toNat,en,nb,_,_,I,I,?_,?_]
   .rw[e5,Dg,Lm,zCy];lia
   .have:=AM (O "over") (k1:=O "over ") G (ws:=#[tx (El n.toNat)]) zZ
    let e1:mE (O " ") #[tx (El n.toNat)]=tx (El n.toNat):=rfl;rw[e1]at this;rw[this];exact q _ (Ae.refl _)
 |no t=>
  rw[Ua]at q C;unfold Bi at d;let[p,u,rfl,X,hu]:=d;unfold Fd at ok;unfold Mx at hg;let e4:(O "not ").length=4:=by ac_nf
  let U:(Lv Bb 3 t).length<=60:=by rw[zAd]at C;lia
  refine[_,I,p,_,_,_,I,I,Da.of X,at0 _ _,I,_,I,dF (N G) ?_];refine[_,I,p,_,_,_,I,I,Da.of X,at0 _ _,I,_,I,dF (N G) ?_];refine[_,I,p,_,_,_,I,I,Da.of X,at0 _ _,I,_,I,dT I ?_];refine[_,I,p,_,_,_,I,I,Da.of X,I,u,t,3,I,hu,Z,ok,U,λH2 s2=>?_];let le:=Pp (L7 (k:=3) ok) U;refine[_,_,I,I,by rw[e4,zCy];lia,?_];rw[AM (O "not") G (C4 (Ri ok 3))];exact q _ s2
 |al r=>
  rw[Uc]at q C;unfold Bi at d;let[p,l,us,rfl,X,hl,hu]:=d;unfold Fd at ok;unfold Mx at hg;let[k2,k8,S]:=ok;let R:=hu.len;refine[_,I,p,_,_,_,I,I,Da.of X,at0 _ _,I,_,I,dF (N G) ?_];refine[_,I,p,_,_,_,I,I,Da.of X,at0 _ _,I,_,I,dF (N G) ?_];refine[_,I,p,_,_,_,I,I,Da.of X,at0 _ _,I,_,I,dF (N G) ?_];refine[_,I,p,_,_,_,I,I,Da.of X,at0 _ _,I,_,I,dT I ?_];refine[I,_,I,p,_,_,_,I,I,Da.of X,I,l,I,[_,Al.of hl],λb nb=>?_];refine Ez (K:=K) (a:=l) (xs:=us) (λi ys H3=>ys=((r.take i).map (λt=>mE (O " ") (Lv Bb 3 t))).map V.str/\H3 b=g (.lst ys)/\Ae H H3) [I,Aa,Ad nb _]
   (λi ys H3 _ ⟨e,h1,s3⟩=>[h1,by rw[e,zAb,zAb,zAq];lia,Al.of (s3 _ _ hl)]) (by rw[R,zCy];lia) (λi x ys H3 hi ⟨e,h1,s3⟩=>?_) (λys H3 ⟨e,h1,s3⟩=>?_)
  .let[t,et,tr]:=hu.get hi
   let j:t∈r:=zAz et;let U:(Lv Bb 3 t).length<=60:=zAG (Jr (O "and") (zAv.mpr [t,j,I])) C;refine[_,I,x,t,3,I,Bi.same s3 t tr,G5 Z i et,Jl S t j,U,λH4 s4=>[s4 _ _ h1,I,?_,Aa,λc o z=>?_]]
   .rw[Df et,zAf,zAf,e]
    rfl
   .rw[Ak (Ai z nb)]
    exact s4 _ _ (s3 _ _ z)
  rw[R,zAB]at e;subst e;let ea:O " and "=O " "++O "and"++O " ":=by ac_nf
  let ej:=Uk (O "and") (wss:=r.map (Lv Bb 3)) (λz=>by rw[x9]at z;rw[z]at k2;simp at k2) (λx hx=>by let[t,j,rfl]:=zAv.mp hx;exact C4 (Ri (Jl S t j) 3));rw[zBw]at ej;refine[_,b,r.map (λt=>mE (O " ") (Lv Bb 3 t)),I,I,.inl (Al.of h1),by rw[zAb];lia,by rw[zAb];lia,G,λy hy=>?_,?_]
  .let[t,j,rfl]:=zAv.mp hy
   let U:(Lv Bb 3 t).length<=60:=zAG (Jr (O "and") (zAv.mpr [t,j,I])) C;let:=Pp (L7 (k:=3) (Jl S t j)) U
   lia
  .have:mE (O " and ") (r.map (λt=>mE (O " ") (Lv Bb 3 t)))=mE (O " ") (Dh (O "and") (r.map (Lv Bb 3))):=by rw[ea];exact ej
   rw[this];exact q _ s3
 |so r=>
  rw[Ut]at q C;unfold Bi at d;let[p,l,us,rfl,X,hl,hu]:=d;unfold Fd at ok;unfold Mx at hg;let[k2,k8,S]:=ok;let R:=hu.len;refine[_,I,p,_,_,_,I,I,Da.of X,at0 _ _,I,_,I,dF (N G) ?_];refine[_,I,p,_,_,_,I,I,Da.of X,at0 _ _,I,_,I,dF (N G) ?_];refine[_,I,p,_,_,_,I,I,Da.of X,at0 _ _,I,_,I,dF (N G) ?_];refine[_,I,p,_,_,_,I,I,Da.of X,at0 _ _,I,_,I,dF (N G) ?_];refine[_,I,p,_,_,_,I,I,Da.of X,at0 _ _,I,_,I,dT I ?_];refine[I,_,I,p,_,_,_,I,I,Da.of X,I,l,I,[_,Al.of hl],λb nb=>?_];refine Ez (K:=K) (a:=l) (xs:=us) (λi ys H3=>ys=((r.take i).map (λt=>mE (O " ") (Lv Bb 2 t))).map V.str/\H3 b=g (.lst ys)/\Ae H H3) [I,Aa,Ad nb _]
   (λi ys H3 _ ⟨e,h1,s3⟩=>[h1,by rw[e,zAb,zAb,zAq];lia,Al.of (s3 _ _ hl)]) (by rw[R,zCy];lia) (λi x ys H3 hi ⟨e,h1,s3⟩=>?_) (λys H3 ⟨e,h1,s3⟩=>?_)
  .let[t,et,tr]:=hu.get hi
   let j:t∈r:=zAz et;let U:(Lv Bb 2 t).length<=60:=zAG (Jr (O "or") (zAv.mpr [t,j,I])) C;refine[_,I,x,t,2,I,Bi.same s3 t tr,G5 Z i et,Jl S t j,U,λH4 s4=>[s4 _ _ h1,I,?_,Aa,λc o z=>?_]]
   .rw[Df et,zAf,zAf,e]
    rfl
   .rw[Ak (Ai z nb)]
    exact s4 _ _ (s3 _ _ z)
  rw[R,zAB]at e;subst e;let ea:O " or "=O " "++O "or"++O " ":=by ac_nf
  let ej:=Uk (O "or") (wss:=r.map (Lv Bb 2)) (λz=>by rw[x9]at z;rw[z]at k2;simp at k2) (λx hx=>by let[t,j,rfl]:=zAv.mp hx;exact C4 (Ri (Jl S t j) 2));rw[zBw]at ej;refine[_,b,r.map (λt=>mE (O " ") (Lv Bb 2 t)),I,I,.inl (Al.of h1),by rw[zAb];lia,by rw[zAb];lia,G,λy hy=>?_,?_]
  .let[t,j,rfl]:=zAv.mp hy
   let U:(Lv Bb 2 t).length<=60:=zAG (Jr (O "or") (zAv.mpr [t,j,I])) C;let:=Pp (L7 (k:=2) (Jl S t j)) U
   lia
  .have:mE (O " or ") (r.map (λt=>mE (O " ") (Lv Bb 2 t)))=mE (O " ") (Dh (O "or") (r.map (Lv Bb 2))):=by rw[ea];exact ej
   rw[this];exact q _ s3
def C_law_text(C:Pm P w K mg base):∀m,Jc C (2*m+1) "_law_text" #["_law_cond_here"] (QV m):=by
  intro m
  induction m with
  |zero=>exact(W2 C.z C.ii bd).cal λf H F=>LJ λx x x x=>ZR
  |succ m L=>
   let z:Y4 P w K mg base (2*m+1+1) "_law_bracketed" #["_law_cond_here","_law_least"] (XB m):=(W2 C.z C.kc bd).cal λf H F=>Sv C F L;exact(W2 C.z C.ii bd).cal λf H F=>G8 C F z
end
def gL{z:St->Hp->Prop}{σ:St}{H:Hp}(F:St)(e:σ=F)(h:z F H):z σ H:=e▸h
def lH(C:Hp)(v:V)(c:Cl):Prop:=∃t r,v=.ref t/\C t=g (.tup (aY r))/\DH r=c/\dI r
def lH.same{v:V}{c:Cl}(h:lH b v c)(s:Ae b d):lH d v c:=by
 let[t,r,e,h,k]:=h;exact[t,r,e,s _ _ h,k]
def UR{r:cY}(h:dI r):I9 (DH r):=by
 let[S,y,P,Q]:=r;let[H,L,[z,U],N]:=h;let z:0<=P:=z;let U:P<=120000000230:=U;unfold DH;rcases H with e|e|e
 .have e:S="own":=e
  subst e;exact[L,z,Z]
 .have e:S="layer":=e
  subst e;let[F,C]:=N I;let F:P<Q:=F;let C:Q<=240000000461:=C;exact[L,[z,Z],[Z,Z],F]
 .have e:S="limit":=e
  subst e;exact[L,z,Z]
structure kH(m:Hp)(v:V)(d:LC):Prop where
 ex:∃a tv cl hl cs xs,v=.ref a/\m a=g (.tup #[.str d.nm,tv,.ref cl,.ref hl,.bl d.wt])/\Bi m tv d.t/\m cl=g (.lst cs)/\jN (lH m) cs d.cl/\m hl=g (.lst xs)/\jT m xs (Wv d.hs)
def kH.same{v:V}{d:LC}(h:kH b v d)(s:Ae b f):kH f v d:=by
 let[a,P,N,Q,z,H,e,R,L,C,F,S,U]:=h;exact[a,P,N,Q,z,H,e,s _ _ R,Bi.same s _ L,s _ _ C,F.imp λv c k=>k.same s,s _ _ S,U.mono (Jb s)]
structure QX(d:LC):Prop where
 ok:TN d
 hg:Mx d.t<5
mutual
def Vd:Ev->List D
 |.at .alw=>#[.at (.str "always")]
 |.at (.cau n)=>#[.at (.str "cause"),.at (.str n)]
 |.at (.thi n)=>#[.at (.str "thing"),.at (.str n)]
 |.at (.day a b)=>#[.at (.str "days"),.at (.int a),.at (.int b)]
 |.at (.ovr m)=>#[.at (.str "over"),.at (.int m)]
 |.no t=>#[.at (.str "not"),.seq B (Vd t)]
 |.al C=>#[.at (.str "all"),.seq lX (trLs C)]
 |.so C=>#[.at (.str "some"),.seq lX (trLs C)]
def trLs:List Ev->List D
 |[]=>[]
 |t::C=>.seq B (Vd t)::trLs C
end
def Cm{K:zAa}{H:Hp}{v:V}(h:Hr v=B):Ta K H (.at v) v:=by unfold Ta;exact[I,h]
def Fv{K:zAa}{H:Hp}:Reps K H [] []:=by unfold Reps;rfl
def Dp{K:zAa}{H:Hp}{d:D}{v:V}{ds:List D}{vs:List V}(h:Ta K H d v)(C:Reps K H ds vs):Reps K H (d::ds) (v::vs):=by unfold Reps;exact[v,vs,I,h,C]
def Jd{K}{H}{a}{ds}{xs}(h:H a=g (.tup xs))(C:Reps K H ds xs):Ta K H (.seq B ds) (.ref a):=by unfold Ta;exact[a,xs,I,λx=>Da.of h,λz=>(by cases z),C]
def Oa{K}{H}{a}{ds}{xs}(h:H a=g (.lst xs))(C:Reps K H ds xs):Ta K H (.seq lX ds) (.ref a):=by unfold Ta;exact[a,xs,I,λz=>(by cases z),λx=>Al.of h,C]
mutual
theorem Z5{K:zAa}{H:Hp}:∀{v} (t:Ev),Bi H v t->Ta K H (.seq B (Vd t)) v
 |v,.at .alw,h=>by unfold Bi at h;let[p,rfl,h]:=h;unfold Vd;exact Jd h (Dp (Cm I) Fv)
 |v,.at (.cau n),h=>by unfold Bi at h;let[p,rfl,h]:=h;unfold Vd;exact Jd h (Dp (Cm I) (Dp (Cm I) Fv))
 |v,.at (.thi n),h=>by unfold Bi at h;let[p,rfl,h]:=h;unfold Vd;exact Jd h (Dp (Cm I) (Dp (Cm I) Fv))
 |v,.at (.day a b),h=>by unfold Bi at h;let[p,rfl,h]:=h;unfold Vd;exact Jd h (Dp (Cm I) (Dp (Cm I) (Dp (Cm I) Fv)))
 |v,.at (.ovr m),h=>by unfold Bi at h;let[p,rfl,h]:=h;unfold Vd;exact Jd h (Dp (Cm I) (Dp (Cm I) Fv))
 |v,.no t,h=>by unfold Bi at h;let[p,u,rfl,h,C]:=h;unfold Vd;exact Jd h (Dp (Cm I) (Dp (Z5 t C) Fv))
 |v,.al L,h=>by unfold Bi at h;let[p,l,N,rfl,h,C,k]:=h;unfold Vd;exact Jd h (Dp (Cm I) (Dp (Oa C (tr_reps L k)) Fv))
 |v,.so L,h=>by unfold Bi at h;let[p,l,N,rfl,h,C,k]:=h;unfold Vd;exact Jd h (Dp (Cm I) (Dp (Oa C (tr_reps L k)) Fv))
theorem tr_reps{K:zAa}{H:Hp}:∀{vs} (ts:List Ev),TrsAt H vs ts->Reps K H (trLs ts) vs
 |[],[],_=>by unfold trLs;exact Fv
 |v::vs,t::ts,h=>by unfold TrsAt at h;unfold trLs;exact Dp (Z5 t h.1) (tr_reps ts h.2)
 |[],_::_,h=>by unfold TrsAt at h;exact h.elim
 |_::_,[],h=>by unfold TrsAt at h;exact h.elim
end
mutual
theorem X9:∀t:Ev,deps (Vd t)<=2*Mx t
 |.at .alw=>by unfold Vd;simp[deps,Qw]
 |.at (.cau n)=>by unfold Vd;simp[deps,Qw]
 |.at (.thi n)=>by unfold Vd;simp[deps,Qw]
 |.at (.day a b)=>by unfold Vd;simp[deps,Qw]
 |.at (.ovr m)=>by unfold Vd;simp[deps,Qw]
 |.no t=>by let:=X9 t;unfold Vd Mx;simp[deps,Qw];lia
 |.al C=>by let:=tr_deps C;unfold Vd Mx;simp[deps,Qw];lia
 |.so C=>by let:=tr_deps C;unfold Vd Mx;simp[deps,Qw];lia
theorem tr_deps:∀ts:List Ev,deps (trLs ts)<=2*hgts ts+1
 |[]=>by unfold trLs;simp[deps]
 |t::ts=>by let C:=X9 t;let z:=tr_deps ts;unfold trLs hgts;simp[deps,Qw];lia
end
def XX(t:Ev):eqDs (Vd t) #[.at (.str "always")]=Pf t:=by
 cases t with
 |«at» c=>
  cases c with
  |alw=>unfold Vd eqDs;unfold eqDs;simp[U2,Px,Pf]
  |_=>rw[Nd (by unfold Vd;simp)];rfl
 |_=>rw[Nd (by unfold Vd;simp)];rfl
def GY(l:List (J×Int)):List D:=l.map λx=>.seq B #[.at (.str x.1),.at (.int x.2)]
theorem C7{K:zAa}{H:Hp}:∀{xs} (l:List (J×Int)),jT H xs (Wv l)->Reps K H (GY l) xs
 |[],[],_=>Fv
 |[],_::_,h=>h.elim
 |_::_,[],h=>h.elim
 |x::xs,p::C,[[t,e,h],r]=>by subst e;exact Dp (Jd h (Dp (Cm I) (Dp (Cm I) Fv))) (C7 C r)
def EA(l:List (J×Int)):deps (GY l)<=1:=by
 induction l with
 |nil=>unfold GY;simp[deps]
 |cons a l C=>show deps (.seq B #[.at (.str a.1),.at (.int a.2)]::GY l)<=1;unfold deps;simp[Qw,deps];lia
def XW(nm:J)(l:List (J×Int)):eqDs (GY l) (GY #[(nm,1)])=decide (l=#[(nm,1)]):=by
 match l with
 |[]=>unfold GY;simp[eqDs]
 |#[(a,b)]=>
  unfold GY;simp only[zAr,zBr];unfold eqDs;unfold eqDs;unfold U2;unfold eqDs;unfold U2;unfold eqDs;unfold U2;unfold eqDs;by_cases z:a=nm<;>by_cases F:b=1<;>simp[Px,z,F]
 |a::b::l=>rw[Nd (by unfold GY;simp)];simp
theorem B1(z:J):∀{wss},wss≠[]->(∀x∈wss,x≠[])->mE z (wss.map (mE z))=mE z wss.flatten
 |[],h,_=>mC I h
 |#[w],_,_=>by simp[mE]
 |w::v::wss,_,h=>by
  let C:=B1 z (wss:=v::wss) zZ λx F=>h x (by simp[F]);rw[zAr,zAr,Kp,<- zAr,C,zBf (L:=v::wss),Tp z (h w zZ)];let:=h v zZ;intro e;rw[zBf]at e;exact this (List.append_eq_nil_iff.mp e).1
def XF(x:J×Int):J:=x.1++O " "++tx (Di x.2.toNat)
def QF{l:List (J×Int)}(h:l≠[]):O "share "++mE (O " ") (l.map XF)=(Bn.shr l).row:=by
 let e:l.map XF=(l.map λx=>#[x.1,tx (Di x.2.toNat)]).map (mE (O " ")):=by rw[zBw];rfl
 rw[e,B1 _ (λz=>h (List.map_eq_nil_iff.mp z)) (λx F=>by let[y,_,rfl]:=zAv.mp F;simp)];let L:(l.map λx=>#[x.1,tx (Di x.2.toNat)]).flatten=E9 l:=by unfold E9;rw[List.flatMap_def]
 rw[L,AM (O "share") G]
 .rfl
 .intro z
  let:=Tu l;rw[z]at this;exact h (List.length_eq_zero_iff.mp (by simp at this;lia))
def BY{x:J×Int}(h:nameV (.str x.1)=B)(C:1<=x.2)(F:x.2<=100):(XF x).length<=20:=by
 let a:=Ga h;let b:(Di x.2.toNat).length<=3:=Es Y Z;let z:(O " ").length=1:=by ac_nf
 unfold XF;rw[Do,Do,z,Dg]
 lia
inductive IP  (vs:List V)(H:Hp)(Q:VK):Prop
 |mk (v:_) (c:_) (z0:vs=#[v]) (z1:lH H v c) (z2:Q (Bh (.cls c)) H):IP  vs H Q
def aC:Sp:=λC H Q x=>IP  C H Q
inductive ND  (vs:List V)(H:Hp)(Q:VK):Prop
 |mk (v:_) (d:_) (z0:vs=#[v]) (z1:kH H v d) (z2:QX d) (z3:∀l H',Ae H H'->H l=M->H' l=g (.lst ((Ek d).map Bh))->Q (.ref l) H'):ND  vs H Q
def ZU:Sp:=λC H Q x=>ND  C H Q
inductive KG  (vs:List V)(H:Hp)(Q:VK):Prop
 |mk (a:_) (xs:_) (ls:_) (z0:vs=#[.ref a]) (z1:H a=g (.lst xs)) (z2:jN (kH H) xs ls) (z3:ls.length<=8) (z4:(∀d∈ls,QX d)) (z5:∀l H',Ae H H'->H l=M->H' l=g (.lst ((ls.flatMap Ek).map Bh))->Q (.ref l) H'):KG  vs H Q
def aA:Sp:=λC H Q x=>KG  C H Q
section
seal L2.PS L2.PSs L2.PE L2.PA
variable {P:mF} {w:mR} {K:zAa} {mg:J->Option lV} {base:mX}
def Uj(W:Pm P w K mg base):Jc W 2 "_law_clause_row" #["_law_clause"] aC:=Os W.z W.jo #["_law_clause","_law_word","_law_by","_law_low","_law_high","_law_row"] df λE H Q j h=>by
 let[v,c,rfl,[t,[F,y,X,A],rfl,ht,C,s],q]:=h;refine[_,(Ab (Xm (pv 0) (Oc (n:=4) I (Dw (Ot E 1) (Dw (Ot E 2) (Dw (Ot E 3) (Dw (Ot E 4) Km))))))
   (Ab (Fk E 5 (Au Bm (Au Bm (Au Bm (Au Bm (pv 1) Aj) (pv 2)) Aj) (Gg (Ps W) j (Cf (pv 3)))))
   (Ab (Ce (Ax Dv (pv 1) Aj (Bf _))
    (Ac (Fk E 5 (Au Bm (Au Bm (pv 5) Aj) (Gg (Ps W) j (Cf (pv 4))))))
    Be)
   (Ac (Ay (pv 5)))))),?_]
 let[o,U,[p,k],i]:=s;let p:0<=X:=p;let k:X<=120000000230:=k;let U:Gz y:=U;refine[_,I,t,_,I,Da.of ht,I,vC I (vC I (vC I (vC I [I,?_])))];let ly:y.length<=5:=by rcases U with rfl|rfl|rfl|rfl<;>decide +kernel
 let lw:F.length<=5:=by rcases o with e|e|e<;>(let e:F=_:=e;rw[e];decide +kernel)
 let L:(O " ").length=1:=by ac_nf
 let m:#[V.int X]=#[.int (X.toNat:Nat)]:=by congr 2;lia
 let d:∀{n:Int},n<=999999999999->n.toNat<10^60:=λh=>zAF (show _<10^13 by lia) (zCe Y Y);let S:∀{n:Int},n<=999999999999->(El n.toNat).length<=13:=λ{n} h=>by
  rw[Lm];let:(Di (n.toNat/100)).length<=10:=Es Y Z
  lia
 let l1:=S (show X<=999999999999 by lia);refine gL #[g (.ref t),g (.str F),g (.str y),g (.int X),g (.int A),M] rfl ?_;refine[_,I,_,_,I,I,by rw[L,zCy];lia,_,I,_,_,I,I,by rw[Do,L,zCy];lia,_,_,I,I,by rw[Do,Do,L,zCy];lia,_,I,X.toNat,m,d Z,_,_,I,I,?_,?_]
 .rw[Do,Do,Do,L,Dg,zCy];lia
 refine Ic #[g (.ref t),g (.str F),g (.str y),g (.int X),g (.int A),g (.str (F++O " "++y++O " "++tx (El X.toNat)))] rfl ?_;let N:∀{y z:J},y≠z->¬V.str y=V.str z:=λh e=>h (V.str.inj e);let l:∀a b c:J,a++O " "++b++O " "++c=mE (O " ") #[a,b,c]:=λa b c=>by
  rw[Kp,Kp];simp only[<- Ey];rfl
 rcases o with e|e|e
 .have e:F="own":=e
  subst e;refine[_,I,I,_,I,dF (N G) [_,I,?_]];rw[l];rw[<- C]at q;exact q
 .have e:F="layer":=e
  subst e;let[f,r]:=i I;let f:X<A:=f;let r:A<=240000000461:=r;let l2:=S (show A<=999999999999 by lia);let x:#[V.int A]=#[.int (A.toNat:Nat)]:=by congr 2;lia
  refine[_,I,I,_,I,dT I ?_];refine[_,I,_,_,I,I,?_,_,I,A.toNat,x,d Z,_,_,I,I,?_,?_]
  .rw[Do,Do,Do,Do,L,Dg,zCy];lia
  .rw[Do,Do,Do,Do,Do,L,Dg,Dg,zCy];lia
  refine[_,I,?_];let u:(("layer" : J)++O " "++y++O " "++tx (El X.toNat)++O " "++tx (El A.toNat))=(Bn.cls (.lay y X A)).row:=by
   show _=mE (O " ") #[O "layer",y,tx (El X.toNat),tx (El A.toNat)];rw[Kp,Kp,Kp];simp only[<- Ey];rfl
  let R:Q (Bh (.cls (.lay y X A))) H:=by rw[<- C]at q;exact q
  unfold Bh at R;rw[<- u]at R;exact R
 .have e:F="limit":=e
  subst e;refine[_,I,I,_,I,dF (N G) [_,I,?_]];rw[l];rw[<- C]at q;exact q
end
section
seal L2.PS L2.PSs L2.PE L2.PA
variable {P:mF} {w:mR} {K:zAa} {mg:J->Option lV} {base:mX} (f:Pm P w K mg base)
def Ul:Jc f 12 "_law_cover_rows" #["_law_cover"] ZU:=Os f.z f.jp #["_law_cover","_law_name","_law_cond_here","_law_clauses","_law_houses_here","_law_waits","_law_rows_here"] df λsc H Q hr h=>by
 let[v,d,rfl,[a,tv,s,l,cs,xs,rfl,h1,h2,h3,h4,h5,h6],[ok,hg],q]:=h;let ab:=BP hr;refine[_,(Ab (Xm (pv 0) (Oc (n:=5) I (Dw (Ot sc 1) (Dw (Ot sc 2) (Dw (Ot sc 3) (Dw (Ot sc 4) (Dw (Ot sc 5) Km)))))))
   (Ab (Fk sc 6 (Ca (Cf (Au Bm Aj (pv 1)))))
   (Ab (Ce (Ax (X0 (K:=K) ab) (pv 2) (Du (Cf Aj)) (Bf _))
    (Ac (Ct (Fg mJ mM mL Dx (pv 6) (Cf (Au Bm Aj (Gg (C_law_text f 5) hr (Cf (pv 2))))))))
    Be)
   (Ab (Fk sc 6 (Au Ef (pv 6) (Hv (NC:=#["_law_one"]) (own:=#["_law_one"]) (cs:=[]) (ix:=[]) I (Az.of I) I trivial (Em (pv 3)) (λ_ _ _=>(Xa 0)) (λ_ _ _=>Fh) (λ_ _ _=>(Gg (Uj f) hr (Cf (pv 0)))))))
   (Ab (Ce (Ax (X0 (K:=K) ab) (pv 4) (Ca (Cf (Du (Dy (pv 1) Ah)))) (Bf _))
    (Ac (Ct (Fg mJ mM mL Dx (pv 6) (Cf (Au Bm Aj (Nm (K:=K) I mY nP nO (Nh (K:=K) I) Aj (Cf (Hv (NC:=#["_law_house","_law_weight"]) (own:=#["_law_house","_law_weight"]) (cs:=[]) (ix:=[]) I (Az.of I) I trivial (Em (pv 4)) (λ_ _ _=>(DT (K:=K) (n:=2) I I (Dw (Xa 0) (Dw (Xa 1) Km)))) (λ_ _ _=>Fh) (λ_ _ _=>(Au Bm (Au Bm (pv 0) Aj) (Dq Ep I (f.z.nn f.ar) (show zCz _=g (.type "str") from rfl) (Cf (pv 1)))))))))))))
    Be)
   (Ab (Ce (Eb (pv 5))
    (Ac (Ct (Fg mJ mM mL Dx (pv 6) (Cf Aj))))
    Be)
   (Ac (Ay (pv 6))))))))),?_]
 let u:1<=sizeLine:=by rw[zCy];decide
 let aq:2<=sizeLine:=by rw[zCy];decide
 let aw:=Ga ok.nm.1;let[ae,aj,d6,av]:=ok.t;let[as,au,ay]:=Wh d;let ax:=ok.cl.1;let ac:=h4.len;refine Je λN C=>?_;refine[_,I,a,_,I,Da.of h1,I,vC I (vC I (vC I (vC I (vC I [I,?_]))))];refine gL #[g (.ref a),g (.str d.nm),g tv,g (.ref s),g (.ref l),g (.bl d.wt),M] rfl (Fn C λN C=>?_);refine[_,I,_,_,I,I,?_,u,λm nm=>?_]
 .have e6:(O "cover ").length=6:=by ac_nf
  rw[e6,zCy];lia
 rw[Ss];let s1:=Ad nm (.lst #[Bh (.cov d.nm)]);let an:upd H m (.lst #[Bh (.cov d.nm)]) m=g (.lst #[Bh (.cov d.nm)]):=Aa;refine W9 C #[g (.ref a),g (.str d.nm),g tv,g (.ref s),g (.ref l),g (.bl d.wt),g (.ref m)] rfl λN C=>?_;let F:∀A,Ae H A->A m=g (.lst (#[Bh (.cov d.nm)]++(Ia d).map Bh))->N #[g (.ref a),g (.str d.nm),g tv,g (.ref s),g (.ref l),g (.bl d.wt),g (.ref m)] A:=by
  clear an s1;intro H2 U R;refine Fn C λN C=>?_;refine[_,I,_,I,s,I,[_,Al.of (U _ _ h3)],λb nb=>?_];refine Ez (K:=K) (a:=s) (xs:=cs) (λi E k=>E=(d.cl.take i).map (λc=>Bh (.cls c))/\k b=g (.lst E)/\Ae H2 k) [I,Aa,Ad nb _]
   (λi E k _ ⟨e,h1,X⟩=>[h1,by rw[e,zAb,zAq];lia,Al.of (X _ _ (U _ _ h3))]) (by rw[ac,zCy];lia) (λi x E k hi ⟨e,h1,X⟩=>?_) (λE k ⟨e,ak,X⟩=>?_)
  .let[c,ec,ct]:=h4.get hi
   refine[_,I,x,c,I,(ct.same U).same X,h1,I,?_,Aa,λb' o z=>?_]
   .rw[Df ec,zAf,e]
    rfl
   .rw[Ak (Ai z nb)]
    exact X _ _ z
  rw[ac,zAB]at e;subst e;let ah:=X _ _ R;refine[m,b,_,_,I,I,ah,ak,?_,λr nr=>?_]
  .rw[zAc,zAb,zAb,zCy];show 1+_+_<=_;lia
  let s4:Ae H (upd k r (.lst (#[Bh (.cov d.nm)]++(Ia d).map Bh++d.cl.map (λc=>Bh (.cls c))))):=U.trans (X.trans (Ad nr _));let ad:upd k r (.lst (#[Bh (.cov d.nm)]++(Ia d).map Bh++d.cl.map (λc=>Bh (.cls c)))) r=g (.lst (#[Bh (.cov d.nm)]++(Ia d).map Bh++d.cl.map (λc=>Bh (.cls c)))):=Aa;let fr:H r=M:=(U.trans X).free nr;generalize upd k r (.lst (#[Bh (.cov d.nm)]++(Ia d).map Bh++d.cl.map (λc=>Bh (.cls c))))=H4 at s4 ad;clear ak ah X nb R U;refine W9 C #[g (.ref a),g (.str d.nm),g tv,g (.ref s),g (.ref l),g (.bl d.wt),g (.ref r)] rfl λN C=>?_;let F:∀A,Ae H A->A r=g (.lst (#[Bh (.cov d.nm)]++(Ia d).map Bh++d.cl.map (λc=>Bh (.cls c))++(Nu d).map Bh))->N #[g (.ref a),g (.str d.nm),g tv,g (.ref s),g (.ref l),g (.bl d.wt),g (.ref r)] A:=by
   clear ad s4;intro H5 W L;refine Fn C λN C=>?_;let F:∀A,Ae H A->A r=g (.lst (#[Bh (.cov d.nm)]++(Ia d).map Bh++d.cl.map (λc=>Bh (.cls c))++(Nu d).map Bh++(Lc d).map Bh))->N #[g (.ref a),g (.str d.nm),g tv,g (.ref s),g (.ref l),g (.bl d.wt),g (.ref r)] A:=by
    intro H6 j af;subst C;rw[<- Uv]at af;exact[_,I,q r H6 j fr af]
   refine[_,I,_,I,?_];cases ew:d.wt with
   |false=>
    rw[ew]at F;refine Gr (F H5 W ?_);rw[L];unfold Lc;rw[ew];simp
   |true=>
    rw[ew]at F;refine Fc [_,I,.inl [I,_,Al.of L],r,_,_,I,I,L,?_,F _ (λc o e=>by rw[Ak (Ai e fr)];exact W _ _ e) ?_]
    .rw[zAc,zAc,zAc,zAb,zAb,zAb,zCy];show 1+_+_+_<_;lia
    .rw[Aa];unfold Lc;rw[ew];rfl
  let ao:(#[Bh (.cov d.nm)]++(Ia d).map Bh++d.cl.map (λc=>Bh (.cls c))).length<sizeLine:=by
   rw[zAc,zAc,zAb,zAb,zCy];show 1+_+_<_;lia
  refine[_,I,_,I,aq,λS n2=>[u,λl2 n3=>?_]];let t1:=Ad n2 (.tup #[.str d.nm,.int 1]);let t3:=Ad n3 (.lst #[.ref S]);let ag:upd (upd H4 S (.tup #[.str d.nm,.int 1])) l2 (.lst #[.ref S]) S=g (.tup #[.str d.nm,.int 1]):=t3 _ _ Aa;let am:upd (upd H4 S (.tup #[.str d.nm,.int 1])) l2 (.lst #[.ref S]) l2=g (.lst #[.ref S]):=Aa;let W:=s4.trans (t1.trans t3);let L:=t3 _ _ (t1 _ _ ad);generalize upd (upd H4 S (.tup #[.str d.nm,.int 1])) l2 (.lst #[.ref S])=H5 at ag am W L;let rp:jT H5 #[.ref S] (Wv #[(d.nm,1)]):=[[S,I,ag],trivial];let ar:=EA d.hs;let az:=EA #[(d.nm,1)];refine[lX,GY d.hs,GY #[(d.nm,1)],Oa (W _ _ h5) (C7 _ (h6.mono (Jb W))),Oa am (C7 _ rp),Z,_,I,?_];show if (!eqDs (GY d.hs) (GY #[(d.nm,1)]))=lY then _ else _;rw[XW];by_cases c1:d.hs=#[(d.nm,1)]
  .refine nF c1 (F _ W ?_)
   rw[L];unfold Nu;rw[mS c1];simp
  .refine nT c1 ?_
   let aa:=ok.hs;refine[_,I,.inl [I,_,Al.of L],I,_,I,l,I,[_,Al.of (W _ _ h5)],λb nb=>?_];let ai:xs.length=d.hs.length:=by rw[h6.len];unfold Wv;rw[zAb]
   let l3:=aa.2.1;let al:=aa.1;refine BC (K:=K) (a:=l) (xs:=xs) (λi E H6=>E=((d.hs.take i).map XF).map V.str/\H6 b=g (.lst E)/\Ae H5 H6) [I,Aa,Ad nb _]
    (λi E H6 _ ⟨e,g1,j⟩=>[g1,by rw[e,zAb,zAb,zAq];lia,Al.of (j _ _ (W _ _ h5))]) (by rw[ai,zCy];lia) (λi x E H6 hi ⟨e,g1,j⟩=>?_) (λE H6 ⟨e,g1,j⟩=>?_)
   .let[t,p,ep,rfl,ap]:=h6.get hi
    unfold Wv at ep;rw[zAt]at ep;let[y,ey,rfl]:=zAI.mp ep;let[y1,y2,y3]:=aa.2.2 y (zAz ey);let e1:(O " ").length=1:=by ac_nf
    let ef:((toString y.2:String):J)=tx (Di y.2.toNat):=by rw[<- Jo];congr 2;lia
    let a8:=Ga y1;let b3:(Di y.2.toNat).length<=3:=Es Y Z;refine[t,_,_,I,Da.of (j _ _ (W _ _ ap)),_,I,_,_,I,I,by rw[e1,zCy];lia,_,I,_,I,Ge Z Z,_,_,I,I,?_,g1,I,?_,Aa,λc o z=>?_]
    .rw[ef,Do,e1,Dg,zCy];lia
    .rw[ef,Df ey,zAf,zAf,e]
     rfl
    .rw[Ak (Ai z nb)]
     exact j _ _ z
   rw[ai,zAB]at e;subst e;refine[_,b,d.hs.map XF,I,I,.inl (Al.of g1),by rw[zAb];lia,by rw[zAb];lia,G,λy hy=>?_,?_]
   .let[z,hz,rfl]:=zAv.mp hy
    let[y1,y2,y3]:=aa.2.2 z hz;let:=BY y1 y2 y3
    lia
   let e6:(O "share ").length=6:=by ac_nf
   let jl:=Ik (z:=O " ") (B:=20) (ps:=d.hs.map XF) λy hy=>by
    let[z,hz,rfl]:=zAv.mp hy;let[y1,y2,y3]:=aa.2.2 z hz;exact BY y1 y2 y3
   let e1:(O " ").length=1:=by ac_nf
   rw[e1,zAb]at jl;refine[_,_,I,I,by rw[e6,zCy];lia,?_];rw[QF (λz=>by rw[z]at al;simp at al)];refine[r,_,_,I,I,j _ _ L,ao,F _ (λc o e=>by rw[Ak (Ai e fr)];exact j _ _ (W _ _ e)) ?_];rw[Aa];unfold Nu;rw[mK c1];rfl
 refine[_,I,u,λtt nt=>?_];let t1:=Ad nt (.tup #[.str (O "always")]);let U:=s1.trans t1;let R:=t1 _ _ an;let dp:=X9 d.t;refine[lY,Vd d.t,#[.at (.str "always")],Z5 _ (Bi.same U _ h2),Jd Aa (Dp (Cm I) Fv),by simp[deps,Qw];lia,_,I,?_];show if (!eqDs (Vd d.t) #[.at (.str "always")])=lY then _ else _;rw[XX];cases c:Pf d.t with
 |true=>
  refine Gr (F _ U ?_);rw[R];unfold Ia;rw[c];rfl
 |false=>
  refine Fc [_,I,.inl [I,_,Al.of R],_,I,tv,d.t,I,Bi.same U _ h2,hg,ae,aj,λk X=>?_];let le:=Pp (Ow ae) aj;let e5:(O "when ").length=5:=by ac_nf
  refine[_,_,I,I,by rw[e5,zCy];lia,?_];rw[Wm ae];refine[m,_,_,I,I,X _ _ R,by show 1<sizeLine;rw[zCy];decide,F _ (λc o e=>by rw[Ak (Ai e nm)];exact X _ _ (U _ _ e)) ?_];rw[Aa];unfold Ia;rw[c];rfl
def Y1:Jc f 13 "_law_rows" #["_law_covers_here"] aA:=Os f.z f.qg #["_law_covers_here","_law_rows_here","_law_cover"] df λX H Q t h=>by
 let[a,xs,L,rfl,j,s,l8,c,q]:=h;refine[_,(Ab (Fk X 1 (Ca Iw))
   (Ab (Gc nK I (Em (pv 0)) (Ot X 2)
    (Ac (Fk X 1 (Au Ef (pv 1) (Gg (Ul f) t (Cf (pv 2)))))))
   (Ac (Ay (pv 1))))),?_]
 refine[zAy _,λk N=>?_];refine Ic #[g (.ref a),g (.ref k),M] rfl ?_;let p:=Ad N (.lst []);let e:=s.len;refine[_,I,a,I,[_,Al.of (p _ _ j)],?_];refine Po (K:=K) (a:=a) (xs:=xs) (λi W F=>∃m o,W=#[g (.ref a),g (.ref m),o]/\Ae H F/\H m=M/\F m=g (.lst (((L.take i).flatMap Ek).map Bh))) [k,M,I,p,N,Aa] (λi W F _ ⟨_,_,_,z,_⟩=>Al.of (z _ _ j)) ?_ ?_
 .rintro i x W F u ⟨m,o,rfl,z,b,U⟩
  let[d,C,n]:=s.get u;let S:=c d (zAz C);refine[_,I,_,I,x,d,I,n.same z,S,λl H3 A nl y=>?_];let aa:((L.take i).flatMap Ek).length<=12*i:=by
   let:∀l:List LC,(∀d∈l,d.cl.length<=8)->(l.flatMap Ek).length<=12*l.length:=λl=>by
    induction l with
    |nil=>intro _;simp
    |cons a l v=>
     intro h;let h1:=Kk (h a zZ);let h2:=v λd R=>h d (by simp[R]);rw[zCt,zAc,zAd]
     lia
   let h:=this (L.take i) λd R=>(c d (zAW R)).ok.cl.1;let:(L.take i).length<=i:=yA _ _
   lia
  let il:i<L.length:=(zAs.mp C).1;let cb:=Kk S.ok.cl.1;refine[m,l,_,_,I,I,A _ _ U,y,?_,λr E=>?_]
  .rw[zAb,zAb,zCy];lia
  refine[r,_,I,(z.trans A).trans (Ad E _),(z.trans A).free E,?_];rw[Aa,Df C,zCh,zAf];simp
 .rintro W F ⟨m,o,rfl,z,b,U⟩
  rw[e,zAB]at U;exact[_,I,q m F z b U]
end
structure gX(hs:List (J×Int)):Prop where
 sh:Mi (.shr hs)
 nd:(hs.map (·.1)).Nodup
 gw:CR.GW (hs.map (·.2))
structure OE(PL:List J):Prop where
 l4:PL.length=4
 nd:PL.Nodup
 ok:∀z∈PL,nameV (.str z)=B
inductive SU  (vs:List V)(H:Hp)(Q:VK):Prop
 |mk (c:Int) (pl:_) (PL:_) (z0:vs=#[.int c,.ref pl]) (z1:0<=c) (z2:H pl=g (.lst (PL.map V.str))) (z3:OE PL) (z4:∀r xs hs H',Ae H H'->Nw H H' r=g (.lst xs)->jT (Nw H H') xs (Wv hs)->gX hs->Q (.ref r) H'):SU  vs H Q
def gA:Sp:=λC H Q x=>SU  C H Q
inductive V5(K:zAa)(vs:List V)(H:Hp)(Q:VK):Prop
 |mk (a:_) (ns:_) (z0:vs=#[.ref a]) (z1:Al K H a (oA V.int ns)) (z2:ns.length<=63) (z3:∀w ra rb rc rd rp,∀B C D PL:List J,∀H',Ae H H'->H' w=g (.lst #[.ref ra,.ref rb,.ref rc,.ref rd,.ref rp])->H' rb=g (.lst (B.map V.str))->H' rc=g (.lst (C.map V.str))->H' rd=g (.lst (D.map V.str))->H' rp=g (.lst (PL.map V.str))->GO B->GO C->GO D->B.length=3->C.length=3->D.length=3->OE PL->Q (.ref w) H'):V5 K vs H Q
def QR(K:zAa):Sp:=λC H Q x=>V5 K C H Q
def OC{ns:List J}(h:GO ns)(l:ns.length=3):OE (ns++#[O "self"]):=by
 refine[by rw[zAc,l];rfl,?_,λz F=>?_]
 .rw[zBg]
  refine[h.nd,zZ,λa L b C e=>?_];rw[zAp.mp C]at e;exact(h.ok a L).2.2 e
 .rcases zAE.mp F with F|F
  .exact(h.ok z F).1
  .rw[zAp.mp F];decide +kernel
def MV{ns:List J}(h:GO ns):∀z∈ns,N6 z:=λz F=>[z.cps.toList,(Hq z).symm,mU (h.ok z F).1]
section
seal L2.PS L2.PSs L2.PE L2.PA
variable {P:mF} {w:mR} {K:zAa} {mg:J->Option lV} {base:mX} (d:Pm P w K mg base)
def E8:Jc d 1 "_law_houses" #["_law_cell_here","_law_pool"] gA:=Os d.z d.o6 #["_law_cell_here","_law_pool","_law_found","_law_j","_law_weight"] df λsc H Q hr h=>by
 let[c,A,U,rfl,c0,aa,[l4,nd,ac],q]:=h;refine[_,(Ab (Fk sc 2 (Ca Iw))
   (Ab (Gc nK I (Gb I (d.z.nn d.ay) (Cf (Au Ea Ah (Au Dk (pv 0) Ah)))) (Ot sc 3)
    (Ab (Fk sc 4 (Au Ea Ah (Au Dk (Au Dt (pv 0) (Au Ea Ah (Au Jq Ah (pv 3)))) Ah)))
   (Ac (Ct (Fg mJ mM mL Dx (pv 2) (Cf (Du (Dy (Cr By (pv 1) (Au Dk (Au Ea (Au Dt (pv 0) Ah) (pv 3)) (Ix Bg d.z d.ag (Cf (pv 1)))) (λ_ _=>I)) (pv 4)))))))))
   (Ac (Ay (pv 2))))),?_]
 let ae:2<=sizeLine:=by rw[zCy];decide
 refine[zAy _,λr u=>?_];refine Ic #[g (.int c),g (.ref A),g (.ref r),M,M] rfl ?_;let s1:=Ad u (.lst []);let m3:=md (a:=c) (b:=3) Y;refine[_,I,_,_,I,I,(by show(0:Int)<3;decide),_,_,I,I,_,I,Z,Z,?_];let lp:(U.map V.str).length=4:=by rw[zAb,l4]
 let nn:(1+c%3).toNat<=3/\1<=(1+c%3).toNat:=by lia
 generalize (1+c%3).toNat=n at nn;refine Kj (lo:=0) (n:=n) (λi σ X=>(∃m v,σ=#[g (.int c),g (.ref A),g (.ref r),m,v])/\Ae H X/\∃W S,X r=g (.lst W)/\jT (Nw H X) W (Wv S)/\S.length=i/\(S.map (·.1)).Nodup/\(∀x∈S,nameV (.str x.1)=B/\1<=x.2/\x.2<=4/\∃k:Nat,k<i/\U[((c/3+(k:Int))%4).toNat]?=g x.1)/\(S.map (·.2)).sum<=4*(i:Int))
  [[M,M,I],s1,[],[],Aa,trivial,I,zZ,(λ_ z=>nomatch z),zZ] ?_ ?_
 .rintro i σ X hi ⟨⟨m,v,rfl⟩,R,W,S,F,s,lh,C,L,sm⟩
  let dv:(0:Int)<9+7*(0+(i:Int))/\9+7*(0+(i:Int))<1073741824:=by lia
  refine[_,I,_,I,_,_,I,I,.inl [Y,Y],_,_,I,I,_,_,I,I,dv,_,_,I,I,(by show(0:Int)<4;decide),_,_,I,I,?_];let m4:=md (a:=c/(9+7*(0+(i:Int)))) (b:=4) Y;refine Ux 1 4 [Z,Z] λl w1 w4=>?_;refine Ic #[g (.int c),g (.ref A),g (.ref r),g (.int (0+(i:Int))),g (.int l)] rfl ?_;let mm:=md (a:=c/3+(0+(i:Int))) (b:=4) Y;let p:(0+(i:Int))=(i:Int):=by lia
  rw[p]at mm;let[j,ej]:=nJ mm.1;let jl:j<U.length:=by lia
  let af:Ob (U.map V.str) ((c/3+(0+(i:Int)))%((U.map V.str).length:Int))=g (.str U[j]):=by
   rw[lp,p,show(((4:Nat):Int))=4 from rfl,ej];exact Gk (by rw[zAt,zAi jl];rfl)
  refine[_,I,.inl [I,_,Al.of F],_,I,_,I,_,_,I,I,[Y,Y],_,I,_,_,I,I,_,I,A,_,I,.inl (Al.of (R _ _ aa)),_,_,I,I,(by show(0:Int)<((U.map V.str).length:Int);rw[lp];decide),A,_,_,_,I,I,Al.of (R _ _ aa),af,_,I,ae,λt f=>?_];let s3:=Ad f (.tup #[.str U[j],.int l]);let lx:W.length=S.length:=by rw[s.len];unfold Wv;rw[zAb]
  refine[r,_,_,I,I,s3 _ _ F,by rw[lx,lh,zCy];lia,[_,_,I],λb o e=>?_,W++#[.ref t],S++#[(U[j],l)],Aa,?_,by rw[zAc,lh];rfl,?_,?_,?_]
  .rw[Ak (Ai e u)]
   exact s3 _ _ (R _ _ e)
  .have ab:t≠r:=λz=>by rw[z,F]at f;cases f
   unfold Wv;rw[zAf];refine jT.app (s.mono λb zs e=>?_) (jT.one (t:=t) (Nw.of (R.free f) (by rw[Ak ab,Aa])));let[p,e]:=Nw.at e;refine Nw.of p ?_;rw[Ak (Jy e F (by intro z;cases z))];exact s3 _ _ e
  .rw[zAf,zBg]
   refine[C,zZ,λa ha b hb e=>?_];let hb:b=U[j]:=by simpa using hb
   let[x,N,rfl]:=zAv.mp ha;let[_,_,_,k,hk,E]:=L x N;rw[e,hb]at E;let m2:=md (a:=c/3+(k:Int)) (b:=4) Y;let[j2,ad]:=nJ m2.1;rw[ad]at E;let[ag,e3]:=zAs.mp E;let:=(y9 nd).mp e3;let e4:((j2:Nat):Int).toNat=j2:=by lia
   lia
  .intro x N
   rcases zAE.mp N with N|N
   .let[a1,a2,a3,k,hk,E]:=L x N
    exact[a1,a2,a3,k,Z,E]
   .rw[zAp.mp N]
    refine[ac _ (zBp _),w1,w4,i,Z,?_];rw[ej];exact zAi jl
  .rw[zAf,List.sum_append]
   show _+(l+0)<=4*((i+1:Nat):Int)
   lia
 .rintro σ X ⟨⟨m,v,rfl⟩,R,W,S,F,s,lh,C,L,sm⟩
  refine[_,I,q r W S X R (Nw.of u F) s [[Z,Z,λx N=>?_],C,[?_,?_,?_,?_]]]
  .let[a1,a2,a3,_]:=L x N
   exact[a1,a2,Z]
  .rw[zAb];lia
  .rw[zAb];lia
  .intro x N
   let[y,hy,rfl]:=zAv.mp N;exact(L y hy).2.1
  .lia
def Q8:Jc d 2 "_law_world" #["_law_script"] (QR K):=Os d.z d.pd #["_law_script","_law_cell_here","_law_pool"] df λs H Q W h=>by
 let[a,ns,rfl,ha,ac,q]:=h;refine[_,(Ab (Fk s 1 (Gg (Gj d) W (Cf (Gg (Gi d) W (Dy (pv 0) Ah)))))
   (Ab (Fk s 2 (Au Ef (Gg (Kt d) W (Dy (Au Dt (pv 1) Ah) Ah)) (Ca (Cf Aj))))
   (Ac (Ay (Ca (Aw (Gg (Kt d) W (Dy (Au Dt (pv 1) Ah) Ah)) (Aw (Gg (Kt d) W (Dy (Au Dt (pv 1) Ah) Ah)) (Aw (Gg (Kt d) W (Dy (Au Dt (pv 1) Ah) Ah)) (Dy (Gg (Kt d) W (Dy (pv 1) Ah)) (pv 2)))))))))),?_]
 let E:1<=sizeLine:=by rw[zCy];decide
 let L:5<=sizeLine:=by rw[zCy];decide
 refine[_,I,a,ns,1,I,ha,Y,ac,_,I,λr f r1=>?_];refine Ic #[g (.ref a),g (.int r),M] rfl ?_;let C:∀{k:Int},0<k->0<=r/k:=λh=>u7 f Z;refine[_,I,_,_,I,I,[Y,Y],_,3,I,C Y,Y,Y,λp0 z c s1 n1 h1 n X=>?_];let X:z.length=3:=by lia
 refine[E,λb af=>?_];let p:=Ad af (.lst #[.str (O "self")]);refine[p0,b,_,_,I,I,p _ _ h1,Aa,by rw[zAb,X,zCy];decide,λF ad=>?_];let S:upd (upd c b (.lst #[.str (O "self")])) F (.lst (z.map V.str++#[.str (O "self")])) F=g (.lst ((z++#[O "self"]).map V.str)):=by rw[Aa,zAf];rfl
 let y:=s1.trans (p.trans (Ad ad (.lst (z.map V.str++#[.str (O "self")]))));generalize upd (upd c b (.lst #[.str (O "self")])) F (.lst (z.map V.str++#[.str (O "self")]))=H3 at S y;refine Ic #[g (.ref a),g (.int r),g (.ref F)] rfl ?_;refine[_,I,_,_,I,I,[Y,Y],_,3,I,C Y,Y,Y,λj A4 H4 u n4 h4 ag l4=>?_];refine[_,I,_,_,I,I,[Y,Y],_,3,I,C Y,Y,Y,λl B5 H5 o n5 h5 e l5=>?_];refine[_,I,_,_,I,I,[Y,Y],_,3,I,C Y,Y,Y,λv C6 H6 A n6 h6 aa l6=>?_];refine[_,I,r,3,I,f,Y,Y,λt i H7 U n7 x R l7=>?_];refine[_,I,L,λwl m=>?_];let N:=Ad m (.lst #[.ref j,.ref l,.ref v,.ref t,.ref F]);exact q wl j l v t F B5 C6 i (z++#[O "self"]) _ (y.trans (u.trans (o.trans (A.trans (U.trans N))))) Aa (N _ _ (U _ _ (A _ _ h5))) (N _ _ (U _ _ h6)) (N _ _ x) (N _ _ (U _ _ (A _ _ (o _ _ (u _ _ S))))) e aa R Z Z Z (OC n X)
end
def lH.mono{v:V}{c:Cl}(h:lH b v c)(s:∀t z,b t=g (.tup z)->d t=g (.tup z)):lH d v c:=by
 let[t,r,e,h,k]:=h;exact[t,r,e,s _ _ h,k]
inductive BW(K:zAa)(vs:List V)(H:Hp)(Q:VK):Prop
 |mk (a:_) (ns:_) (nl:_) (th:_) (ca:_) (pl:_) (u:Int) (D B C PL:List J) (E0:List T) (z0:(∀e∈E0,∃o,H e=g o)) (z1:vs=#[.ref a,.int 2,.ref nl,.ref th,.ref ca,.int u,.ref pl]) (z2:Al K H a (oA V.int ns)) (z3:ns.length<=63) (z4:Up u) (z5:H nl=g (.lst (D.map V.str))) (z6:H th=g (.lst (B.map V.str))) (z7:H ca=g (.lst (C.map V.str))) (z8:H pl=g (.lst (PL.map V.str))) (z9:GO B) (z10:GO C) (z11:GO D) (z12:B.length=3) (z13:C.length=3) (z14:D.length=3) (z15:OE PL) (z16:∀r xs ls H',Ae H H'->H' r=g (.lst xs)->jN (kH (Ap E0 H')) xs ls->ls.map (·.nm)=D->(∀d∈ls,QX d)->Q (.ref r) H'):BW K vs H Q
def IJ(K:zAa):Sp:=λC H Q x=>BW K C H Q
section
seal L2.PS L2.PSs L2.PE L2.PA
variable {P:mF} {w:mR} {K:zAa} {mg:J->Option lV} {base:mX}
def Yk:Cb #["_law_script","_law_start","_law_names_here","_law_things","_law_causes","_law_unit_here","_law_pool","_law_covers_here","_law_c","_law_shape","_law_clauses","_law_k","_law_cond_here"] #["_law_script","_law_start","_law_names_here","_law_things","_law_causes","_law_unit_here","_law_pool"] (Av Mo):=by injections
def Xw(R:Pm P w K mg base){f:T}(F:Fw K "_law_covers" "_law_covers" Mo f fd) :
  Ar P w K mg base Jv 3 f fd #["_law_script","_law_start","_law_names_here","_law_things","_law_causes","_law_unit_here","_law_pool"] (IJ K):=by
 let sc:=Yk;bv_omega
 .let[_,_,_,_,_,_,_,_,_,_,_,_,_,rfl,_]:=h
  rfl
 let[a,ns,nl,th,ca,pl,u,D,l,C,PL,E0,aE,rfl,ha,ar,uo,au,a0,a2,aw,okB,ao,kM,lB,lC,lD,ap,q]:=h;refine[_,(Ab (Fk sc 7 (Ca Iw))
   (Ab (Gc nK I (Gb I (R.z.nn R.ay) (Cf (Ix Bg R.z R.ag (Cf (pv 2))))) (Ot sc 8)
    (Ab (Fk sc 9 (Gg (Gj R) hr (Cf (Gg (Gi R) hr (Dy (pv 0) (Au Ea (pv 1) (Au Jq Ah (pv 8))))))))
   (Ab (Fk sc 10 (Ca Iw))
   (Ab (Gc nK I (Gb I (R.z.nn R.ay) (Cf (Au Dk (Au Dt (pv 9) Ah) Ah))) (Ot sc 11)
    (Ac (Ct (Fg mJ mM mL Dx (pv 10) (Cf (Gg (Rc R) hr (Dy (Gg (Gj R) hr (Cf (Gg (Gi R) hr (Dy (pv 0) (Au Ea (Au Ea (Au Ea (pv 1) Ah) (Au Jq Ah (pv 8))) (pv 11)))))) (pv 5))))))))
   (Ab (Fk sc 12 (Gg (AO R) hr (Aw (Au Dt (pv 9) Ah) (Aw (pv 3) (Dy (pv 4) (pv 5))))))
   (Ac (Ct (Fg mJ mM mL Dx (pv 7) (Cf (Du (Aw (Cr By (pv 2) (pv 8) (λ_ _=>I)) (Aw (pv 12) (Aw (pv 10) (Dy (Gg (E8 R) hr (Dy (Au Dt (pv 9) Ah) (pv 6))) (Nr Dv (Au Dk (pv 9) Ah) Ah (Bf _))))))))))))))))
   (Ac (Ay (pv 7))))),?_]
 let an:5<=sizeLine:=by rw[zCy];decide
 refine[zAy _,λr nr=>?_];refine Ic #[g (.ref a),g (.int 2),g (.ref nl),g (.ref th),g (.ref ca),g (.int u),g (.ref pl),g (.ref r),M,M,M,M,M] rfl ?_;let s1:=Ad nr (.lst []);let ln:(D.map V.str).length=3:=by rw[zAb,lD]
 refine[_,I,nl,_,I,.inl (Al.of (s1 _ _ au)),_,I,by rw[ln];decide,by rw[ln];decide,?_];rw[ln];refine Kj (lo:=0) (n:=3) (λi σ H2=>(∃o8 o9 ae L N,σ=#[g (.ref a),g (.int 2),g (.ref nl),g (.ref th),g (.ref ca),g (.int u),g (.ref pl),g (.ref r),o8,o9,ae,L,N])/\Ae H H2/\∃xs ls,H2 r=g (.lst xs)/\jN (kH (Ap (r::E0) H2)) xs ls/\ls.map (·.nm)=D.take i/\(∀d∈ls,QX d))
  [[M,M,M,M,M,I],s1,[],[],Aa,.nil,I,λ_ z=>nomatch z] ?_ ?_
 .rintro i σ H2 hi ⟨⟨o8,o9,ae,L,N,rfl⟩,W,xs,ls,X,al,en,okl⟩
  refine[_,I,_,I,_,I,_,_,I,I,.inl [Y,Y],_,_,I,I,a,ns,2+4*(0+(i:Int)),I,W.seq ha,Z,ar,_,I,λsh aq a8=>?_];refine Ic #[g (.ref a),g (.int 2),g (.ref nl),g (.ref th),g (.ref ca),g (.int u),g (.ref pl),g (.ref r),g (.int (0+(i:Int))),g (.int sh),ae,L,N] rfl ?_;refine[zAy _,λp ad=>?_];refine Ic #[g (.ref a),g (.int 2),g (.ref nl),g (.ref th),g (.ref ca),g (.int u),g (.ref pl),g (.ref r),g (.int (0+(i:Int))),g (.int sh),g (.ref p),L,N] rfl ?_;let ac:∀{Hx:Hp} {ys:List V},Ae H Hx->Hx r=g (.lst ys)->∀e∈r::E0,∃o,Hx e=g o:=λs h e he=>by
   rcases zAg.mp he with rfl|he
   .exact[_,h]
   .let[o,z]:=aE e he;exact[o,s _ _ z]
  let s3:=Ad ad (.lst []);let a9:p≠r:=λz=>by rw[z,X]at ad;cases ad
  let m4:=md (a:=sh/4) (b:=4) Y;refine[_,I,_,_,I,I,[Y,Y],_,_,I,I,(by show(0:Int)<4;decide),_,I,Z,Z,?_];let nn:(sh/4%4).toNat<=3:=by lia
  generalize (sh/4%4).toNat=n at nn;refine Kj (lo:=0) (n:=n) (λk σ H3=>(∃L,σ=#[g (.ref a),g (.int 2),g (.ref nl),g (.ref th),g (.ref ca),g (.int u),g (.ref pl),g (.ref r),g (.int (0+(i:Int))),g (.int sh),g (.ref p),L,N])/\Ae H2 H3/\∃m S,H3 p=g (.lst m)/\jN (lH (Ap (r::E0) H3)) m S/\S.length=k) [[L,I],s3,[],[],Aa,.nil,I] ?_ ?_
  .rintro k σ H3 hk ⟨⟨af,rfl⟩,U,m,S,ab,aa,lk⟩
   refine[_,I,.inl [I,_,Al.of ab],_,I,_,I,_,_,I,I,_,I,_,_,I,I,.inl [Y,Y],_,_,I,I,_,I,_,_,I,I,a,ns,2+1+4*(0+(i:Int))+(0+(k:Int)),I,U.seq (W.seq ha),Z,ar,_,I,λdc az ba=>?_];refine[_,I,dc,u,I,az,uo,λt rw H4 y nt ht ai=>?_];let lc:m.length=k:=by rw[aa.len,lk]
   refine[p,_,_,I,I,y _ _ ab,by rw[lc,zCy];lia,[_,I],λb o e=>?_,m++#[.ref t],S++#[DH rw],Aa,?_,by rw[zAc,lk];rfl]
   .rw[Ak (Ai e ad)]
    exact y _ _ (U _ _ e)
   .have st:∀t9 zs,Ap (r::E0) H4 t9=g (.tup zs)->Ap (r::E0) (upd H4 p (.lst (m++#[.ref t]))) t9=g (.tup zs):=λt9 zs e=>by
     let[e0,e]:=Ap.at e;refine Ap.of e0 ?_;rw[Ak (Jy e (y _ _ ab) (by intro z;cases z))];exact e
    let so:Ae (Ap (r::E0) H3) (Ap (r::E0) H4):=Ap.mono (λb o e _=>y b o e) λx hx=>.inl hx;let nE:t∉r::E0:=λz=>by let[o,z]:=ac (W.trans U) (U _ _ X) _ z;rw[nt]at z;cases z
    exact(aa.imp λv c h=>(h.same so).mono st).app (.cons [t,rw,I,st _ _ (Ap.of nE ht),I,ai] .nil)
  .rintro σ H3 ⟨⟨af,rfl⟩,U,m,S,ab,aa,lk⟩
   let dv:0<=sh/16:=u7 aq Y;refine[_,I,_,_,I,I,[Y,Y],_,I,_,I,_,I,sh/16,u,th,ca,l,C,I,dv,uo,U _ _ (W _ _ a0),U _ _ (W _ _ a2),lB,lC,MV okB,MV ao,λtv t H4 y tr a7 hg=>?_];refine Ic #[g (.ref a),g (.int 2),g (.ref nl),g (.ref th),g (.ref ca),g (.int u),g (.ref pl),g (.ref r),g (.int (0+(i:Int))),g (.int sh),g (.ref p),af,g tv] rfl ?_;let ah:=y _ _ (U _ _ X);let il:i<D.length:=by lia
   let e0:(0+(i:Int))=(i:Int):=by lia
   let a6:Ob (D.map V.str) (0+(i:Int))=g (.str D[i]):=by
    rw[e0];exact Gk (by rw[zAt,zAi il];rfl)
   let av:0<=sh/11:=u7 aq Y;refine[_,I,.inl [I,_,Al.of ah],_,I,_,I,nl,_,_,_,I,I,Al.of (y _ _ (U _ _ (W _ _ au))),a6,_,I,_,I,_,I,_,_,I,I,[Y,Y],_,I,sh/11,pl,PL,I,av,y _ _ (U _ _ (W _ _ aw)),ap,λhl ys hs H5 s6 a4 px ak=>?_];refine[_,I,_,_,I,I,(by show(0:Int)<4;decide),I,an,λtt as=>?_];let s7:=Ad as (.tup #[.str D[i],tv,.ref p,.ref hl,.bl (decide (V.int (sh%4)=V.int 1))]);let am:=Aa (H:=H5) (a:=tt) (o:=.tup #[.str D[i],tv,.ref p,.ref hl,.bl (decide (V.int (sh%4)=V.int 1))]);generalize upd H5 tt (.tup #[.str D[i],tv,.ref p,.ref hl,.bl (decide (V.int (sh%4)=V.int 1))])=H6 at s7 am;generalize decide (V.int (sh%4)=V.int 1)=wt at am;let ag:=y.trans (s6.trans s7);let aj:=U.trans ag;let a3:=aj _ _ X;let a1:xs.length=i:=by
    rw[al.len];let:=nI oJ en;rw[zAb,zAq]at this
    lia
   refine[r,_,_,I,I,a3,by rw[a1,zCy];lia,[_,_,_,_,_,I],λb o e=>?_,xs++#[.ref tt],ls++#[[D[i],t,S,hs,wt]],Aa,?_,?_,?_]
   .rw[Ak (Ai e nr)]
    exact aj _ _ (W _ _ e)
   .have su:Ae (Ap (r::E0) H6) (Ap (r::E0) (upd H6 r (.lst (xs++#[.ref tt])))):=λb o e=>by
     let[e0,e]:=Ap.at e;exact Ap.of e0 (by rw[Ak (λz=>e0 (by rw[z];simp))];exact e)
    let so:Ae (Ap (r::E0) H2) (Ap (r::E0) H6):=Ap.mono (λb o e _=>aj b o e) λx hx=>.inl hx;let n3:Ae (Nw H3 H4) (Ap (r::E0) H6):=(Ap.new (ac (W.trans U) (U _ _ X))).trans (Ap.mono (λb o e _=>s7 _ _ (s6 _ _ e)) λx hx=>.inl hx);let n4:Ae (Nw H4 H5) (Ap (r::E0) H6):=(Ap.new (ac (W.trans (U.trans y)) ah)).trans (Ap.mono (λb o e _=>s7 _ _ e) λx hx=>.inl hx);let ax:Ae (Ap (r::E0) H3) (Ap (r::E0) H6):=Ap.mono (λb o e _=>ag b o e) λx hx=>.inl hx;let a5:tt∉r::E0:=λz=>by let[o,z]:=ac (W.trans (U.trans (y.trans s6))) (s6 _ _ ah) _ z;rw[as]at z;cases z
    let ay:p∉r::E0:=λz=>by let[o,z]:=ac W X _ z;rw[ad]at z;cases z
    refine(al.imp λv d h=>h.same (so.trans su)).app (.cons (kH.same [tt,tv,p,hl,m,ys,I,Ap.of a5 am,Bi.same n3 _ tr,Ap.of ay (ag _ _ ab),aa.imp λv c h=>h.same ax,n4 _ _ a4,px.mono (Jb n4)] su) .nil)
   .rw[zAf,en,Df (zAi il)]
    rfl
   .intro d hd
    rcases zAE.mp hd with hd|hd
    .exact okl d hd
    .rw[zAp.mp hd]
     let mD:=kM.ok _ (zBp il);refine[[[mD.1,mD.2.2],a7,[by show S.length<=8;lia,λc hc=>?_],ak.sh,ak.nd,ak.gw],hg];let[j,hj,ej]:=zBu hc;let jc:j<m.length:=by rw[aa.len];exact hj
     let[c',ec,ct]:=aa.get (zAi jc);rw[zAi hj]at ec;let:c'=c:=by rw[<- ej];exact(mI ec).symm
     subst this;let[_,r',_,_,er,ai]:=ct;rw[<- er];exact UR ai
 .rintro σ H2 ⟨⟨o8,o9,ae,L,N,rfl⟩,W,xs,ls,X,al,en,okl⟩
  refine[_,I,q r xs ls H2 W X (al.imp λv d h=>h.same (λb o e=>by let[e0,e]:=Ap.at e;exact Ap.of (λz=>e0 (zAh _ z)) e)) ?_ okl];rw[en,<- lD,zAB]
def K8(C:Pm P w K mg base):Jc C 3 "_law_covers" #["_law_script","_law_start","_law_names_here","_law_things","_law_causes","_law_unit_here","_law_pool"] (IJ K):=(W2 C.z C.oa bd).cal λf H F=>Xw C F
end
def gS:Bn->Option Ev
 |.when t=>g t
 |_=>M
def FK:Bn->Option Cl
 |.cls c=>g c
 |_=>M
def Rb:Bn->Bool
 |.when _=>B
 |_=>lX
def Ra:Bn->Bool
 |.shr _=>B
 |_=>lX
def Qv:Bn->Bool
 |.wts=>B
 |_=>lX
def Qx:Bn->Bool
 |.cls _=>B
 |_=>lX
def SZ:Bn->Bool
 |.cov _=>B
 |_=>lX
def PP(b:Bool):Nat:=if b=B then 1 else 0
def RX(rs:List Bn):∀d:Dr,(rs.foldl Dr.put d).nm=d.nm:=by
 induction rs with
 |nil=>intro d;rfl
 |cons r rs C=>intro d;rw[zBo,C];cases r<;>rfl
def PN(rs:List Bn):∀d:Dr,(rs.foldl Dr.put d).cl=d.cl++rs.filterMap FK:=by
 induction rs with
 |nil=>intro d;simp
 |cons r rs C=>intro d;rw[zBo,C];cases r<;>simp[Dr.put,FK,zBt]
def RL{t:Ev}(rs:List Bn):∀d:Dr,(∀F,Bn.when F∈rs->F=t)->((Bn.when t∈rs\/d.cd=g t)->(rs.foldl Dr.put d).cd=g t)/\((∀F,Bn.when F∉rs)->(rs.foldl Dr.put d).cd=d.cd):=by
 induction rs with
 |nil=>intro d _;exact[λh=>h.elim (λz=>nomatch z) id,λx=>I]
 |cons r rs H=>
  intro d h;let[L,C]:=H (d.put r) λF m=>h F (zAh _ m);refine[λz=>?_,λz=>?_]
  .rw[zBo]
   refine L ?_;rcases z with z|z
   .rcases zAg.mp z with z|z
    .subst z;exact .inr I
    .exact .inl z
   .cases r with
    |when F=>let:=h F zAl;subst this;exact .inr I
    |_=>exact .inr z
  .rw[zBo,C λF m=>z F (zAh _ m)]
   cases r with
   |when F=>exact mC zAl (z F)
   |_=>rfl
def PR{l:List (J×Int)}(rs:List Bn):∀d:Dr,(∀L,Bn.shr L∈rs->L=l)->((Bn.shr l∈rs\/d.sh=g l)->(rs.foldl Dr.put d).sh=g l)/\((∀L,Bn.shr L∉rs)->(rs.foldl Dr.put d).sh=d.sh):=by
 induction rs with
 |nil=>intro d _;exact[λh=>h.elim (λz=>nomatch z) id,λx=>I]
 |cons r rs H=>
  intro d h;let[C,S]:=H (d.put r) λF m=>h F (zAh _ m);refine[λz=>?_,λz=>?_]
  .rw[zBo]
   refine C ?_;rcases z with z|z
   .rcases zAg.mp z with z|z
    .subst z;exact .inr I
    .exact .inl z
   .cases r with
    |shr F=>let:=h F zAl;subst this;exact .inr I
    |_=>exact .inr z
  .rw[zBo,S λF m=>z F (zAh _ m)]
   cases r with
   |shr F=>exact mC zAl (z F)
   |_=>rfl
def RO(rs:List Bn):∀d:Dr,((Bn.wts∈rs\/d.wt=B)->(rs.foldl Dr.put d).wt=B)/\(Bn.wts∉rs->(rs.foldl Dr.put d).wt=d.wt):=by
 induction rs with
 |nil=>intro d;exact[λh=>h.elim (λz=>nomatch z) id,λx=>I]
 |cons r rs C=>
  intro d;let[F,L]:=C (d.put r);refine[λz=>?_,λz=>?_]
  .rw[zBo]
   refine F ?_;rcases z with z|z
   .rcases zAg.mp z with z|z
    .subst z;exact .inr I
    .exact .inl z
   .cases r with
    |wts=>exact .inr I
    |_=>exact .inr z
  .rw[zBo,L λm=>z (zAh _ m)]
   cases r with
   |wts=>exact mC zAl z
   |_=>rfl
structure NB(l:List (J×Int)):Prop where
 ok:∀z∈l.map (·.1),nameV (.str z)=B
 nd:(l.map (·.1)).Nodup
 gw:CR.GW (l.map (·.2))
theorem Sz{ds}{Q}{A}:∀(rs:List Bn) (d:Dr),Fx d->(∀r∈rs,Mi r/\SZ r=lX)->(∀l,Bn.shr l∈rs->NB l)->rs.countP Rb+PP d.cd.isSome<=1->rs.countP Ra+PP d.sh.isSome<=1->rs.countP Qv+PP d.wt<=1->rs.countP Qx+d.cl.length<=8->Lo (ds++#[rs.foldl Dr.put d]) Q A->Lo (ds++#[d]) (rs++Q) A
 |[],d,_,_,_,_,_,_,_,h=>h
 |r::rs,d,C,X,sh,N,H,U,R,h=>by
  let L:=X r zAl;let P:∀x∈rs,Mi x/\SZ x=lX:=λx E=>X x (zAh _ E);let S:∀l,Bn.shr l∈rs->NB l:=λl K=>sh l (zAh _ K);rw[zBo]at h;rw[uM]at N H U R;rw[zBc];cases r with
  |cov n=>let:=L.2;cases this
  |when t=>
   let e:d.cd=M:=by
    cases z:d.cd with
    |none=>rfl
    |some x=>rw[z]at N;simp[Rb,PP]at N
   let F:Fx (d.put (.when t)):=[C.nm,C.ns,C.cl,C.hs,C.gw];refine .put L.1 e F (Sz rs _ F P S ?_ ?_ ?_ ?_ h)
   .rw[e]at N;simp[Rb,PP,Dr.put]at N⊢;omega
   .simp[Ra,Dr.put]at H⊢;omega
   .simp[Qv,Dr.put]at U⊢;omega
   .simp[Qx,Dr.put]at R⊢;omega
  |cls c=>
   let b:d.cl.length+1<=8:=by simp[Qx]at R;omega
   let F:Fx (d.put (.cls c)):=[C.nm,C.ns,by show(d.cl++#[c]).length<=8;rw[zAc];exact b,C.hs,C.gw];refine .put L.1 (by show d.cl.length<=100;omega) F (Sz rs _ F P S ?_ ?_ ?_ ?_ h)
   .simp[Rb,Dr.put]at N⊢;omega
   .simp[Ra,Dr.put]at H⊢;omega
   .simp[Qv,Dr.put]at U⊢;omega
   .simp[Qx,Dr.put]at R⊢;omega
  |shr l=>
   let e:d.sh=M:=by
    cases z:d.sh with
    |none=>rfl
    |some x=>rw[z]at H;simp[Ra,PP]at H
   let W:=sh l zAl;let F:Fx (d.put (.shr l)):=[C.nm,C.ns,C.cl,[W.ok,W.nd],W.gw];refine .put L.1 e F (Sz rs _ F P S ?_ ?_ ?_ ?_ h)
   .simp[Rb,Dr.put]at N⊢;omega
   .rw[e]at H;simp[Ra,PP,Dr.put]at H⊢;omega
   .simp[Qv,Dr.put]at U⊢;omega
   .simp[Qx,Dr.put]at R⊢;omega
  |wts=>
   let e:d.wt=lX:=by
    cases z:d.wt with
    |false=>rfl
    |true=>rw[z]at U;simp[Qv,PP]at U
   let F:Fx (d.put .wts):=[C.nm,C.ns,C.cl,C.hs,C.gw];refine .put L.1 e F (Sz rs _ F P S ?_ ?_ ?_ ?_ h)
   .simp[Rb,Dr.put]at N⊢;omega
   .simp[Ra,Dr.put]at H⊢;omega
   .rw[e]at U;simp[Qv,PP,Dr.put]at U⊢;omega
   .simp[Qx,Dr.put]at R⊢;omega
structure Drawn(d:LC)(rs:List Bn):Prop where
 ex:∃a b,(a=#[Bn.when d.t]\/(a=[]/\Pf d.t=B))/\(b=#[Bn.shr d.hs]\/(b=[]/\d.hs=#[(d.nm,1)]))/\rs.Perm (d.cl.map Bn.cls++(a++b++Lc d))/\rs.filterMap FK=d.cl
def IC{t:Ev}(h:Pf t=B):t=.at .alw:=by
 cases t with
 |«at» c=>
  cases c with
  |alw=>rfl
  |_=>cases h
 |_=>cases h
def ZL{d:Dr}{l:LC}(H:d.nm=l.nm)(C:d.cd.getD (.at .alw)=l.t)(z:d.cl=l.cl)(L:d.sh.getD #[(d.nm,1)]=l.hs)(F:d.wt=l.wt):d.lc=l:=by
 cases l
 unfold Dr.lc;simp only at H C z L F;rw[C,z,L,F,H]
def FI{d:LC}{rs:List Bn}(C:TN d)(y:Drawn d rs){ds:List Dr}{N:List Bn}(l8:ds.length<8)(nn:d.nm∉ds.map (·.nm)):∃x:Dr,x.lc=d/\∀Q,Lo (ds++#[x]) N Q->Lo ds (Bn.cov d.nm::rs++N) Q:=by
 let[a,b,K,q,t,fm]:=y;let L:∀r,r∈rs↔r∈d.cl.map Bn.cls++(a++b++Lc d):=λr=>t.mem_iff;let mw:∀r∈Lc d,r=.wts/\d.wt=B:=λr P=>by
  unfold Lc at P
  split at P
  .exact[zAp.mp P,by assumption]
  .cases P
 let U:∀r∈rs,(∃c∈d.cl,r=.cls c)\/(r=.when d.t/\a=#[Bn.when d.t])\/(r=.shr d.hs/\b=#[Bn.shr d.hs])\/(r=.wts/\d.wt=B):=λr P=>by
  rcases zAE.mp ((L r).mp P)with z|z
  .let[c,j,rfl]:=zAv.mp z;exact .inl [c,j,I]
  rcases zAE.mp z with z|z
  .rcases zAE.mp z with z|z
   .rcases K with e|⟨e,_⟩
    .rw[e]at z;exact .inr (.inl [zAp.mp z,e])
    .rw[e]at z;cases z
   .rcases q with e|⟨e,_⟩
    .rw[e]at z;exact .inr (.inr (.inl [zAp.mp z,e]))
    .rw[e]at z;cases z
  .exact .inr (.inr (.inr (mw r z)))
 let H:∀p:Bn->Bool,rs.countP p=(d.cl.map Bn.cls).countP p+(a.countP p+b.countP p+(Lc d).countP p):=λp=>by rw[t.countP_eq,sZ,sZ,sZ]
 let n:∀p:Bn->Bool,(Lc d).countP p<=1:=λp=>zAG xD (Wh d).2.2;let E:∀p:Bn->Bool,a.countP p<=1/\(p (.when d.t)=lX->a.countP p=0):=λp=>by rcases K with rfl|⟨rfl,_⟩<;>simp[uM] ;split<;>simp_all
 let A:∀p:Bn->Bool,b.countP p<=1/\(p (.shr d.hs)=lX->b.countP p=0):=λp=>by rcases q with rfl|⟨rfl,_⟩<;>simp[uM] ;split<;>simp_all
 let R:∀p:Bn->Bool,p .wts=lX->(Lc d).countP p=0:=λp S=>by unfold Lc;split<;>simp[S]
 let k:∀p:Bn->Bool,(∀c,p (.cls c)=lX)->(d.cl.map Bn.cls).countP p=0:=λp S=>by
  rw[List.countP_eq_zero];intro x F;let[c,_,rfl]:=zAv.mp F;rw[S c];exact zAn
 let gn:=Wr C.nm;refine[rs.foldl Dr.put (Ld d.nm),?_,λQ h=>.cov C.nm l8 nn (Sz rs (Ld d.nm) gn (λr P=>?_) (λl hl=>?_) ?_ ?_ ?_ ?_ h)]
 rotate_left
 .rcases U r P with ⟨c,j,rfl⟩|⟨rfl,_⟩|⟨rfl,_⟩|⟨rfl,_⟩
  .exact[C.cl.2 c j,I]
  .exact[C.t,I]
  .exact[C.hs,I]
  .exact[trivial,I]
 .rcases U _ hl with ⟨c,_,e⟩|⟨e,_⟩|⟨e,_⟩|⟨e,_⟩
  .cases e
  .cases e
  .cases e
   refine[λz hz=>?_,C.nd,C.gw];let[x,F,rfl]:=zAv.mp hz;exact(C.hs.2.2 x F).1
  .cases e
 .rw[H,k Rb λ_=>I,(A Rb).2 I,R Rb I]
  let:=(E Rb).1;show 0+(_+0+0)+0<=1
  lia
 .rw[H,k Ra λ_=>I,(E Ra).2 I,R Ra I]
  let:=(A Ra).1;show 0+(0+_+0)+0<=1
  lia
 .rw[H,k Qv λ_=>I,(E Qv).2 I,(A Qv).2 I]
  let:=n Qv;show 0+(0+0+_)+0<=1
  lia
 .rw[H,(E Qx).2 I,(A Qx).2 I,R Qx I]
  let h1:(d.cl.map Bn.cls).countP Qx<=d.cl.length:=by rw[<- zAb (f:=Bn.cls)];exact xD
  let h2:=C.cl.1;show _+(0+0+0)+0<=8
  lia
 .have i:∀W,Bn.when W∈rs->W=d.t:=λW m=>by
   rcases U _ m with ⟨c,_,e⟩|⟨e,_⟩|⟨e,_⟩|⟨e,_⟩<;>cases e
   rfl
  let u2:∀s,Bn.shr s∈rs->s=d.hs:=λW m=>by
   rcases U _ m with ⟨c,_,e⟩|⟨e,_⟩|⟨e,_⟩|⟨e,_⟩<;>cases e
   rfl
  let[w1,w2]:=RL rs (Ld d.nm) i;let[v,w]:=PR rs (Ld d.nm) u2;let[x1,x2]:=RO rs (Ld d.nm);let X:(rs.foldl Dr.put (Ld d.nm)).nm=d.nm:=RX rs _;refine ZL X ?_ ?_ ?_ ?_
  .rcases K with e|⟨e,o⟩
   .rw[w1 (.inl ((L _).mpr (by rw[e];simp)))];rfl
   .rw[w2 λW m=>?_,IC o]
    .rfl
    .rcases U _ m with ⟨c,_,z⟩|⟨_,z⟩|⟨z,_⟩|⟨z,_⟩
     .cases z
     .rw[e]at z;cases z
     .cases z
     .cases z
  .rw[PN,fm];rfl
  .rcases q with e|⟨e,o⟩
   .rw[v (.inl ((L _).mpr (by rw[e];simp)))];rfl
   .rw[w λW m=>?_,o,X]
    .rfl
    .rcases U _ m with ⟨c,_,z⟩|⟨z,_⟩|⟨_,z⟩|⟨z,_⟩
     .cases z
     .cases z
     .rw[e]at z;cases z
     .cases z
  .cases u:d.wt with
   |true=>
    rw[x1 (.inl ((L _).mpr (by unfold Lc;rw[u];simp)))]
   |false=>
    rw[x2 λm=>?_]
    .rfl
    .rcases U _ m with ⟨c,_,z⟩|⟨z,_⟩|⟨z,_⟩|⟨_,z⟩
     .cases z
     .cases z
     .cases z
     .rw[u]at z;cases z
theorem EW:∀(P:List LC) (L:List (List Bn)),(∀d∈P,TN d)->jN Drawn P L->∀F:List Dr,F.length+P.length<=8->(F.map (·.nm)++P.map (·.nm)).Nodup->∃ds,Lo F ((rK (λd N=>Bn.cov (LC.nm d)::N) P L).flatten) ds/\ds.map Dr.lc=F.map Dr.lc++P
 |[],[],_,_,F,_,_=>[F,.nil,zZ]
 |d::P,N::L,W,.cons a H,F,X,C=>by
  rw[zAd]at X;rw[zAr]at C;let K:d.nm∉F.map (·.nm):=λz=>(zBg.mp C).2.2 _ z d.nm zZ I;let U:∀x:Dr,x.lc=d->∃ds,Lo (F++#[x]) ((rK (λd N=>Bn.cov (LC.nm d)::N) P L).flatten) ds/\ds.map Dr.lc=(F++#[x]).map Dr.lc++P:=λx S=>by
   let A:x.nm=d.nm:=by rw[<- S];rfl
   refine EW P L (λy b=>W y (zAh _ b)) H (F++#[x]) (by rw[zAc,zBe];lia) ?_;rw[zAf,zAr,zBr,A,zAw];exact C
  let R:∃x:Dr,x.lc=d/\∀Q,Lo (F++#[x]) ((rK (λd N=>Bn.cov (LC.nm d)::N) P L).flatten) Q->Lo F (Bn.cov d.nm::N++(rK (λd N=>Bn.cov (LC.nm d)::N) P L).flatten) Q:=FI (W d zAl) a Z K;let[x,S,E]:=R;let[ds,c,f]:=U x S;refine[ds,?_,?_]
  .rw[wE,zBf]
   exact E ds c
  .rw[f,zAf,zAw]
   show F.map Dr.lc++(#[x.lc]++P)=_;rw[S];rfl
 |[],_::_,_,h,_,_,_=>by cases h
 |_::_,[],_,h,_,_,_=>by cases h
def Q2{d:LC}:Drawn d (Ia d++(d.cl.map Bn.cls++(Nu d++Lc d))):=by
 refine[Ia d,Nu d,?_,?_,?_,?_]
 .unfold Ia
  by_cases c:Pf d.t=B
  .rw[mS c];exact .inr [I,c]
  .rw[mK c];exact .inl I
 .unfold Nu
  by_cases c:d.hs=#[(d.nm,1)]
  .rw[mS c];exact .inr [I,c]
  .rw[mK c];exact .inl I
 .rw[<- zAw,<- zAw,<- zAw,<- zAw]
  exact u5 _ (u5 _ List.perm_append_comm)
 .rw[r6,r6,r6]
  let z:(Ia d).filterMap FK=[]:=by unfold Ia;split<;>rfl
  let L:(Nu d).filterMap FK=[]:=by unfold Nu;split<;>rfl
  let F:(Lc d).filterMap FK=[]:=by unfold Lc;split<;>rfl
  rw[z,L,F,zAA,zAA,rT,List.filterMap_map];show d.cl.filterMap (λc=>g c)=d.cl;exact List.filterMap_some
structure kR(n:J)(ds:List Dr):Prop where
 nn:n∈ds.map (·.nm)
 gd:∀d∈ds,Fx d
 l8:ds.length<=8
def Ki(ds:List Dr)(x:J):Prop:=∃k r,x=mE (O " ") (k::r)/\(∀y∈k::r,okW y)/\(k::r).length<=100/\eF ds k r
def Ki.rw{K:zAa}{H:Hp}{ds:List Dr}{x:J}(h:Ki ds x):kD K H ds (.str x):=by
 let[k,r,e,h]:=h;exact .inr [k,r,by rw[e],h]
def XY(y:J):Bool := !(y.cps.toList.contains 32)&&decide (y.length<=100)
def okl{r:List J}(h:r.all XY=B):∀y∈r,okW y:=λy z=>by
 let:=zBE.mp h y z;unfold XY at this;rw[zAO]at this;exact[by simpa using this.1,mU this.2]
def okB(x k:J)(r:List J):Bool:=decide (x=mE (O " ") (k::r))&&(k::r).all XY&&decide ((k::r).length<=100)
def L8{x k:J}{r:List J}(h:okB x k r=B):x=mE (O " ") (k::r)/\(∀y∈k::r,okW y)/\(k::r).length<=100:=by
 unfold okB at h;rw[zAO,zAO]at h;exact[mU h.1.1,okl h.1.2,mU h.2]
def kR.last{n:J}{ds:List Dr}(h:kR n ds):∃z d,ds=z++#[d]/\Fx d:=by
 rcases xC ds with e|⟨z,d,e⟩
 .have:=h.nn
  rw[e]at this;exact mC this zZ
 .rw[xE]at e
  exact[z,d,e,h.gd d (by rw[e];simp)]
def Ft{n:J}{ds:List Dr}(h:kR n ds){x k:J}{r:List J}(e:(okB x k r&&decide (k≠O "cover"))=B)(Q:∀d,Fx d->YN d k r\/∃b:Bn,k::r=b.ws/\cO b/\kM d b/\¬Fx (d.put b)/\(d.put b).lc.hs.length<=900/\∀x∈(d.put b).lc.hs,x.1.length<=100):Ki ds x:=by
 rw[zAO]at e;let[S,P,U]:=L8 e.1;let[z,d,W,C]:=h.last;refine[k,r,S,P,U,.inr [mU e.2,.inr [z,d,W,?_]]];rcases Q d C with Q|⟨b,R,H,L,N,F⟩
 .exact .inl Q
 .exact .inr [b,R,H,L,N,by let:=Ga C.nm;lia,F]
def RE{d:Dr}{r:List J}(h:fL r):d.cd≠M\/(d.cd=M/\fL r):=by
 by_cases e:d.cd=M
 .exact .inr [e,h]
 .exact .inl e
def dN{d:Dr}{r:List J}(h:KR r):YN d (O "share") r:=by
 refine .inr (.inl [I,?_]);by_cases e:d.sh=M
 .exact .inr (.inr [e,h])
 .exact .inl e
def TH(l:List (J×Int)):Bool:=decide (l.length<=3)&&l.all λx=>decide (x.1.length<=100)&&decide (0<=x.2)&&decide (x.2<1000)
def YJ{l:List (J×Int)}(h:TH l=B):RM l:=by
 unfold TH at h;rw[zAO]at h;refine[mU h.1,λx z=>?_];let:=zBE.mp h.2 x z;rw[zAO,zAO]at this;exact[mU this.1.1,mU this.1.2,mU this.2]
def YL{d:Dr}{l:List (J×Int)}{r:List J}(e:r=E9 l)(H:RM l)(F:¬((∀z∈l.map (·.1),nameV (.str z)=B)/\(l.map (·.1)).Nodup/\CR.GW (l.map (·.2)))):YN d (O "share") r\/∃b:Bn,O "share" :: r=b.ws/\cO b/\kM d b/\¬Fx (d.put b)/\(d.put b).lc.hs.length<=900/\∀x∈(d.put b).lc.hs,x.1.length<=100:=by
 by_cases c:d.sh=M
 .refine .inr [.shr l,by rw[e];rfl,H,c,λC=>F [C.hs.1,C.hs.2,C.gw],?_,λx L=>(H.2 x L).1]
  let:=H.1;show l.length<=900
  lia
 .exact .inl (.inr (.inl [I,.inl c]))
def GK{ds:List Dr}{x:J}{r:List J}(e:okB x (O "cover") r=B)(C:r.length≠1\/∃n,r=#[n]/\(ds.length=8\/n∈ds.map (·.nm)\/(ds.length<8/\n∉ds.map (·.nm)/\¬Fx (Ld n)))):Ki ds x:=by
 let[z,L,F]:=L8 e;exact[_,r,z,L,F,.inl [I,C]]
def gB{ds:List Dr}(h:kR m ds){n:J}(z:(nameV (.str n)&&decide (n ≠ "self"))=lX):ds.length=8\/n∈ds.map (·.nm)\/(ds.length<8/\n∉ds.map (·.nm)/\¬Fx (Ld n)):=by
 by_cases c:ds.length=8
 .exact .inl c
 by_cases F:n∈ds.map (·.nm)
 .exact .inr (.inl F)
 refine .inr (.inr [by let:=h.l8;lia,F,λC=>?_]);let H:nameV (.str n)=B:=C.nm;let L:n ≠ "self":=C.ns;rw[H,mV L]at z;cases z
def UH{n:J}{ds:List Dr}(h:n∈ds.map (·.nm))(F:nameV (.str n)=B):Ki ds (O "cover "++n):=by
 refine[O "cover",#[n],Ss n,λy z=>?_,by show 2<=100;decide,.inl [I,.inr [n,I,.inr (.inl h)]]];rcases zAg.mp z with rfl|z
 .exact okl (r:=#[O "cover"]) G _ zZ
 .rw[zAp.mp z];exact Tf F
def fP{n:J}{ds:List Dr}(h:kR n ds)(z:nameV (.str n)=B):Ki ds (O "cover "++n):=UH h.nn z
def QB(a:J):a++O ""=a:=by
 let e:O ""=vR #v[]:=by ac_nf
 rw[e];show vR (a.cps ++ #v[])=a;rw[Array.append_empty]
def fQ{n:J}{ds:List Dr}(F:nameV (.str n)=B):Ki ds (O "cover "++n++O " "):=by
 refine[O "cover",#[n,O ""],?_,λy z=>?_,by show 3<=100;decide,.inl [I,.inl (by show 2≠1;decide)]]
 .rw[Kp,Kp]
  let e:mE (O " ") #[O ""]=O "":=rfl;let L:O "cover "=O "cover"++O " ":=by ac_nf
  rw[e,QB,L,Ey]
 .rcases zAg.mp z with rfl|z
  .exact okl (r:=#[O "cover"]) G _ zZ
  .rcases zAg.mp z with rfl|z
   .exact Tf F
   .rw[zAp.mp z];exact okl (r:=#[O ""]) G _ zZ
def C5(k:Nat)(z:J):J:=tx (zAe k z.cps.toList).flatten
def En(l m:List Nat):tx (l++m)=tx l++tx m:=by
 show vR (l++m).toArray=vR (l.toArray++m.toArray);rw[yC]
def NA(k:Nat)(z:J):C5 (k+1) z=z++C5 k z:=by
 unfold C5;rw[zAN,zBf,En,Hq]
theorem R1(a z:J):∀k,C5 k (a++z)++a=mE z (zAe (k+1) a)
 |0=>by
  show vR (#v[]++a.cps)=a;rw[Array.empty_append]
 |k+1=>by
  rw[NA,Ey,R1 a z k];rfl
def lN:List J:=Dh (O "and") (zAe 31 #[O "always"])
def VF:O "when "++C5 30 (O "always and ")++O "always"=mE (O " ") (O "when" :: lN):=by
 let z:O "always and "=O "always"++(O " "++O "and"++O " "):=by ac_nf
 let L:zAe 31 (O "always")=(zAe 31 #[O "always"]).map (mE (O " ")):=by
  rw[sY];rfl
 rw[Ey,z,R1,L,Uk (O "and") zZ (λx C=>by rw[zAK C];simp)];let F:O "when "=O "when"++O " ":=by ac_nf
 rw[Ln _ _ (by unfold lN;rw[zAN];simp[Dh]),F];rfl
def cT{n:J}{ds:List Dr}(h:kR n ds):Ki ds (O "when "++C5 30 (O "always and ")++O "always"):=by
 let[S,d,U,C]:=h.last;let F:lN.length=61:=by ac_nf
 let L:∀y∈lN,okW y:=okl G;refine[O "when",lN,VF,λy H=>?_,by rw[zAd,F];decide,.inr [G,.inr [S,d,U,.inl (.inl [I,RE [by rw[F];decide,L,lN,_,I,λz=>by rw[z]at F;simp at F,L,by rw[F];decide,.long (by rw[F];decide)]])]]];rcases zAg.mp H with rfl|H
 .exact okl (r:=#[O "when"]) G _ zZ
 .exact L y H
def fc{H:Type}{φ:H->Prop}{a:H}{l:List H}(h:φ a)(C:∀x∈l,φ x):∀x∈a::l,φ x:=λx z=>by
 rcases zAg.mp z with rfl|z
 .exact h
 .exact C x z
def Nf(n:J):List J:=#[O "waits ",O "waits now",O "when",O "when ",O "when cause",O "when always or",O "when cause Fire",O "When always",O "own event",O "own event 1",O "own day 1.00",O "own event 1.00 2.00",O "limit 1.00",O "limit year 01.00",O "layer event 2.00 2.00",O "layer event 3.00 2.00",O "layer event 1.00",O "layer thing 1.00 2.00 3.00",O "share",O "share acme",O "share acme 0",O "share acme 01",O "share acme 1 acme 2",O "share Acme 1",O "share acme 101",O "share acme 60 beta 41",O "share acme 1000",O "share acme +1",O "share acme 1 ",O "",O " ",O "cover",O "cover self",O "cover Barn",O "cover abcdefghi",O "cover barn x",O "covers",O "Cover barn",O "cover "++n,O "cover "++n++O " ",O "waits waits",O "own",O "when always ",O "limit",O "when not not not not not not not always",O "when ( ( ( ( ( ( ( always ) ) ) ) ) ) )",O "waits\n",O "cover\tbarn",O "limit year\t1.00",O "own\tevent 1.00",O "when "++C5 30 (O "always and ")++O "always",O "share acme\t1"]
def ZO{n:J}{ds:List Dr}(h:kR n ds)(F:nameV (.str n)=B){l:List J}(C:∀x∈l,Ki ds x):∀x∈(O "waits ")::(O "waits now")::(O "when")::(O "when ")::(O "when cause")::(O "when always or")::(O "when cause Fire")::(O "When always")::(O "own event")::(O "own event 1")::(O "own day 1.00")::(O "own event 1.00 2.00")::(O "limit 1.00")::l,Ki ds x:=
 fc (Ft h (k:=O "waits") (r:=#[O ""]) G λd C=>.inl (.inr (.inr (.inl [I,.inr zZ])))) <|
 fc (Ft h (k:=O "waits") (r:=#[O "now"]) G λd C=>.inl (.inr (.inr (.inl [I,.inr zZ])))) <|
 fc (Ft h (k:=O "when") (r:=[]) G λd C=>.inl (.inl [I,RE [Y,okl G,#[O ""],_,G,zZ,okl G,Y,.read Y (Fl.up (.atom [[G,G],.word (λx e=>by cases e;decide +kernel)]))]])) <|
 fc (Ft h (k:=O "when") (r:=#[O ""]) G λd C=>.inl (.inl [I,RE [Y,okl G,#[O ""],_,G,zZ,okl G,Y,.read Y (Fl.up (.atom [[G,G],.word (λx e=>by cases e;decide +kernel)]))]])) <|
 fc (Ft h (k:=O "when") (r:=#[O "cause"]) G λd C=>.inl (.inl [I,RE [Y,okl G,#[O "cause"],_,G,zZ,okl G,Y,.read Y (Fl.up (.atom [[G,G],.cause (λx e=>by cases e)]))]])) <|
 fc (Ft h (k:=O "when") (r:=#[O "always",O "or"]) G λd C=>.inl (.inl [I,RE [Y,okl G,#[O "always",O "or"],_,G,zZ,okl G,Y,.read Y (Fl.rowsN (dp:=0) (d:=0) (wss:=#[#[O "always"]]) (ts:=#[.at .alw]) (ws:=[]) (.cons (.row1 (.leaf (c:=.alw) (d:=0) trivial)) Y .nil) Y Y Y (.row0 (.atom [[zZ,zZ],.word (λx e=>by cases e)])))]])) <|
 fc (Ft h (k:=O "when") (r:=#[O "cause",O "Fire"]) G λd C=>.inl (.inl [I,RE [Y,okl G,#[O "cause",O "Fire"],_,G,zZ,okl G,Y,.read Y (Fl.up (.atom [[G,G],.cause (λx e=>by cases e;unfold bQ;decide +kernel)]))]])) <|
 fc (Ft h (k:=O "When") (r:=#[O "always"]) G λd C=>.inl (.inr (.inr (.inr [[G,G,G],trivial])))) <|
 fc (Ft h (k:=O "own") (r:=#[O "event"]) G λd C=>.inl (.inr (.inr (.inr [[G,G,G],trivial])))) <|
 fc (Ft h (k:=O "own") (r:=#[O "event",O "1"]) G λd C=>.inl (.inr (.inr (.inr [[G,G,G],λy=>.inl G])))) <|
 fc (Ft h (k:=O "own") (r:=#[O "day",O "1.00"]) G λd C=>.inl (.inr (.inr (.inr [[G,G,G],λy=>.inr [100,G,Y,by unfold Gz;decide +kernel]])))) <|
 fc (Ft h (k:=O "own") (r:=#[O "event",O "1.00",O "2.00"]) G λd C=>.inl (.inr (.inr (.inr [[G,G,G],λz=>mC z G])))) <|
 fc (Ft h (k:=O "limit") (r:=#[O "1.00"]) G λd C=>.inl (.inr (.inr (.inr [[G,G,G],trivial])))) <|
 C
def bD{n:J}{ds:List Dr}(h:kR n ds)(F:nameV (.str n)=B){l:List J}(C:∀x∈l,Ki ds x):∀x∈(O "limit year 01.00")::(O "layer event 2.00 2.00")::(O "layer event 3.00 2.00")::(O "layer event 1.00")::(O "layer thing 1.00 2.00 3.00")::(O "share")::(O "share acme")::(O "share acme 0")::(O "share acme 01")::(O "share acme 1 acme 2")::(O "share Acme 1")::(O "share acme 101")::(O "share acme 60 beta 41")::l,Ki ds x:=
 fc (Ft h (k:=O "limit") (r:=#[O "year",O "01.00"]) G λd C=>.inl (.inr (.inr (.inr [[G,G,G],λy=>.inl G])))) <|
 fc (Ft h (k:=O "layer") (r:=#[O "event",O "2.00",O "2.00"]) G λd C=>.inl (.inr (.inr (.inr [[G,G,G],λy=>.inr [200,G,Y,.inr [200,G,Y,.inr [by unfold Gz;decide +kernel,Y]]]])))) <|
 fc (Ft h (k:=O "layer") (r:=#[O "event",O "3.00",O "2.00"]) G λd C=>.inl (.inr (.inr (.inr [[G,G,G],λy=>.inr [300,G,Y,.inr [200,G,Y,.inr [by unfold Gz;decide +kernel,Y]]]])))) <|
 fc (Ft h (k:=O "layer") (r:=#[O "event",O "1.00"]) G λd C=>.inl (.inr (.inr (.inr [[G,G,G],λz=>mC z G])))) <|
 fc (Ft h (k:=O "layer") (r:=#[O "thing",O "1.00",O "2.00",O "3.00"]) G λd C=>.inl (.inr (.inr (.inr [[G,G,G],trivial])))) <|
 fc (Ft h (k:=O "share") (r:=[]) G λd C=>YL (l:=[]) G (YJ G) λz=>mC z.2.2.lo Y) <|
 fc (Ft h (k:=O "share") (r:=#[O "acme"]) G λd C=>.inl (.inr (.inl [I,.inr (.inl Y)]))) <|
 fc (Ft h (k:=O "share") (r:=#[O "acme",O "0"]) G λd C=>YL (l:=#[(O "acme",0)]) G (YJ G) λz=>mC (z.2.2.pos 0 zZ) Y) <|
 fc (Ft h (k:=O "share") (r:=#[O "acme",O "01"]) G λd C=>.inl (dN [_,_,I,G,G])) <|
 fc (Ft h (k:=O "share") (r:=#[O "acme",O "1",O "acme",O "2"]) G λd C=>YL (l:=#[(O "acme",1),(O "acme",2)]) G (YJ G) λz=>mC z.2.1 G) <|
 fc (Ft h (k:=O "share") (r:=#[O "Acme",O "1"]) G λd C=>YL (l:=#[(O "Acme",1)]) G (YJ G) λz=>mC (z.1 _ (List.mem_singleton_self _)) G) <|
 fc (Ft h (k:=O "share") (r:=#[O "acme",O "101"]) G λd C=>YL (l:=#[(O "acme",101)]) G (YJ G) λz=>mC z.2.2.sum Y) <|
 fc (Ft h (k:=O "share") (r:=#[O "acme",O "60",O "beta",O "41"]) G λd C=>YL (l:=#[(O "acme",60),(O "beta",41)]) G (YJ G) λz=>mC z.2.2.sum Y) <|
 C
def ZJ{n:J}{ds:List Dr}(h:kR n ds)(z:nameV (.str n)=B){l:List J}(C:∀x∈l,Ki ds x):∀x∈(O "share acme 1000")::(O "share acme +1")::(O "share acme 1 ")::(O "")::(O " ")::(O "cover")::(O "cover self")::(O "cover Barn")::(O "cover abcdefghi")::(O "cover barn x")::(O "covers")::(O "Cover barn")::(O "cover "++n)::l,Ki ds x:=
 fc (Ft h (k:=O "share") (r:=#[O "acme",O "1000"]) G λd C=>.inl (dN [_,_,I,G,G])) <|
 fc (Ft h (k:=O "share") (r:=#[O "acme",O "+1"]) G λd C=>.inl (dN [_,_,I,G,G])) <|
 fc (Ft h (k:=O "share") (r:=#[O "acme",O "1",O ""]) G λd C=>.inl (.inr (.inl [I,.inr (.inl Y)]))) <|
 fc (Ft h (k:=O "") (r:=[]) G λd C=>.inl (.inr (.inr (.inr [[G,G,G],trivial])))) <|
 fc (Ft h (k:=O "") (r:=#[O ""]) G λd C=>.inl (.inr (.inr (.inr [[G,G,G],trivial])))) <|
 fc (GK (r:=[]) G (.inl Y)) <|
 fc (GK (r:=#[O "self"]) G (.inr [_,I,gB h G])) <|
 fc (GK (r:=#[O "Barn"]) G (.inr [_,I,gB h G])) <|
 fc (GK (r:=#[O "abcdefghi"]) G (.inr [_,I,gB h G])) <|
 fc (GK (r:=#[O "barn",O "x"]) G (.inl Y)) <|
 fc (Ft h (k:=O "covers") (r:=[]) G λd C=>.inl (.inr (.inr (.inr [[G,G,G],trivial])))) <|
 fc (Ft h (k:=O "Cover") (r:=#[O "barn"]) G λd C=>.inl (.inr (.inr (.inr [[G,G,G],trivial])))) <|
 fc (fP h z) <|
 C
def aJ{n:J}{ds:List Dr}(h:kR n ds)(z:nameV (.str n)=B){l:List J}(C:∀x∈l,Ki ds x):∀x∈(O "cover "++n++O " ")::(O "waits waits")::(O "own")::(O "when always ")::(O "limit")::(O "when not not not not not not not always")::(O "when ( ( ( ( ( ( ( always ) ) ) ) ) ) )")::(O "waits\n")::(O "cover\tbarn")::(O "limit year\t1.00")::(O "own\tevent 1.00")::(O "when "++C5 30 (O "always and ")++O "always")::(O "share acme\t1")::l,Ki ds x:=
 fc (fQ z) <|
 fc (Ft h (k:=O "waits") (r:=#[O "waits"]) G λd C=>.inl (.inr (.inr (.inl [I,.inr zZ])))) <|
 fc (Ft h (k:=O "own") (r:=[]) G λd C=>.inl (.inr (.inr (.inr [[G,G,G],trivial])))) <|
 fc (Ft h (k:=O "when") (r:=#[O "always",O ""]) G λd C=>.inl (.inl [I,RE [Y,okl G,#[O "always",O ""],_,G,zZ,okl G,Y,lJ.more (ws:=#[O "always"]) (d:=0) (post:=[]) Y (.rows1 (.row1 (.leaf (c:=.alw) (d:=0) trivial))) Y G G]])) <|
 fc (Ft h (k:=O "limit") (r:=[]) G λd C=>.inl (.inr (.inr (.inr [[G,G,G],trivial])))) <|
 fc (Ft h (k:=O "when") (r:=#[O "not",O "not",O "not",O "not",O "not",O "not",O "not",O "always"]) G λd C=>.inl (.inl [I,RE [Y,okl G,#[O "not",O "not",O "not",O "not",O "not",O "not",O "not",O "always"],_,G,zZ,okl G,Y,.read Y (.rows0 (.row0 (Fl.seventh (os:=zAe 7 (O "not")) (ws:=#[O "always"]) (λo h=>.inl (zAK h)) Y)))]])) <|
 fc (Ft h (k:=O "when") (r:=#[O "(",O "(",O "(",O "(",O "(",O "(",O "(",O "always",O ")",O ")",O ")",O ")",O ")",O ")",O ")"]) G λd C=>.inl (.inl [I,RE [Y,okl G,#[O "(",O "(",O "(",O "(",O "(",O "(",O "(",O "always",O ")",O ")",O ")",O ")",O ")",O ")",O ")"],_,G,zZ,okl G,Y,.read Y (.rows0 (.row0 (Fl.seventh (os:=zAe 7 (O "(")) (ws:=#[O "always",O ")",O ")",O ")",O ")",O ")",O ")",O ")"]) (λo h=>.inr (zAK h)) Y)))]])) <|
 fc (Ft h (k:=O "waits\n") (r:=[]) G λd C=>.inl (.inr (.inr (.inr [[G,G,G],trivial])))) <|
 fc (Ft h (k:=O "cover\tbarn") (r:=[]) G λd C=>.inl (.inr (.inr (.inr [[G,G,G],trivial])))) <|
 fc (Ft h (k:=O "limit") (r:=#[O "year\t1.00"]) G λd C=>.inl (.inr (.inr (.inr [[G,G,G],trivial])))) <|
 fc (Ft h (k:=O "own\tevent") (r:=#[O "1.00"]) G λd C=>.inl (.inr (.inr (.inr [[G,G,G],trivial])))) <|
 fc (cT h) <|
 fc (Ft h (k:=O "share") (r:=#[O "acme\t1"]) G λd C=>.inl (.inr (.inl [I,.inr (.inl Y)]))) <|
 C
def EO{n:J}{ds:List Dr}(h:kR n ds)(F:nameV (.str n)=B):∀x∈Nf n,Ki ds x:=ZO h F (bD h F (ZJ h F (aJ h F (l:=[]) (λy z=>nomatch z))))
def Lo.glue{ds z N:List Dr}{rs ts:List Bn}(h:Lo ds rs z)(C:Lo z ts N):Lo ds (rs++ts) N:=by
 induction h with
 |nil=>exact C
 |cov Q L H _ P=>exact .cov Q L H (P C)
 |put Q R F _ P=>exact .put Q R F (P C)
theorem Lo.cut:∀{rs ts} {ds z},Lo ds (rs++ts) z->∃F,Lo ds rs F/\Lo F ts z
 |[],_,ds,_,h=>[ds,.nil,h]
 |r::rs,ts,ds,z,h=>by
  rw[zBc]at h;cases h with
  |cov N S U k=>
   let[F,H,L]:=Lo.cut k;exact[F,.cov N S U H,L]
  |put N P C k=>
   let[F,H,L]:=Lo.cut k;exact[F,.put N P C H,L]
def Lo.keep{ds C:List Dr}{rs:List Bn}(h:Lo ds rs C):∀n∈ds.map (·.nm),n∈C.map (·.nm):=by
 induction h with
 |nil=>exactλn h=>h
 |cov _ _ _ _ H=>exactλn h=>H n (by rw[zAf];exact zBi _ h)
 |@put ds d r rs C _ _ _ _ H=>
  intro n h;refine H n ?_;let e:(d.put r).nm=d.nm:=by cases r<;>rfl
  rw[zAf]at h⊢;rw[zAr,zBr,e];exact h
def Lo.sta{n:J}{rs:List Bn}{ds:List Dr}(h:Lo [] (.cov n::rs) ds):kR n ds:=by
 refine[?_,h.good (λx z=>nomatch z),(h.names zZ zZ).2];generalize e:([]:List Dr)=F at h;cases h with
 |cov _ _ _ k=>exact k.keep n (by simp[Ld])
 |put _ _ _ _=>simp at e
def kN:List (J×Int):=#[(O "acme",2),(O "beta",3)]
def Ol(n:J)(t:Ev):List Bn:=#[.cov n,.shr kN,.when t,.wts]
def d3(n:J)(t:Ev)(cl:List Cl):Dr:=[n,g t,cl,g kN,B]
def cA{n:J}(F:Mi (.cov n)){cd:Option Ev}{cl:List Cl}{wt:Bool}(L:cl.length<=8):Fx [n,cd,cl,g kN,wt]:=by
 refine[F.1,F.2,L,[?_,?_],[?_,?_,?_,?_]]
 .show ∀z∈kN.map (·.1),_
  decide +kernel
 .show (kN.map (·.1)).Nodup
  decide +kernel
 .show 1<=(kN.map (·.2)).length
  decide
 .show (kN.map (·.2)).length<=8
  decide
 .show ∀w∈kN.map (·.2),1<=w
  decide
 .show (kN.map (·.2)).sum<=100
  decide
def JZ:Mi (.shr kN):=by
 refine[Y,Y,?_];show ∀x∈kN,_
 decide +kernel
def YA{ds:List Dr}{n:J}{t:Ev}(z:Mi (.cov n))(C:ds.length<8)(L:n∉ds.map (·.nm))(F:Mi (.when t)):Lo ds (Ol n t) (ds++#[d3 n t []]):=
 .cov z C L (.put (r:=.shr kN) JZ I (cA z (zAy _)) (.put (r:=.when t) F I (cA z (zAy _)) (.put (r:=.wts) trivial I (cA z (zAy _)) .nil)))
structure kL(nms:List J)(rs:List Bn):Prop where
 ex:∃A ds n t,rs=A++Ol n t/\Lo [] A ds/\ds.length=2/\nms=ds.map (·.nm)++#[n]/\Mi (.cov n)/\n∉ds.map (·.nm)/\Mi (.when t)
 hd:∃n r,rs=.cov n::r/\nms[0]?=g n
 ln:rs.length<=30
 xx:∀z∈nms,¬WY z.cps.toList
structure kJ(K:zAa)(H:Hp)(n:J)(xs:List V)(i:Nat):Prop where
 ex:∃rs x post ds,xs=rs.map Bh++x::post/\rs.length=i/\Lo [] rs ds/\kD K H ds x/\(rs=[]\/∃r,rs=.cov n::r)
 rp:∀v∈xs,∃d,Ta K H d v/\Qw d<=1
 ln:xs.length<=60
def Jj{K:zAa}{H:Hp}(z:J):∃d,Ta K H d (.str z)/\Qw d<=1:=[.at (.str z),by unfold Ta;exact[I,I],by unfold Qw;decide]
def Wn{K:zAa}{H:Hp}{rs:List Bn}:∀v∈rs.map Bh,∃d,Ta K H d v/\Qw d<=1:=λv C=>by
 let[r,_,rfl]:=zAv.mp C;exact Jj _
def kJ.of{K}{H}{n}{rs}{x}{post}{ds}(C:Lo [] rs ds)(P:kD K H ds x)(F:rs=[]\/∃r,rs=.cov n::r)(L:∃d,Ta K H d x/\Qw d<=1)(N:∀v∈post,∃d,Ta K H d v/\Qw d<=1)(S:rs.length+post.length<60):kJ K H n (rs.map Bh++x::post) rs.length:=by
 refine[[rs,x,post,ds,I,I,C,P,F],λv z=>?_,by rw[zAc,zAb,zAd];lia];rcases zAE.mp z with z|z
 .exact Wn v z
 .rcases zAg.mp z with rfl|z
  .exact L
  .exact N v z
def Da.same'{K:zAa}{H H':Hp}{a:T}{xs:List V}(s:Ae H H')(h:Da K H a xs):Da K H' a xs:=by
 rcases h with (h|⟨o,h⟩)|h
 .exact .inl (.inl (s _ _ h))
 .exact .inl (.inr [o,s _ _ h])
 .exact .inr h
mutual
theorem Ta.same{K:zAa}{H H':Hp}(s:Ae H H'):∀(d:D) {v},Ta K H d v->Ta K H' d v
 |.at v,x,h=>by unfold Ta at h⊢;exact h
 |.seq t P,x,h=>by
  unfold Ta at h⊢;let[a,C,e,N,L,F]:=h;exact[a,C,e,λz=>Da.same' s (N z),λz=>s.seq (L z),Reps.same s P F]
theorem Reps.same{K:zAa}{H H':Hp}(s:Ae H H'):∀(ds:List D) {vs},Reps K H ds vs->Reps K H' ds vs
 |[],C,h=>by unfold Reps at h⊢;exact h
 |d::ds,C,h=>by
  unfold Reps at h⊢;let[y,N,e,L,z]:=h;exact[y,N,e,Ta.same s d L,Reps.same s ds z]
end
mutual
theorem KW{K:zAa}{H:Hp}:∀(d:D) {v},Ta K H d v->U2 d d=B
 |.at v,x,h=>by unfold Ta at h;unfold U2;exact Q7 h.2
 |.seq t C,x,h=>by
  unfold Ta at h;let[a,L,e,N,F,z]:=h;unfold U2;rw[reps_self C z,Bool.and_true];cases t<;>rfl
theorem reps_self{K:zAa}{H:Hp}:∀(ds:List D) {vs},Reps K H ds vs->eqDs ds ds=B
 |[],C,h=>by unfold eqDs;rfl
 |d::ds,C,h=>by
  unfold Reps at h;let[y,N,e,L,z]:=h;unfold eqDs;rw[KW d L,reps_self ds z];rfl
end
theorem EQ{K:zAa}{H:Hp}:∀{xs},(∀v∈xs,∃d,Ta K H d v/\Qw d<=1)->∃ds,Reps K H ds xs/\deps ds<=1
 |[],_=>[[],by unfold Reps;rfl,by unfold deps;decide]
 |x::xs,h=>by
  let[d,N,C]:=h x zZ;let[ds,F,L]:=EQ (xs:=xs) λv z=>h v (by simp[z]);exact[d::ds,by unfold Reps;exact[x,xs,I,N,F],by unfold deps;exact Nat.max_le.mpr [C,L]]
def kJ.same{K:zAa}{H H':Hp}{n:J}{xs:List V}{i:Nat}(h:kJ K H n xs i)(s:Ae H H'):kJ K H' n xs i:=by
 let[[C,x,z,W,e,l,S,R,F],U,N]:=h;exact[[C,x,z,W,e,l,S,R.same s,F],λv P=>by let[d,Q,L]:=U v P;exact[d,Ta.same s d Q,L],N]
def kJ.ins{K:zAa}{H:Hp}{n:J}{xs:List V}{i p:Nat}{b:J}(h:kJ K H n xs i)(k:1<=p)(pl:p<=xs.length)(o:xs.length<60)(C:∀ds,kR n ds->Ki ds b):kJ K H n (xs.take p++#[.str b]++xs.drop p) (min i p):=by
 let[[rs,x,F,ds,e,l,X,E,L],W,j]:=h;let S:∀v∈xs.take p++#[.str b]++xs.drop p,∃d,Ta K H d v/\Qw d<=1:=λv z=>by
  rcases zAE.mp z with z|z
  .rcases zAE.mp z with z|z
   .exact W v (zAW z)
   .rw[zAp.mp z];exact Jj b
  .exact W v (xN z)
 let P:(xs.take p++#[V.str b]++xs.drop p).length<=60:=by
  rw[zAc,zAc,zAq,zBb,zBe]
  lia
 by_cases c:p<=i
 .rw[Nat.min_eq_right c]
  let f:rs=rs.take p++rs.drop p:=(rZ p rs).symm;let[R,Q,_]:=Lo.cut (rs:=rs.take p) (ts:=rs.drop p) (by rw[<- f];exact X);let U:∃r,rs.take p=.cov n::r:=by
   rcases L with L|⟨r,L⟩
   .rw[L]at l;simp at l;lia
   .refine[r.take (p-1),?_]
    rw[L];obtain⟨m,rfl⟩:∃m,p=m+1:=[p-1,Z];rfl
  refine[[rs.take p,.str b,xs.drop p,R,?_,by rw[zAq];lia,Q,?_,.inr U],S,P]
  .rw[zAw,e,List.take_append_of_le_length (by rw[zAb];lia),sU]
   rfl
  .let[r,N]:=U
   rw[N]at Q;exact(C R Q.sta).rw
 .rw[zCm Z]
  refine[[rs,x,F.take (p-i-1)++.str b::xs.drop p,ds,?_,l,X,E,L],S,P];let N:xs.take p=rs.map Bh++x::F.take (p-i-1):=by
   rw[e,List.take_append,zBX (by rw[zAb];lia),zAb,l];obtain⟨m,A⟩:∃m,p-i=m+1:=[p-i-1,Z];rw[A];rfl
  rw[N];simp
def kL.cut{K}{H}{z}{rs}(B:kL z rs){n}(E:z[0]?=g n){p:Nat}(k:1<=p)(pl:p<=rs.length){x}(j:∀ds,kR n ds->kD K H ds x)(f:∃d,Ta K H d x/\Qw d<=1):kJ K H n ((rs.map Bh).take p++#[x]++(rs.map Bh).drop p) p:=by
 let[A,ds,m,t,e,c,l,_,S,X,P]:=B.ex;let[L,r,C,U]:=B.hd;obtain rfl:L=n:=mI (U.symm.trans E);let Q:=c.glue (YA S Z X P);rw[<- e]at Q;let[W,R,_]:=Lo.cut (rs:=rs.take p) (ts:=rs.drop p) (by rw[rZ];exact Q);let F:∃r,rs.take p=.cov L::r:=by
  refine[r.take (p-1),?_];rw[C];obtain⟨q,rfl⟩:∃q,p=q+1:=[p-1,Z];rfl
 let b:kR L W:=by
  let[o,N]:=F;rw[N]at R;exact R.sta
 let:=kJ.of (n:=L) R (j W b) (.inr F) f (post:=(rs.drop p).map Bh) Wn (by rw[zAq,zAb,zBb];let:=B.ln;lia);rw[zAq,zCm pl]at this;rw[<- sU,<- List.map_drop,zAw];exact this
def kL.end{K:zAa}{H:Hp}{rs ts:List Bn}(B:kL b rs){n:J}(N:b[0]?=g n){x:V}{post:List V}(k:∀ds m t,ds.length=2->b=ds.map (·.nm)++#[m]->Mi (.cov m)->Mi (.when t)->∃z,Lo (ds++#[d3 m t []]) ts z/\kD K H z x)(j:∃d,Ta K H d x/\Qw d<=1)(E:∀v∈post,∃d,Ta K H d v/\Qw d<=1)(l:ts.length+post.length<30):kJ K H n (rs.map Bh++(ts.map Bh++x::post)) (rs.length+ts.length):=by
 let[A,ds,m,t,e,f,C,R,L,X,F]:=B.ex;let[S,r,U,P]:=B.hd;obtain rfl:S=n:=mI (P.symm.trans N);let Q:=f.glue (YA L Z X F);rw[<- e]at Q;let[z,c,W]:=k ds m t C R L F;let:=kJ.of (n:=S) (Q.glue c) W (.inr [r++ts,by rw[U];rfl]) j E (by rw[zAc];let:=B.ln;lia);rw[zAc,zAf,zAw]at this;exact this
def kL.top{K}{H}{z}{rs}(B:kL z rs){n x}(C:Ki [] x):kJ K H n (.str x::rs.map Bh) 0:=
 kJ.of (rs:=[]) .nil C.rw (.inl I) (Jj x) Wn (by rw[zAb];let:=B.ln;show 0+_<60;lia)
def ID{x k:J}{r:List J}(e:(okB x k r&&decide (k≠O "cover"))=B):Ki [] x:=by
 rw[zAO]at e;let[z,L,F]:=L8 e.1;exact[k,r,z,L,F,.inr [mU e.2,.inl I]]
def VS{x k:J}{r:List J}{ds:List Dr}{d:Dr}(e:(okB x k r&&decide (k≠O "cover"))=B)(C:YN d k r):Ki (ds++#[d]) x:=by
 rw[zAO]at e;let[z,L,F]:=L8 e.1;exact[k,r,z,L,F,.inr [mU e.2,.inr [ds,d,I,.inl C]]]
def Ke:Cl:=.own (O "loss") 0
def EY:I9 Ke:=[.inr (.inr (.inr I)),Y,Y]
def LL:(Bn.cls Ke).row=O "own loss 0.00":=by ac_nf
theorem R4{ds:List Dr}{t:Ev}(z:Mi (.cov m)):∀k j:Nat,j+k<=8->Lo (ds++#[d3 m t (zAe j Ke)]) (zAe k (.cls Ke)) (ds++#[d3 m t (zAe (j+k) Ke)])
 |0,j,_=>.nil
 |k+1,j,h=>by
  let e:(d3 m t (zAe j Ke)).put (.cls Ke)=d3 m t (zAe (j+1) Ke):=by
   show d3 m t (zAe j Ke++#[Ke])=_;rw[<- xM]
  rw[zAN];refine .put (r:=.cls Ke) EY (by show(zAe j Ke).length<=100;rw[zAC];lia) ?_ ?_
  .rw[e];exact cA z (by rw[zAC];lia)
  .rw[e,show j+(k+1)=(j+1)+k by lia]
   exact R4 z k (j+1) Z
def JV{ds:List Dr}{t:Ev}(z:Mi (.cov m)):Ki (ds++#[d3 m t (zAe 8 Ke)]) (O "own loss 0.00"):=by
 refine[O "own",#[O "loss",O "0.00"],G,okl G,Y,.inr [G,.inr [ds,_,I,.inr [.cls Ke,G,EY,?_,λC=>?_,?_,?_,?_]]]]
 .show (zAe 8 Ke).length<=100
  rw[zAC];decide
 .have h:(zAe 8 Ke++#[Ke]).length<=8:=C.cl
  rw[zAc,zAC]at h;exact mC h (by show ¬(8+1<=8);decide)
 .have:=Ga z.1
  show m.length<=100
  lia
 .show kN.length<=900
  decide
 .show ∀x∈kN,_
  decide +kernel
def kP:List J:=#[O "xaxaxaxa",O "xbxbxbxb",O "xcxcxcxc",O "xdxdxdxd",O "xexexexe",O "xfxfxfxf"]
theorem V3:∀(l:List J) (ds:List Dr),(∀n∈l,Mi (.cov n))->ds.length+l.length<=8->(∀n∈l,n∉ds.map (·.nm))->l.Nodup->Lo ds (l.map .cov) (ds++l.map Ld)
 |[],ds,_,_,_,_=>by rw[zBr,zBr,zAA];exact .nil
 |n::l,ds,H,S,C,L=>by
  rw[zAr,zAr];rw[zAd]at S;rw[zBn]at L;let:=V3 l (ds++#[Ld n]) (λm F=>H m (by simp[F])) (by rw[zAc];show ds.length+1+_<=8;lia) (λm F=>?_) L.2
  .rw[zAw]at this
   exact .cov (H n zZ) Z (C n zZ) this
  .rw[zAf]
   intro z;rcases zAE.mp z with z|z
   .exact C m (by simp[F]) z
   .have:m=n:=by simpa[Ld]using z
    rw[this]at F;exact L.1 F
def aG:∀z∈kP,WY z.cps.toList:=by
 unfold WY
 decide +kernel
def UM:∀z∈kP,Mi (.cov z):=by
 show ∀z∈kP,nameV (.str z)=B/\z ≠ "self"
 decide +kernel
def MQ{ds:List Dr}{x n:J}(h:ds.length=8)(e:okB x (O "cover") #[n]=B):Ki ds x:=GK e (.inr [n,I,.inl h])
def Pc{i:Nat}{v:V}{nx:St->Hp->Prop}{σ:St}{H:Hp}(z:St)(H':Hp)(e:σ.set i (g v)=z)(F:H=H')(h:nx z H'):Hy i v σ H nx:=by
 subst e;subst F;exact h
inductive X7(K:zAa)(vs:List V)(H:Hp)(Q:VK):Prop
 |lst (a:lU) (xs:List V) (n:J) (i:Nat) (z0:vs=#[.ref a]) (z1:H a=g (.lst xs)) (z2:kJ K H n xs i) (z3:∀H',Ae H H'->Q (.int i) H'):X7 K vs H Q
 |no (x:V) (T:String) (z0:vs=#[x]) (z1:Cy K H x (.type T)) (z2:T ≠ "list") (z3:∀H',Ae H H'->Q (.int (0:Nat)) H'):X7 K vs H Q
def SY(K:zAa):Sp:=λC H Q x=>X7 K C H Q
def Ts{X:Cx}{K:zAa}(z:X.K=K):Mg X (.builtin "isinstance") (YZ K):=z▸Ec
section
seal L2.PS L2.PSs L2.PE L2.PA
variable {P:mF} {w:mR} {K:zAa} {mg:J->Option lV} {base:mX}
def Vn:Cb #["_law_thing","e","_law_others"] #["_law_thing"] (Av Mc):=by injections
def Vs(C:Pm P w K mg base){f:T}{fd:zCA}(F:Fw K "_law_refused" "_law_refused" Mc f fd):Ar P w K mg base Jv 45 f fd #["_law_thing"] (SY K):=by
 let sc:=Vn;bv_omega
 .rcases h with ⟨_,_,_,_,rfl,_⟩|⟨_,_,rfl,_⟩<;>rfl
 refine[_,(Ab (JU (i:=1) I I I (C.z.nv C.de) sc.nd I I (λpn E W hW hp=>
    (Ac (Ct (LR (AL C) (hr.mono Y) hW I (Cf (pv 0)))))) (λe=>
    (Ab (Fk sc 2 (Ca (Aw (Hs (Fs (K:=K)) I (C.z.nn C.ad) (show zCz _=g (.builtin "isinstance") from rfl) (Dy (pv 1) (Rq I (C.z.nv C.rh)))) (Aw (Hs (Fs (K:=K)) I (C.z.nn C.ad) (show zCz _=g (.builtin "isinstance") from rfl) (Dy (pv 1) (Rq I (C.z.nv C.cg)))) (Dy (Hs (Fs (K:=K)) I (C.z.nn C.ad) (show zCz _=g (.builtin "isinstance") from rfl) (Dy (pv 1) (Rq I (C.z.nv C.dh)))) (Hs (Fs (K:=K)) I (C.z.nn C.ad) (show zCz _=g (.builtin "isinstance") from rfl) (Dy (pv 1) (Rq I (C.z.nv C.b8)))))))))
   (Ab (Fk sc 2 (Au Ef (pv 2) (Ca (Dy (Hs (Fs (K:=K)) I (C.z.nn C.ad) (show zCz _=g (.builtin "isinstance") from rfl) (Dy (pv 1) (Rq I (C.z.nv C.j3)))) (Hs (Fs (K:=K)) I (C.z.nn C.ad) (show zCz _=g (.builtin "isinstance") from rfl) (Dy (pv 1) (Rq I (C.z.nv C.jk))))))))
   (Ac (Ce (PW.pt (Sa (Eb (Hs (Fs (K:=K)) I (C.z.nn C.ad) (show zCz _=g (.builtin "isinstance") from rfl) (Dy (pv 1) (Rq I (C.z.nv C.ib))))) (Sa (Eb (Hs (Fs (K:=K)) I (C.z.nn C.ad) (show zCz _=g (.builtin "isinstance") from rfl) (Dy (pv 1) (La "ValueError" rfl (C.z.nn C.pk) I)))) (Py (Ax (AG (K:=K)) Hw (pv 2) I)))))
    (Ac (Ce (PW.pt (Sa (Eb (Hs (Ts (K:=K) I) I (C.z.nn C.ad) (show zCz _=g (.builtin "isinstance") from rfl) (Dy (Xe (K:=K) (pv 1) I) (La "int" rfl (C.z.nn C.dk) I)))) (Py (Et (Eb (Hs (Ts (K:=K) I) I (C.z.nn C.ad) (show zCz _=g (.builtin "isinstance") from rfl) (Dy (Xe (K:=K) (pv 1) I) (La "bool" rfl (C.z.nn C.pq) I))))))))
    (Ac (Ay (Xe (K:=K) (pv 1) I)))
    Be))
    Be))))))
   (Ac (Ay (N9 Wl Ah)))),?_]
 obtain⟨x,i,rfl,go,q⟩:∃x,∃i:Nat,vs=#[x]/\(∀{Q':VK} {E':XK},kX Db H E' i->BE K Db #[x] H Q' E')/\∀H',Ae H H'->Q (.int i) H':=by
  rcases h with ⟨a,xs,n,i,e,ha,⟨⟨rs,x,b,ds,p,l,rd,no,_⟩,_,_⟩,q⟩|⟨x,T',e,ty,nl,q⟩
  .subst l
   exact[_,rs.length,e,λy=>.inr [a,rs,ds,x,b,I,by rw[ha,p];rfl,rd,no,y],q]
  .exact[x,0,e,λy=>.inl [x,T',I,ty,nl,y],q]
 let L:=C.rj;refine[_,I,go (Q':=λ_ _=>True) λd H1 s1 hd=>[Db,I,C.jb,λe he=>?_]];let z:=Ad he (LF e (.ref Db) (g d));let r:upd H1 e (LF e (.ref Db) (g d)) e=g (LF e (.ref Db) (g d)):=Aa;generalize upd H1 e (LF e (.ref Db) (g d))=m at z r;let U:=z _ _ hd;let u:MH m e Db:=.inr [d,_,r,U];refine[_,I,e,_,_,_,_,I,u,L,Re,C.lj,_,I,e,_,_,_,_,I,u,L,Re,C.jv,_,I,e,_,_,_,_,I,u,L,Re,C.ko,_,I,e,_,_,_,_,I,u,L,Re,C.nj,Ck (by show 4<=1000;decide),λk n1=>?_];let S:=Ad n1 (.lst #[V.bl lX,.bl lX,.bl lX,.bl lX]);let p:upd m k (.lst #[V.bl lX,.bl lX,.bl lX,.bl lX]) k=g (.lst #[V.bl lX,.bl lX,.bl lX,.bl lX]):=Aa;generalize upd m k (.lst #[V.bl lX,.bl lX,.bl lX,.bl lX])=N at S p;let c:MH N e Db:=.inr [d,_,S _ _ r,S _ _ U];refine[_,I,_,I,e,_,_,_,_,I,c,L,Re,C.jw,_,I,e,_,_,_,_,I,c,L,Re,C.kq,Ck (by show 2<=1000;decide),λX n2=>?_];let u2:Ae N (upd N X (.lst #[V.bl lX,.bl lX])):=Ad n2 _;refine[k,X,_,_,I,I,u2 _ _ p,Aa,Ck (by show 6<=1000;decide),λR n3=>?_];let t:Ae N (upd (upd N X (.lst #[V.bl lX,.bl lX])) R (.lst #[V.bl lX,.bl lX,.bl lX,.bl lX,.bl lX,.bl lX])):=u2.trans (Ad n3 _);let e3:upd (upd N X (.lst #[V.bl lX,.bl lX])) R (.lst #[V.bl lX,.bl lX,.bl lX,.bl lX,.bl lX,.bl lX]) R=g (.lst #[V.bl lX,.bl lX,.bl lX,.bl lX,.bl lX,.bl lX]):=Aa
 refine Pc #[g x,g (.ref e),g (.ref R)] (upd (upd N X (.lst #[V.bl lX,.bl lX])) R (.lst #[V.bl lX,.bl lX,.bl lX,.bl lX,.bl lX,.bl lX])) I I ?_;generalize upd (upd N X (.lst #[V.bl lX,.bl lX])) R (.lst #[V.bl lX,.bl lX,.bl lX,.bl lX,.bl lX,.bl lX])=H4 at t e3;let o:=t _ _ (S _ _ r);let v:=t _ _ (S _ _ U);let j:MH H4 e Db:=.inr [d,_,o,v];refine[_,I,e,_,_,_,_,I,j,L,Re,C.lq,_,I,Fc [_,I,e,_,_,_,_,I,j,L,Ie,C.rm,_,I,Fc [_,I,R,_,I,.inl (Al.of e3),I,I,_,I,Fc ?_]]];refine[_,I,e,_,d,_,_,I,o,v,L,C.ck,I,_,_,_,_,_,I,Ie,.int _,WB,_,I,Fc ?_];refine[_,I,e,_,d,_,_,I,o,v,L,C.ck,I,_,_,_,_,_,I,Ie,.int _,UI,_,I,Fc ?_];exact[_,I,e,_,d,_,_,I,o,v,L,C.ck,I,q _ (s1.trans (z.trans (S.trans t)))]
def Qz(C:Pm P w K mg base):Jc C 45 "_law_refused" #["_law_thing"] (SY K):=(W2 C.z C.mh bd).cal λf H F=>Vs C F
end
def Lj(n:J):List J:=#[O "waits ",O "waits now",O "when",O "when ",O "when cause",O "when always or",O "when cause Fire",O "When always"]
def Li(n:J):List J:=#[O "own event",O "own event 1",O "own day 1.00",O "own event 1.00 2.00",O "limit 1.00",O "limit year 01.00"]
def Mw(n:J):List J:=#[O "layer event 2.00 2.00",O "layer event 3.00 2.00",O "layer event 1.00",O "layer thing 1.00 2.00 3.00"]
def Ou(n:J):List J:=#[O "share",O "share acme",O "share acme 0",O "share acme 01",O "share acme 1 acme 2",O "share Acme 1"]
def Sf(n:J):List J:=#[O "share acme 101",O "share acme 60 beta 41",O "share acme 1000",O "share acme +1",O "share acme 1 ",O ""]
def Wi(n:J):List J:=#[O " ",O "cover",O "cover self",O "cover Barn",O "cover abcdefghi",O "cover barn x",O "covers",O "Cover barn"]
def M7(n:J):List J:=#[O "cover "++n,O "cover "++n++O " ",O "waits waits",O "own",O "when always ",O "limit"]
def Y3(n:J):List J:=#[O "when not not not not not not not always",O "when ( ( ( ( ( ( ( always ) ) ) ) ) ) )",O "waits\n",O "cover\tbarn"]
def YI(n:J):List J:=#[O "limit year\t1.00",O "own\tevent 1.00",O "when "++C5 30 (O "always and ")++O "always",O "share acme\t1"]
inductive TY(vs:List V)(H:Hp)(Q:VK):Prop
 |mk (nl:T) (D:List J) (n:J) (z0:vs=#[.ref nl]) (z1:H nl=g (.lst (D.map V.str))) (z2:D[0]?=g n) (z3:n.length<=100) (z4:∀l H',Ae H H'->H l=M->H' l=g (.lst ((Nf n).map V.str))->Q (.ref l) H'):TY vs H Q
def gC:Sp:=λC H Q x=>TY C H Q
section
seal L2.PS L2.PSs L2.PE L2.PA
variable {P:mF} {w:mR} {K:zAa} {mg:J->Option lV} {base:mX}
def Pi(W:Pm P w K mg base):Jc W 1 "_law_bad_rows" #["_law_names_here"] gC:=Os W.z W.ky #["_law_names_here","_law_rows_here"] df λX H Q hr h=>by
 let[z,D,n,rfl,hn,e0,ln,q]:=h;refine[_,(Ab (Fk X 1 (Ca (Aw Aj (Aw Aj (Aw Aj (Aw Aj (Aw Aj (Aw Aj (Dy Aj Aj)))))))))
   (Ab (Fk X 1 (Au Ef (pv 1) (Ca (Aw Aj (Aw Aj (Aw Aj (Aw Aj (Dy Aj Aj))))))))
   (Ab (Fk X 1 (Au Ef (pv 1) (Ca (Aw Aj (Aw Aj (Dy Aj Aj))))))
   (Ab (Fk X 1 (Au Ef (pv 1) (Ca (Aw Aj (Aw Aj (Aw Aj (Aw Aj (Dy Aj Aj))))))))
   (Ab (Fk X 1 (Au Ef (pv 1) (Ca (Aw Aj (Aw Aj (Aw Aj (Aw Aj (Dy Aj Aj))))))))
   (Ab (Fk X 1 (Au Ef (pv 1) (Ca (Aw Aj (Aw Aj (Aw Aj (Aw Aj (Aw Aj (Aw Aj (Dy Aj Aj))))))))))
   (Ab (Fk X 1 (Au Ef (pv 1) (Ca (Aw (Au Bm Aj (Cr By (pv 0) Ah (λ_ _=>I))) (Aw (Au Bm (Au Bm Aj (Cr By (pv 0) Ah (λ_ _=>I))) Aj) (Aw Aj (Aw Aj (Dy Aj Aj))))))))
   (Ab (Fk X 1 (Au Ef (pv 1) (Ca (Aw (Au Bm (Au Bm Aj (Au Iq Aj Ah)) Aj) (Aw (Au Bm (Au Bm (Au Bm Aj (Au Iq Aj Ah)) Aj) (Au Iq Aj Ah)) (Dy Aj Aj))))))
   (Ac (Ay (Au Ef (pv 1) (Ca (Aw Aj (Aw Aj (Dy (Au Bm (Au Bm Aj (Au Iq Aj Ah)) Aj) Aj))))))))))))))),?_]
 let l4:4<=sizeLine:=by rw[zCy];decide
 let i:6<=sizeLine:=by rw[zCy];decide
 let l8:8<=sizeLine:=by rw[zCy];decide
 let F:Ob (D.map V.str) (0:Int)=g (.str n):=Gk (j:=0) (by rw[zAt,e0];rfl);refine[l8,λE ak=>?_];let s0:=Ad ak (.lst ((Lj n).map V.str));let h0:upd H E (.lst ((Lj n).map V.str)) E=g (.lst ((Lj n).map V.str)):=Aa;refine Pc #[g (.ref z),g (.ref E)] (upd H E (.lst ((Lj n).map V.str))) I I ?_;generalize upd H E (.lst ((Lj n).map V.str))=t at s0 h0;refine[_,I,i,λo ap=>?_];let t1:=Ad ap (.lst ((Li n).map V.str));refine[E,o,_,_,I,I,t1 _ _ h0,Aa,by rw[zCy];show 14<=_;decide,λR an=>?_];let h1:upd (upd t o (.lst ((Li n).map V.str))) R (.lst ((Lj n).map V.str++(Li n).map V.str)) R=g (.lst ((Lj n++Li n).map V.str)):=by rw[Aa,<- zAf]
 let s1:Ae H (upd (upd t o (.lst ((Li n).map V.str))) R (.lst ((Lj n).map V.str++(Li n).map V.str))):=s0.trans (t1.trans (Ad an (.lst ((Lj n).map V.str++(Li n).map V.str))));refine Pc #[g (.ref z),g (.ref R)] (upd (upd t o (.lst ((Li n).map V.str))) R (.lst ((Lj n).map V.str++(Li n).map V.str))) I I ?_;generalize upd (upd t o (.lst ((Li n).map V.str))) R (.lst ((Lj n).map V.str++(Li n).map V.str))=s at h1 s1;refine[_,I,l4,λr ah=>?_];let t2:=Ad ah (.lst ((Mw n).map V.str));refine[R,r,_,_,I,I,t2 _ _ h1,Aa,by rw[zCy];show 18<=_;decide,λN ad=>?_];let h2:upd (upd s r (.lst ((Mw n).map V.str))) N (.lst ((Lj n++Li n).map V.str++(Mw n).map V.str)) N=g (.lst ((Lj n++Li n++Mw n).map V.str)):=by rw[Aa,<- zAf]
 let s2:Ae H (upd (upd s r (.lst ((Mw n).map V.str))) N (.lst ((Lj n++Li n).map V.str++(Mw n).map V.str))):=s1.trans (t2.trans (Ad ad (.lst ((Lj n++Li n).map V.str++(Mw n).map V.str))));refine Pc #[g (.ref z),g (.ref N)] (upd (upd s r (.lst ((Mw n).map V.str))) N (.lst ((Lj n++Li n).map V.str++(Mw n).map V.str))) I I ?_;generalize upd (upd s r (.lst ((Mw n).map V.str))) N (.lst ((Lj n++Li n).map V.str++(Mw n).map V.str))=y at h2 s2;refine[_,I,i,λp ac=>?_];let t3:=Ad ac (.lst ((Ou n).map V.str));refine[N,p,_,_,I,I,t3 _ _ h2,Aa,by rw[zCy];show 24<=_;decide,λA al=>?_];let h3:upd (upd y p (.lst ((Ou n).map V.str))) A (.lst ((Lj n++Li n++Mw n).map V.str++(Ou n).map V.str)) A=g (.lst ((Lj n++Li n++Mw n++Ou n).map V.str)):=by rw[Aa,<- zAf]
 let s3:Ae H (upd (upd y p (.lst ((Ou n).map V.str))) A (.lst ((Lj n++Li n++Mw n).map V.str++(Ou n).map V.str))):=s2.trans (t3.trans (Ad al (.lst ((Lj n++Li n++Mw n).map V.str++(Ou n).map V.str))));refine Pc #[g (.ref z),g (.ref A)] (upd (upd y p (.lst ((Ou n).map V.str))) A (.lst ((Lj n++Li n++Mw n).map V.str++(Ou n).map V.str))) I I ?_;generalize upd (upd y p (.lst ((Ou n).map V.str))) A (.lst ((Lj n++Li n++Mw n).map V.str++(Ou n).map V.str))=x at h3 s3;refine[_,I,i,λk ae=>?_];let t4:=Ad ae (.lst ((Sf n).map V.str));refine[A,k,_,_,I,I,t4 _ _ h3,Aa,by rw[zCy];show 30<=_;decide,λU ai=>?_];let h4:upd (upd x k (.lst ((Sf n).map V.str))) U (.lst ((Lj n++Li n++Mw n++Ou n).map V.str++(Sf n).map V.str)) U=g (.lst ((Lj n++Li n++Mw n++Ou n++Sf n).map V.str)):=by rw[Aa,<- zAf]
 let s4:Ae H (upd (upd x k (.lst ((Sf n).map V.str))) U (.lst ((Lj n++Li n++Mw n++Ou n).map V.str++(Sf n).map V.str))):=s3.trans (t4.trans (Ad ai (.lst ((Lj n++Li n++Mw n++Ou n).map V.str++(Sf n).map V.str))));refine Pc #[g (.ref z),g (.ref U)] (upd (upd x k (.lst ((Sf n).map V.str))) U (.lst ((Lj n++Li n++Mw n++Ou n).map V.str++(Sf n).map V.str))) I I ?_;generalize upd (upd x k (.lst ((Sf n).map V.str))) U (.lst ((Lj n++Li n++Mw n++Ou n).map V.str++(Sf n).map V.str))=e at h4 s4;refine[_,I,l8,λl ab=>?_];let t5:=Ad ab (.lst ((Wi n).map V.str));refine[U,l,_,_,I,I,t5 _ _ h4,Aa,by rw[zCy];show 38<=_;decide,λS aq=>?_];let h5:upd (upd e l (.lst ((Wi n).map V.str))) S (.lst ((Lj n++Li n++Mw n++Ou n++Sf n).map V.str++(Wi n).map V.str)) S=g (.lst ((Lj n++Li n++Mw n++Ou n++Sf n++Wi n).map V.str)):=by rw[Aa,<- zAf]
 let m:Ae H (upd (upd e l (.lst ((Wi n).map V.str))) S (.lst ((Lj n++Li n++Mw n++Ou n++Sf n).map V.str++(Wi n).map V.str))):=s4.trans (t5.trans (Ad aq (.lst ((Lj n++Li n++Mw n++Ou n++Sf n).map V.str++(Wi n).map V.str))));refine Pc #[g (.ref z),g (.ref S)] (upd (upd e l (.lst ((Wi n).map V.str))) S (.lst ((Lj n++Li n++Mw n++Ou n++Sf n).map V.str++(Wi n).map V.str))) I I ?_;generalize upd (upd e l (.lst ((Wi n).map V.str))) S (.lst ((Lj n++Li n++Mw n++Ou n++Sf n).map V.str++(Wi n).map V.str))=c at h5 m;let e6:(O "cover ").length=6:=by ac_nf
 let e1:(O " ").length=1:=by ac_nf
 refine[_,I,_,I,z,_,_,_,I,I,Al.of (m _ _ hn),F,_,_,I,I,by rw[e6,zCy];lia,_,I,z,_,_,_,I,I,Al.of (m _ _ hn),F,_,_,I,I,by rw[e6,zCy];lia,_,_,I,I,by rw[Do,e6,e1,zCy];lia,i,λb ag=>?_];let t6:Ae c (upd c b (.lst ((M7 n).map V.str))):=Ad ag _;refine[S,b,_,_,I,I,t6 _ _ h5,Aa,by rw[zCy];show 44<=_;decide,λL am=>?_];let h6:upd (upd c b (.lst ((M7 n).map V.str))) L (.lst ((Lj n++Li n++Mw n++Ou n++Sf n++Wi n).map V.str++(M7 n).map V.str)) L=g (.lst ((Lj n++Li n++Mw n++Ou n++Sf n++Wi n++M7 n).map V.str)):=by rw[Aa,<- zAf]
 let s6:Ae H (upd (upd c b (.lst ((M7 n).map V.str))) L (.lst ((Lj n++Li n++Mw n++Ou n++Sf n++Wi n).map V.str++(M7 n).map V.str))):=m.trans (t6.trans (Ad am _));refine Pc #[g (.ref z),g (.ref L)] (upd (upd c b (.lst ((M7 n).map V.str))) L (.lst ((Lj n++Li n++Mw n++Ou n++Sf n++Wi n).map V.str++(M7 n).map V.str))) I I ?_;generalize upd (upd c b (.lst ((M7 n).map V.str))) L (.lst ((Lj n++Li n++Mw n++Ou n++Sf n++Wi n).map V.str++(M7 n).map V.str))=f at h6 s6;let ar:#[V.str (O "when "++tx (zAe (7:Int).toNat (O "not ").cps.toList).flatten++O "always"),V.str (O "when "++tx (zAe (7:Int).toNat (O "( ").cps.toList).flatten++O "always"++tx (zAe (7:Int).toNat (O " )").cps.toList).flatten),V.str (O "waits\n"),V.str (O "cover\tbarn")]=(Y3 n).map V.str:=by
  unfold Y3
  decide +kernel
 refine[_,I,(O "not ").cps.toList,7,(nI V.str (Hq _)).symm,I,Y,Y,G,_,_,I,I,Ck G,_,_,I,I,Ck G,(O "( ").cps.toList,7,(nI V.str (Hq _)).symm,I,Y,Y,G,_,_,I,I,Ck G,_,_,I,I,Ck G,(O " )").cps.toList,7,(nI V.str (Hq _)).symm,I,Y,Y,G,_,_,I,I,Ck G,l4,λd aj=>?_];rw[ar];let t7:Ae f (upd f d (.lst ((Y3 n).map V.str))):=Ad aj _;refine[L,d,_,_,I,I,t7 _ _ h6,Aa,by rw[zCy];show 48<=_;decide,λC af=>?_];let h7:upd (upd f d (.lst ((Y3 n).map V.str))) C (.lst ((Lj n++Li n++Mw n++Ou n++Sf n++Wi n++M7 n).map V.str++(Y3 n).map V.str)) C=g (.lst ((Lj n++Li n++Mw n++Ou n++Sf n++Wi n++M7 n++Y3 n).map V.str)):=by rw[Aa,<- zAf]
 let s7:Ae H (upd (upd f d (.lst ((Y3 n).map V.str))) C (.lst ((Lj n++Li n++Mw n++Ou n++Sf n++Wi n++M7 n).map V.str++(Y3 n).map V.str))):=s6.trans (t7.trans (Ad af _));refine Pc #[g (.ref z),g (.ref C)] (upd (upd f d (.lst ((Y3 n).map V.str))) C (.lst ((Lj n++Li n++Mw n++Ou n++Sf n++Wi n++M7 n).map V.str++(Y3 n).map V.str))) I I ?_;generalize upd (upd f d (.lst ((Y3 n).map V.str))) C (.lst ((Lj n++Li n++Mw n++Ou n++Sf n++Wi n++M7 n).map V.str++(Y3 n).map V.str))=u at h7 s7;refine[_,I,(O "always and ").cps.toList,30,(nI V.str (Hq _)).symm,I,Y,Y,G,_,_,I,I,Ck G,_,_,I,I,Ck G,l4,λv ao=>?_];let t8:Ae u (upd u v (.lst ((YI n).map V.str))):=Ad ao _;refine[C,v,_,_,I,I,t8 _ _ h7,Aa,by rw[zCy];show 52<=_;decide,λa aa=>?_];let h8:upd (upd u v (.lst ((YI n).map V.str))) a (.lst ((Lj n++Li n++Mw n++Ou n++Sf n++Wi n++M7 n++Y3 n).map V.str++(YI n).map V.str)) a=g (.lst ((Lj n++Li n++Mw n++Ou n++Sf n++Wi n++M7 n++Y3 n++YI n).map V.str)):=by rw[Aa,<- zAf]
 let s8:Ae H (upd (upd u v (.lst ((YI n).map V.str))) a (.lst ((Lj n++Li n++Mw n++Ou n++Sf n++Wi n++M7 n++Y3 n).map V.str++(YI n).map V.str))):=s7.trans (t8.trans (Ad aa _));exact q a _ s8 (s7.free (t8.free aa)) h8
end
def Wt{xs:List V}{k:Nat}(h:k<=xs.length):Qs xs (g (k:Int)) M=xs.drop k:=by
 unfold Qs;rw[HT.sIx_nat,HT.sIx_none,zCm h,zBX (by rw[zBb];lia)]
def LD{K:zAa}{H:Hp}{a b:lU}{w:J}(z:H a=g (.lst #[.str w]))(F:H b=g (.tup #[.str w])){k:Int}(C:0<=k)(L:k<=4):∃x,Ob #[.non,.int 5,.bl B,.ref a,.ref b] k=g x/\(∃T,Cy K H x (.type T)/\C9 x=lX)/\∃d,Ta K H d x/\Qw d<=1:=by
 let:k=0\/k=1\/k=2\/k=3\/k=4:=by lia
 rcases this with rfl|rfl|rfl|rfl|rfl
 .exact[_,I,[_,.non,I],_,Cm I,by unfold Qw;decide]
 .exact[_,I,[_,.int _,I],_,Cm I,by unfold Qw;decide]
 .exact[_,I,[_,.bl _,I],_,Cm I,by unfold Qw;decide]
 .exact[_,I,[_,.lst z,I],_,Oa z (Dp (Cm I) Fv),by simp[Qw,deps]]
 .exact[_,I,[_,.tup F,I],_,Jd F (Dp (Cm I) Fv),by simp[Qw,deps]]
inductive DN(K:zAa)(vs:List V)(H:Hp)(Q:VK):Prop
 |mk (rl nl:T) (rs:List Bn) (D:List J) (wy c:Int) (n:J) (z0:vs=#[.ref rl,.ref nl,.int wy,.int c]) (z1:H rl=g (.lst (rs.map Bh))) (z2:H nl=g (.lst (D.map V.str))) (z3:kL D rs) (z4:D[0]?=g n) (z5:∀z∈D,nameV (.str z)=B) (z6:0<=c) (z7:∀t l xs,∀i:Nat,∀H',Ae H H'->H' t=g (.tup #[.ref l,.int i])->H' l=g (.lst xs)->kJ K H' n xs i->xs.length<=45->Q (.ref t) H'):DN K vs H Q
def VO(K:zAa):Sp:=λC H Q x=>DN K C H Q
section
seal L2.PS L2.PSs L2.PE L2.PA
variable {P:mF} {w:mR} {K:zAa} {mg:J->Option lV} {base:mX}
def J2(C:Pm P w K mg base):Jc C 2 "_law_spoilt" #["_law_rows_here","_law_names_here","_law_way","_law_cell_here"] (VO K):=Os C.z C.og #["_law_rows_here","_law_names_here","_law_way","_law_cell_here","_law_at","_law_bad","_law_more"] df λsc H Q hr h=>by
 let[s,nl,U,D,wy,c,n,rfl,b2,hn,L,en,kM,c0,q]:=h;refine[_,(Ab (Fk sc 4 (Au Ea Ah (Au Dk (pv 3) (Ix Bg C.z C.ag (Cf (pv 0))))))
   (Ab (Fk sc 5 (Gg (Pi C) hr (Cf (pv 1))))
   (Ab (Ce (Ax Dv (pv 2) Ah (Bf _))
    (Ac (Ay (Du (Dy (Au Ef (Au Ef (Js Lf (pv 0) Lg (Le (pv 4))) (Ca (Cf (Cr By (Ca (Aw Kf (Aw Ah (Aw Hw (Dy (Ca (Cf Aj)) (Du (Cf Aj))))))) (Au Dk (Au Dt (pv 3) Ah) Ah) (λ_ _=>I))))) (Js Lf (pv 0) (Le (pv 4)) Lg)) (pv 4)))))
    Be)
   (Ab (Ce (Ax Dv (pv 2) Ah (Bf _))
    (Ac (Ay (Du (Dy (Au Ef (Ca (Cf Aj)) (pv 0)) Ah))))
    Be)
   (Ab (Ce (Ax Dv (pv 2) Ah (Bf _))
    (Ac (Ay (Du (Dy (Au Ef (Ca (Cf (Cr By (Ca (Aw Aj (Aw Aj (Dy Aj Aj)))) (Au Dk (pv 3) Ah) (λ_ _=>I)))) (pv 0)) Ah))))
    Be)
   (Ab (Ce (Ax Dv (pv 2) Ah (Bf _))
    (Ac (Ay (Du (Dy (Au Ef (pv 0) (Ca (Cf Aj))) (Ix Bg C.z C.ag (Cf (pv 0)))))))
    Be)
   (Ab (Ce (Ax Dv (pv 2) Ah (Bf _))
    (Ac (Ay (Du (Dy (Au Ef (pv 0) (Ca (Cf Aj))) (Ix Bg C.z C.ag (Cf (pv 0)))))))
    Be)
   (Ab (Ce (Ax Dv (pv 2) Ah (Bf _))
    (Ac (Ay (Du (Dy (Au Ef (pv 0) (Ca (Cf Aj))) (Ix Bg C.z C.ag (Cf (pv 0)))))))
    Be)
   (Ab (Ce (Ax Dv (pv 2) Ah (Bf _))
    (Ac (Ay (Du (Dy (Au Ef (pv 0) (Au AQ (Ca (Cf Aj)) (Au Ea Ah (Au Dk (pv 3) Ah)))) (Au Ea (Ix Bg C.z C.ag (Cf (pv 0))) Ah)))))
    Be)
   (Ab (Ce (Ax Dv (pv 2) Ah (Bf _))
    (Ac (Ay (Du (Dy (Au Ef (pv 0) (Ca (Cf (Au Bm Aj (Cr By (pv 1) (Au Dk (pv 3) Ah) (λ_ _=>I)))))) (Ix Bg C.z C.ag (Cf (pv 0)))))))
    Be)
   (Ab (Ce (Ax Dv (pv 2) Ah (Bf _))
    (Ab (Nk (NC:=#["_law_name"]) (own:=#["_law_name"]) (cs:=[]) (ix:=[]) (j:=6) sc.nd I I I (Az.of I) I trivial (Em (Ca (Aw Aj (Aw Aj (Aw Aj (Aw Aj (Dy Aj Aj))))))) (λ_ _ _=>(Xa 0)) (λ_ _ _=>Fh) (λ_ _ _=>(Au Bm Aj (pv 0))))
   (Ac (Ay (Du (Dy (Au Ef (pv 0) (pv 6)) (Au Ea (Ix Bg C.z C.ag (Cf (pv 0))) Ah))))))
    Be)
   (Ac (Ay (Du (Dy (Au Ef (Au Ef (Js Lf (pv 0) Lg (Le (pv 4))) (Ca (Cf (Cr By (pv 5) (Au Dk (Au Dt (pv 3) Ah) (Ix Bg C.z C.ag (Cf (pv 5)))) (λ_ _=>I))))) (Js Lf (pv 0) (Le (pv 4)) Lg)) (pv 4)))))))))))))))),?_]
 refine Je λN R=>?_;let S:1<=sizeLine:=by rw[zCy];decide
 let u:2<=sizeLine:=by rw[zCy];decide
 let b1:4<=sizeLine:=by rw[zCy];decide
 let a9:5<=sizeLine:=by rw[zCy];decide
 let c1:6<=sizeLine:=by rw[zCy];decide
 let ln:=L.ln;let f:(U.map Bh).length=U.length:=zAb _;let l1:1<=U.length:=by let[n',r,e,_]:=L.hd;rw[e,zAd];lia
 let a8:nameV (.str n)=B:=kM n (zAz en);let c5:=Ga a8;let lb:(Nf n).length=52:=rfl;refine[_,I,_,I,s,_,I,.inl (Al.of b2),_,_,I,I,(by show(0:Int)<((U.map Bh).length:Int);lia),_,_,I,I,?_];let mm:=md (a:=c) (b:=((U.map Bh).length:Int)) Z;refine Ux 1 (U.length:Int) [Z,Z] λpz c4 c3=>?_;let[p,rfl]:=nJ (show 0<=pz by lia);let p1:1<=p:=by lia
 let pl:p<=U.length:=by lia
 let a6:p<=(U.map Bh).length:=by lia
 refine Ic #[g (.ref s),g (.ref nl),g (.int wy),g (.int c),g (.int (p:Int)),M,M] rfl ?_
 first|refine Fn R λN R=>?_|subst R
 refine[_,I,nl,D,n,I,hn,en,Z,λb A s1 nb hb=>?_];refine Ic #[g (.ref s),g (.ref nl),g (.int wy),g (.int c),g (.int (p:Int)),g (.ref b),M] rfl ?_
 first|refine Fn R λN R=>?_|subst R
 let W:=s1 _ _ b2;let a0:∀{Hx:Hp} {l:T} {xs:List V} {i:Nat},Ae H Hx->Hx l=g (.lst xs)->kJ K Hx n xs i->xs.length<=45->∀{t:T},Hx t=M->Q (.ref t) (upd Hx t (.tup #[.ref l,.int i])):=λsx hl sp b8 t F=>q t _ _ _ _ (sx.trans (Ad F _)) Aa (Ad F _ _ _ hl) (sp.same (Ad F _)) b8;by_cases w0:wy=0
 .subst w0
  refine[_,I,I,_,I,dT I ?_];refine[_,I,_,I,_,I,s,_,I,Al.of W,λx1 n1=>?_];rw[Qj _ a6];let X:Ae A (upd A x1 (.lst ((U.map Bh).take p))):=Ad n1 _;let g1:upd A x1 (.lst ((U.map Bh).take p)) x1=g (.lst ((U.map Bh).take p)):=Aa;generalize upd A x1 (.lst ((U.map Bh).take p))=Ha at X g1;refine[S,λy1 m1=>[S,λy2 m2=>[a9,λy3 m3=>?_]]];let v1:Ae Ha (upd Ha y1 (.lst #[.str (O "waits")])):=Ad m1 _;let v2:Ae (upd Ha y1 (.lst #[.str (O "waits")])) (upd (upd Ha y1 (.lst #[.str (O "waits")])) y2 (.tup #[.str (O "waits")])):=Ad m2 _;let w1:=v2 _ _ Aa;let w2:upd (upd Ha y1 (.lst #[.str (O "waits")])) y2 (.tup #[.str (O "waits")]) y2=g (.tup #[.str (O "waits")]):=Aa;let b4:=v1.trans v2;generalize upd (upd Ha y1 (.lst #[.str (O "waits")])) y2 (.tup #[.str (O "waits")])=Hz at b4 w1 w2 v2 m3;let v3:Ae Hz (upd Hz y3 (.lst #[.non,.int 5,.bl B,.ref y1,.ref y2])):=Ad m3 _;let mk:=md (a:=c/64) (b:=5) Y;let[x,ex,[T',ty,ns],d,rp,dp]:=LD (K:=K) (v3 _ _ w1) (v3 _ _ w2) mk.1 Z;refine[_,I,_,_,I,I,[Y,Y],_,_,I,I,(by show(0:Int)<5;decide),y3,_,_,_,I,I,Al.of Aa,ex,S,λx2 n2=>?_];let tb:=b4.trans v3;generalize upd Hz y3 (.lst #[.non,.int 5,.bl B,.ref y1,.ref y2])=Hb at tb ty rp n2;let t2:Ae Hb (upd Hb x2 (.lst #[x])):=Ad n2 _;refine[x1,x2,_,_,I,I,t2 _ _ (tb _ _ g1),Aa,by rw[zAq,zCy];show _+1<=_;lia,λx3 n3=>?_]
  let t3:Ae (upd Hb x2 (.lst #[x])) (upd (upd Hb x2 (.lst #[x])) x3 (.lst ((U.map Bh).take p++#[x]))):=Ad n3 _;let g3:upd (upd Hb x2 (.lst #[x])) x3 (.lst ((U.map Bh).take p++#[x])) x3=g (.lst ((U.map Bh).take p++#[x])):=Aa;let a2:=X.trans (tb.trans (t2.trans t3));let a4:=t2.trans t3;generalize upd (upd Hb x2 (.lst #[x])) x3 (.lst ((U.map Bh).take p++#[x]))=Hc at g3 a2 a4;refine[_,I,_,I,_,I,s,_,I,Al.of (a2 _ _ W),λx4 n4=>?_];rw[Wt a6];let t4:Ae Hc (upd Hc x4 (.lst ((U.map Bh).drop p))):=Ad n4 _;refine[x3,x4,_,_,I,I,t4 _ _ g3,Aa,by rw[zAc,zAq,zBb,zCy];show _+1+_<=_;lia,λx5 n5=>?_];let E:=t4.trans (Ad n5 (.lst ((U.map Bh).take p++#[x]++(U.map Bh).drop p)));refine[_,I,u,λt F=>a0 (s1.trans (a2.trans E)) Aa (kL.cut L en p1 pl (λds st=>.inl [T',Cy.same ty (a4.trans E),ns]) [d,Ta.same (a4.trans E) d rp,dp]) ?_ F];rw[zAc,zAc,zAq,zBb];show _+1+_<=45
  lia
 refine[_,I,I,_,I,dF (λz=>w0 (V.int.inj z)) ?_];by_cases w1:wy=1
 .subst w1
  first|refine Fn R λN R=>?_|subst R
  refine[_,I,I,_,I,dT I ?_];refine[S,λm nm=>?_];let X:Ae A (upd A m (.lst #[.str (O "waits")])):=Ad nm _;refine[_,I,m,s,_,_,I,I,Aa,X _ _ W,by rw[f,zCy];show 1+_<=_;lia,λx5 n5=>?_];let E:=X.trans (Ad n5 (.lst (.str (O "waits")::U.map Bh)));exact[u,λt F=>a0 (i:=0) (s1.trans E) Aa (kL.top L (ID (k:=O "waits") (r:=[]) G)) (by rw[zAd,f];lia) F]
 first|refine Fn R λN R=>?_|subst R
 refine[_,I,I,_,I,dF (λz=>w1 (V.int.inj z)) ?_];by_cases w2:wy=2
 .subst w2
  first|refine Fn R λN R=>?_|subst R
  refine[_,I,I,_,I,dT I ?_];let mk:=md (a:=c) (b:=4) Y;obtain⟨x,ex,xb⟩:∃x,Ob #[V.str (O "own event 1.00"),.str (O "when always"),.str (O "share acme 1"),.str (O "limit year 1.00")] (c%4)=g (.str x)/\Ki [] x:=by
   generalize c%4=k at mk;let:k=0\/k=1\/k=2\/k=3:=by lia
   rcases this with rfl|rfl|rfl|rfl
   .exact[_,I,ID (k:=O "own") (r:=#[O "event",O "1.00"]) G]
   .exact[_,I,ID (k:=O "when") (r:=#[O "always"]) G]
   .exact[_,I,ID (k:=O "share") (r:=#[O "acme",O "1"]) G]
   .exact[_,I,ID (k:=O "limit") (r:=#[O "year",O "1.00"]) G]
  refine[b1,λm4 c2=>?_];let t0:Ae A (upd A m4 (.lst #[V.str (O "own event 1.00"),.str (O "when always"),.str (O "share acme 1"),.str (O "limit year 1.00")])):=Ad c2 _;refine[_,I,_,_,I,I,(by show(0:Int)<4;decide),m4,_,_,_,I,I,Al.of Aa,ex,S,λm nm=>?_];let X:=t0.trans (Ad nm (.lst #[.str x]));refine[_,I,m,s,_,_,I,I,Aa,X _ _ W,by rw[f,zCy];show 1+_<=_;lia,λx5 n5=>?_];let E:=X.trans (Ad n5 (.lst (.str x::U.map Bh)));exact[u,λt F=>a0 (i:=0) (s1.trans E) Aa (kL.top L xb) (by rw[zAd,f];lia) F]
 first|refine Fn R λN R=>?_|subst R
 refine[_,I,I,_,I,dF (λz=>w2 (V.int.inj z)) ?_];by_cases w3:wy=3
 .subst w3
  first|refine Fn R λN R=>?_|subst R
  refine[_,I,I,_,I,dT I ?_];refine[_,I,S,λm nm=>?_];let X:Ae A (upd A m (.lst #[.str (O "waits")])):=Ad nm _;refine[s,m,_,_,I,I,X _ _ W,Aa,by rw[f,zCy];show _+1<=_;lia,λx5 n5=>?_];let E:=X.trans (Ad n5 (.lst (U.map Bh++#[.str (O "waits")])));refine[_,I,s,_,I,.inl (Al.of (E _ _ W)),u,λt F=>?_];rw[f];exact a0 (s1.trans E) Aa (kL.end (ts:=[]) (post:=[]) L en (λds m t l2 e0 a1 a3=>[_,.nil,(VS (k:=O "waits") (r:=[]) G (.inr (.inr (.inl [I,.inl I]))):Ki _ _).rw]) (Jj _) (λ_ z=>nomatch z) Y) (by rw[zAc,f];show _+1<=45;lia) F
 first|refine Fn R λN R=>?_|subst R
 refine[_,I,I,_,I,dF (λz=>w3 (V.int.inj z)) ?_];by_cases w4:wy=4
 .subst w4
  first|refine Fn R λN R=>?_|subst R
  refine[_,I,I,_,I,dT I ?_];refine[_,I,S,λm nm=>?_];let X:Ae A (upd A m (.lst #[.str (O "when always")])):=Ad nm _;refine[s,m,_,_,I,I,X _ _ W,Aa,by rw[f,zCy];show _+1<=_;lia,λx5 n5=>?_];let E:=X.trans (Ad n5 (.lst (U.map Bh++#[.str (O "when always")])));refine[_,I,s,_,I,.inl (Al.of (E _ _ W)),u,λt F=>?_];rw[f];exact a0 (s1.trans E) Aa (kL.end (ts:=[]) (post:=[]) L en (λds m t l2 e0 a1 a3=>[_,.nil,(VS (k:=O "when") (r:=#[O "always"]) G (.inl [I,.inl (by intro z;cases z)]):Ki _ _).rw]) (Jj _) (λ_ z=>nomatch z) Y) (by rw[zAc,f];show _+1<=45;lia) F
 first|refine Fn R λN R=>?_|subst R
 refine[_,I,I,_,I,dF (λz=>w4 (V.int.inj z)) ?_];by_cases w5:wy=5
 .subst w5
  first|refine Fn R λN R=>?_|subst R
  refine[_,I,I,_,I,dT I ?_];refine[_,I,S,λm nm=>?_];let X:Ae A (upd A m (.lst #[.str (O "share acme 1")])):=Ad nm _;refine[s,m,_,_,I,I,X _ _ W,Aa,by rw[f,zCy];show _+1<=_;lia,λx5 n5=>?_];let E:=X.trans (Ad n5 (.lst (U.map Bh++#[.str (O "share acme 1")])));refine[_,I,s,_,I,.inl (Al.of (E _ _ W)),u,λt F=>?_];rw[f];exact a0 (s1.trans E) Aa (kL.end (ts:=[]) (post:=[]) L en (λds m t l2 e0 a1 a3=>[_,.nil,(VS (k:=O "share") (r:=#[O "acme",O "1"]) G (.inr (.inl [I,.inl (by intro z;cases z)])):Ki _ _).rw]) (Jj _) (λ_ z=>nomatch z) Y) (by rw[zAc,f];show _+1<=45;lia) F
 first|refine Fn R λN R=>?_|subst R
 refine[_,I,I,_,I,dF (λz=>w5 (V.int.inj z)) ?_];by_cases w6:wy=6
 .subst w6
  first|refine Fn R λN R=>?_|subst R
  refine[_,I,I,_,I,dT I ?_];let mk:=md (a:=c) (b:=3) Y;refine[_,I,S,λm nm=>?_];let X:Ae A (upd A m (.lst #[.str (O "own loss 0.00")])):=Ad nm _;refine[_,I,_,_,I,I,(by show(0:Int)<3;decide),_,_,I,I,m,_,_,I,I,Aa,Z,Z,by rw[zCy];show 1*_<=_;lia,λm2 b7=>?_];obtain⟨k,ek,kl⟩:∃k:Nat,(9+c%3).toNat=9+k/\k<=2:=[(c%3).toNat,Z,Z];rw[ek];let er:(zAe (9+k) #[V.str (O "own loss 0.00")]).flatten=(zAe 8 (Bn.cls Ke)).map Bh++V.str (O "own loss 0.00")::zAe k (V.str (O "own loss 0.00")):=by
   let e1:(zAe 8 (Bn.cls Ke)).map Bh=zAe 8 (V.str (O "own loss 0.00")):=by
    rw[sY];show zAe 8 (V.str (Bn.cls Ke).row)=_;rw[LL]
   rw[e1,<- zAN,List.replicate_append_replicate,List.flatten_replicate_singleton]
   congr 1
   lia
  rw[er];let t2:=X.trans (Ad b7 (.lst ((zAe 8 (Bn.cls Ke)).map Bh++V.str (O "own loss 0.00")::zAe k (V.str (O "own loss 0.00")))));let lt:((zAe 8 (Bn.cls Ke)).map Bh++V.str (O "own loss 0.00")::zAe k (V.str (O "own loss 0.00"))).length=9+k:=by
   rw[zAc,zAb,zAC,zAd,zAC]
   lia
  refine[s,m2,_,_,I,I,t2 _ _ W,Aa,by rw[f,lt,zCy];lia,λx5 n5=>?_];let E:=t2.trans (Ad n5 (.lst (U.map Bh++((zAe 8 (Bn.cls Ke)).map Bh++V.str (O "own loss 0.00")::zAe k (V.str (O "own loss 0.00"))))));refine[_,I,s,_,I,.inl (Al.of (E _ _ W)),_,_,I,I,u,λt F=>?_];let sp:=kL.end (K:=K) (H:=upd (upd (upd A m (.lst #[.str (O "own loss 0.00")])) m2 (.lst ((zAe 8 (Bn.cls Ke)).map Bh++V.str (O "own loss 0.00")::zAe k (V.str (O "own loss 0.00"))))) x5 (.lst (U.map Bh++((zAe 8 (Bn.cls Ke)).map Bh++V.str (O "own loss 0.00")::zAe k (V.str (O "own loss 0.00")))))) (ts:=zAe 8 (Bn.cls Ke)) (post:=zAe k (V.str (O "own loss 0.00"))) L en (λds m t l2 e0 a1 a3=>[_,R4 a1 8 0 Y,(JV a1).rw]) (Jj _) (λv hv=>by rw[zAK hv];exact Jj _) (by rw[zAC,zAC];lia);let ei:((U.map Bh).length:Int)+8=((U.length+(zAe 8 (Bn.cls Ke)).length:Nat):Int):=by rw[f,zAC];lia
  show Q (.ref t) (upd _ t (.tup #[.ref x5,.int (((U.map Bh).length:Int)+8)]));rw[ei];exact a0 (s1.trans E) Aa sp (by rw[zAc,f,lt];lia) F
 first|refine Fn R λN R=>?_|subst R
 refine[_,I,I,_,I,dF (λz=>w6 (V.int.inj z)) ?_];by_cases w7:wy=7
 .subst w7
  first|refine Fn R λN R=>?_|subst R
  refine[_,I,I,_,I,dT I ?_];let mk:=md (a:=c) (b:=3) Y;let lD:D.length=3:=by
   let[_,ds,_,_,_,_,l2,e,_]:=L.ex;rw[e,zAc,zAb,l2];rfl
  let[j,ej]:=nJ mk.1;let jl:j<D.length:=by lia
  let a5:Ob (D.map V.str) (c%3)=g (.str D[j]):=by
   rw[ej];exact Gk (by rw[zAt,zAi jl];rfl)
  let xm:D[j]∈D:=zBp jl;generalize D[j]=x at a5 xm;let b0:=kM x xm;let lx:=Ga b0;let e6:(O "cover ").length=6:=by ac_nf
  refine[_,I,_,I,_,I,_,_,I,I,(by show(0:Int)<3;decide),nl,_,_,_,I,I,Al.of (s1 _ _ hn),a5,_,_,I,I,by rw[e6,zCy];lia,S,λm nm=>?_];let X:Ae A (upd A m (.lst #[.str (O "cover "++x)])):=Ad nm _;refine[s,m,_,_,I,I,X _ _ W,Aa,by rw[f,zCy];show _+1<=_;lia,λx5 n5=>?_];let E:=X.trans (Ad n5 (.lst (U.map Bh++#[.str (O "cover "++x)])));refine[_,I,s,_,I,.inl (Al.of (E _ _ W)),u,λt F=>?_];rw[f];exact a0 (s1.trans E) Aa (kL.end (ts:=[]) (post:=[]) L en (λds m t l2 e0 a1 a3=>[_,.nil,(UH (by rw[zAf];show x∈ds.map (·.nm)++#[m];rw[<- e0];exact xm) b0).rw]) (Jj _) (λ_ z=>nomatch z) Y) (by rw[zAc,f];show _+1<=45;lia) F
 first|refine Fn R λN R=>?_|subst R
 refine[_,I,I,_,I,dF (λz=>w7 (V.int.inj z)) ?_];by_cases w8:wy=8
 .subst w8
  first|refine Fn R λN R=>?_|subst R
  refine[_,I,I,_,I,dT I ?_];refine[c1,λm nm=>?_];let X:Ae A (upd A m (.lst (kP.map V.str))):=Ad nm _;let hm:upd A m (.lst (kP.map V.str)) m=g (.lst (kP.map V.str)):=Aa;refine[m,I,[_,Al.of hm],λcb b3=>?_];let lx:∀z∈kP,z.length<=8:=by ac_nf
  let e6:(O "cover ").length=6:=by ac_nf
  refine Ez (K:=K) (a:=m) (xs:=kP.map V.str) (λi ys H3=>ys=((kP.take i).map Bn.cov).map Bh/\H3 cb=g (.lst ys)/\Ae (upd A m (.lst (kP.map V.str))) H3) [I,Aa,Ad b3 _]
   (λi ys H3 _ ⟨e,h1,s3⟩=>[h1,by rw[e,zAb,zAb,zAq];lia,Al.of (s3 _ _ hm)]) (by rw[zCy];decide) (λi x ys H3 hi ⟨e,h1,s3⟩=>?_) (λys H3 ⟨e,b5,s3⟩=>?_)
  .rw[zAt]at hi
   let[z,ez,rfl]:=zAI.mp hi;let:=lx z (zAz ez);refine[_,I,_,_,I,I,by rw[e6,zCy];lia,h1,I,?_,Aa,λb' o y=>?_]
   .rw[Df ez,zAf,zAf,e,Ss]
    rfl
   .rw[Ak (Ai y b3)]
    exact s3 _ _ y
  let e:ys=((kP.take 5).map Bn.cov).map Bh++#[.str (Bn.cov (O "xfxfxfxf")).row]:=e;subst e;let t3:=X.trans s3;refine Ic #[g (.ref s),g (.ref nl),g (.int 8),g (.int c),g (.int (p:Int)),g (.ref b),g (.ref cb)] rfl ?_
  first|refine Fn R λN R=>?_|subst R
  refine[_,I,_,I,s,cb,_,_,I,I,t3 _ _ W,b5,by rw[f,zCy];show _+6<=_;lia,λx5 n5=>?_];let E:=t3.trans (Ad n5 (.lst (U.map Bh++(((kP.take 5).map Bn.cov).map Bh++#[.str (Bn.cov (O "xfxfxfxf")).row]))));refine[_,I,s,_,I,.inl (Al.of (E _ _ W)),_,_,I,I,u,λt F=>?_];let b9:∀ds:List Dr,∀m t,ds.length=2->D=ds.map (·.nm)++#[m]->Mi (.cov m)->Mi (.when t)->∃a7,Lo (ds++#[d3 m t []]) ((kP.take 5).map Bn.cov) a7/\kD K (upd H3 x5 (.lst (U.map Bh++(((kP.take 5).map Bn.cov).map Bh++#[.str (Bn.cov (O "xfxfxfxf")).row])))) a7 (.str (Bn.cov (O "xfxfxfxf")).row):=λds m t l2 e0 a1 a3=>by
   refine[_,V3 (kP.take 5) (ds++#[d3 m t []]) (λz hz=>UM z (zAW hz)) (by rw[zAc,l2];show 2+1+5<=8;decide) (λz hz zz=>?_) G,(MQ (by rw[zAc,zAc,l2];rfl) (n:=O "xfxfxfxf") G).rw];rw[zAf]at zz;let zz:z∈ds.map (·.nm)++#[m]:=zz;rw[<- e0]at zz;exact L.xx z zz (aG z (zAW hz))
  let sp:=kL.end (post:=[]) L en b9 (Jj _) (λ_ z=>nomatch z) Y;let ei:((U.map Bh).length:Int)+5=((U.length+((kP.take 5).map Bn.cov).length:Nat):Int):=by rw[f];show _=((U.length+5:Nat):Int);lia
  show Q (.ref t) (upd _ t (.tup #[.ref x5,.int (((U.map Bh).length:Int)+5)]));rw[ei];exact a0 (s1.trans E) Aa sp (by rw[zAc,f];show _+6<=45;lia) F
 first|refine Fn R λN R=>?_|subst R
 refine[_,I,I,_,I,dF (λz=>w8 (V.int.inj z)) ?_]
 first|refine Fn R λN R=>?_|subst R
 refine[_,I,_,I,_,I,s,_,I,Al.of W,λx1 n1=>?_];rw[Qj _ a6];let X:Ae A (upd A x1 (.lst ((U.map Bh).take p))):=Ad n1 _;let g1:upd A x1 (.lst ((U.map Bh).take p)) x1=g (.lst ((U.map Bh).take p)):=Aa;generalize upd A x1 (.lst ((U.map Bh).take p))=Ha at X g1;let mk:=md (a:=c/64) (b:=52) Y;let[k,ek]:=nJ mk.1;let kl:k<(Nf n).length:=by rw[lb];lia
 let a5:Ob ((Nf n).map V.str) (c/64%((Nf n).map V.str).length)=g (.str (Nf n)[k]):=by
  rw[zAb,lb,show(((52:Nat):Int))=52 from rfl,ek];exact Gk (by rw[zAt,zAi kl];rfl)
 refine[_,I,_,I,_,_,I,I,[Y,Y],_,I,b,_,I,.inl (Al.of (X _ _ hb)),_,_,I,I,(by show(0:Int)<(((Nf n).map V.str).length:Int);rw[zAb,lb];decide),b,_,_,_,I,I,Al.of (X _ _ hb),a5,S,λx2 n2=>?_];let xm:(Nf n)[k]∈Nf n:=zBp kl;generalize (Nf n)[k]=x at xm;let tb:=Ae.refl Ha;let t2:Ae Ha (upd Ha x2 (.lst #[.str x])):=Ad n2 _;refine[x1,x2,_,_,I,I,t2 _ _ (tb _ _ g1),Aa,by rw[zAq,zCy];show _+1<=_;lia,λx3 n3=>?_];let t3:Ae (upd Ha x2 (.lst #[.str x])) (upd (upd Ha x2 (.lst #[.str x])) x3 (.lst ((U.map Bh).take p++#[.str x]))):=Ad n3 _;let g3:upd (upd Ha x2 (.lst #[.str x])) x3 (.lst ((U.map Bh).take p++#[.str x])) x3=g (.lst ((U.map Bh).take p++#[.str x])):=Aa;let a2:=X.trans (tb.trans (t2.trans t3));let a4:=t2.trans t3;generalize upd (upd Ha x2 (.lst #[.str x])) x3 (.lst ((U.map Bh).take p++#[.str x]))=Hc at g3 a2 a4;refine[_,I,_,I,_,I,s,_,I,Al.of (a2 _ _ W),λx4 n4=>?_];rw[Wt a6];let t4:Ae Hc (upd Hc x4 (.lst ((U.map Bh).drop p))):=Ad n4 _;refine[x3,x4,_,_,I,I,t4 _ _ g3,Aa,by rw[zAc,zAq,zBb,zCy];show _+1+_<=_;lia,λx5 n5=>?_];let E:=t4.trans (Ad n5 (.lst ((U.map Bh).take p++#[.str x]++(U.map Bh).drop p)));refine[_,I,u,λt F=>a0 (s1.trans (a2.trans E)) Aa (kL.cut L en p1 pl (λds st=>(EO st a8 x xm).rw) (Jj x)) ?_ F];rw[zAc,zAc,zAq,zBb];show _+1+_<=45
 lia
end
def K9{n:J}(h:nameV (.str n)=B):N6 n:=[n.cps.toList,(Hq n).symm,mU h]
def JT:Ev:=.at (.cau (O "barn"))
def NW:Ev:=.at (.thi (O "hail"))
def XM:Ev:=.no (.at (.cau (O "hail")))
def cV:Ev:=.at (.ovr 5)
def cU:Ev:=.no (.no (.no (.no (.no (.no (.at .alw))))))
def YM:Ev:=.so #[.al (zAe 8 JT),.al (zAe 8 JT),.al #[NW,NW,NW,XM]]
def PB:Fd Ej JT:=by unfold JT Fd;exact K9 G
def L9:Fd Ej NW:=by unfold NW Fd;exact K9 G
def SE:Fd Ej XM:=by unfold XM Fd Fd;exact K9 G
def WG:Mi (.when cV):=[by unfold cV Fd;exact[Y,Y],G,G,G]
def WO:Mi (.when cU):=[by unfold cU;unfold Fd;unfold Fd;unfold Fd;unfold Fd;unfold Fd;unfold Fd;unfold Fd;trivial,G,G,G]
def DG:Fd Ej YM:=by
 let F:Fd Ej (.al (zAe 8 JT)):=by
  unfold Fd;exact[Y,Y,Pz λt z=>by rw[zAK z];exact PB]
 unfold YM Fd;refine[Y,Y,Pz λt z=>?_];rcases zAg.mp z with rfl|z
 .exact F
 rcases zAg.mp z with rfl|z
 .exact F
 rw[zAp.mp z];unfold Fd;refine[by show 2<=4;decide,by show 4<=8;decide,Pz λt z=>?_];rcases zAg.mp z with rfl|z
 .exact L9
 rcases zAg.mp z with rfl|z
 .exact L9
 rcases zAg.mp z with rfl|z
 .exact L9
 rw[zAp.mp z];exact SE
def UX:Mi (.when YM):=[DG,G,G,G]
def RA:O "when over 0.05"=(Bn.when cV).row:=by ac_nf
def RU:O "when "++tx (zAe (6:Int).toNat (O "not ").cps.toList).flatten++O "always"=(Bn.when cU).row:=by ac_nf
def lG:J:=mE (O " and ") (zAe 8 (O "cause barn"))
def lM:J:=mE (O " and ") #[O "thing hail",O "thing hail",O "thing hail",O "not cause hail"]
def W1:List J:=Dh (O "and") (zAe 8 #[O "cause",O "barn"])
def W3:List J:=Dh (O "and") #[#[O "thing",O "hail"],#[O "thing",O "hail"],#[O "thing",O "hail"],#[O "not",O "cause",O "hail"]]
def SR:O " and "=O " "++O "and"++O " ":=by ac_nf
def fW:O " or "=O " "++O "or"++O " ":=by ac_nf
def VH:lG=mE (O " ") W1:=by
 let e:zAe 8 (O "cause barn")=(zAe 8 #[O "cause",O "barn"]).map (mE (O " ")):=by
  rw[sY]
  congr 1
 unfold lG W1;rw[e,SR,Uk _ zZ λx z=>by rw[zAK z];simp]
def XU:lM=mE (O " ") W3:=by
 let L:O "thing hail"=mE (O " ") #[O "thing",O "hail"]:=by ac_nf
 let C:O "not cause hail"=mE (O " ") #[O "not",O "cause",O "hail"]:=by ac_nf
 unfold lM W3;rw[L,C,SR];refine Eq.trans ?_ (Uk (O "and") zZ (λx F=>?_))
 .rfl
 .intro z
  rw[z]at F;simp at F
def kA:J:=lG++O " or "++lG++O " or "++lM
def QL:O "when "++kA=(Bn.when YM).row:=by
 let L:W1≠[]:=by unfold W1;rw[zAN];simp[Dh]
 let C:W3≠[]:=by unfold W3;simp[Dh]
 let e:kA=mE (O " ") (Dh (O "or") #[W1,W1,W3]):=by
  rw[<- Uk (O "or") zZ (λx F=>?_)]
  .rw[zAr,zAr,zAr,zBr,<- VH,<- XU,Kp,Kp,<- fW]
   unfold kA;simp only[<- Ey];rfl
  .intro z
   rw[z]at F;simp at F;rcases F with F|F
   .exact L F
   .exact C F
 let S:Dh (O "or") #[W1,W1,W3]=Bz Bb YM:=by ac_nf
 rw[e,S,Wm DG]
def OV:lG.length<=200:=by
 let:=Ik (z:=O " and ") (B:=10) (ps:=zAe 8 (O "cause barn")) λy L=>by rw[zAK L];decide +kernel
 let F:(O " and ").length=5:=by ac_nf
 rw[F,zAC]at this;unfold lG
 lia
def OK:lM.length<=200:=by
 let:=Ik (z:=O " and ") (B:=14) (ps:=#[O "thing hail",O "thing hail",O "thing hail",O "not cause hail"]) G;let F:(O " and ").length=5:=by ac_nf
 rw[F]at this;let L:#[O "thing hail",O "thing hail",O "thing hail",O "not cause hail"].length=4:=rfl;rw[L]at this;unfold lM
 lia
def Vi(d:LC):Ek d=Bn.cov d.nm::(Ia d++(d.cl.map Bn.cls++(Nu d++Lc d))):=rfl
def AB(z:List LC):(rK (λd F=>Bn.cov (LC.nm d)::F) z (z.map λd=>Ia d++(d.cl.map Bn.cls++(Nu d++Lc d)))).flatten=z.flatMap Ek:=by
 induction z with
 |nil=>rfl
 |cons d z C=>rw[zAr,wE,zBf,zCt,C,Vi]
theorem DZ{C H:Type}{R:C->H->Prop}{f:C->H}:∀l:List C,(∀a∈l,R a (f a))->jN R l (l.map f)
 |[],_=>.nil
 |a::l,h=>.cons (h a zZ) (DZ l λx z=>h x (by simp[z]))
def jN.take{C L:Type}{R:C->L->Prop}{z:List C}{bs}(h:jN R z bs):∀k:Nat,jN R (z.take k) (bs.take k):=by
 induction h with
 |nil=>intro k;cases k<;>exact .nil
 |cons r _ H=>
  intro k;cases k with
  |zero=>exact .nil
  |succ k=>exact .cons r (H k)
def SV(n:J)(t:Ev):LC:=[n,t,[],kN,B]
def VJ{n:J}{t:Ev}(F:Mi (.cov n))(L:Mi (.when t)):TN (SV n t):=by
 let C:=cA F (cd:=g t) (cl:=[]) (wt:=B) (zAy _);exact[F,L,[zAy _,λx z=>nomatch z],JZ,C.hs.2,C.gw]
def WH{A:List J}{S C N:J}{U:List LC}{t:Ev}(Q:A=#[S,C,N])(p:U.map (·.nm)=A)(X:∀d∈U,TN d)(H:GO A)(j:Mi (.when t)):kL A ((U.take 2).flatMap Ek++Ol N t)/\∃ds,Lo [] ((U.take 2).flatMap Ek++Ol N t) ds/\ds.map Dr.lc=U.take 2++#[SV N t]:=by
 obtain⟨F,P,R,rfl⟩:∃F P R,U=#[F,P,R]:=by
  let:=nI oJ p;rw[zAb,Q]at this
  match U,this with
  |#[a,b,c],_=>exact[a,b,c,I]
 let L:#[F.nm,P.nm,R.nm]=#[S,C,N]:=by rw[<- Q];exact p
 injection L with e0 L;injection L with e1 L;injection L with e2 _;let E:#[S,C,N].Nodup:=by rw[<- Q];exact H.nd
 let r:#[S,C].Nodup/\N∉#[S,C]:=by
  simp at E⊢;refine[E.1.1,?_,?_]
  .intro z;exact E.1.2 z.symm
  .intro z;exact E.2 z.symm
 let[ds,f,W]:=EW #[F,P] _ (λd s=>X d (zAW (i:=2) s)) (DZ #[F,P] λd x=>Q2) [] (by show 0+2<=8;decide) (by rw[zBr,rT];show #[F.nm,P.nm].Nodup;rw[e0,e1];exact r.1);rw[AB]at f;rw[zBr,rT]at W;let u:ds.length=2:=by let:=nI oJ W;rw[zAb]at this;exact this
 let o:ds.map (·.nm)=#[S,C]:=by
  let h:(ds.map Dr.lc).map (·.nm)=#[S,C]:=by rw[W];show #[F.nm,P.nm]=_;rw[e0,e1]
  rw[zBw]at h;exact h
 let k:Mi (.cov N):=by rw[<- e2];exact(X R zZ).nm
 let l:N∉ds.map (·.nm):=by rw[o];exact r.2
 let K:=f.glue (YA k Z l j);let v:=Kk (X F zZ).cl.1;let w:=Kk (X P zZ).cl.1;let q:(#[F,P,R].take 2).flatMap Ek=Ek F++Ek P:=by show #[F,P].flatMap Ek=_;simp
 refine[[[_,ds,N,t,I,f,u,by rw[o,Q];rfl,k,l,j],[S,_,by rw[q,Vi F,e0];rfl,by rw[Q];rfl],?_,H.xx],_,K,?_]
 .rw[q,zAc,zAc]
  show _+_+4<=30
  lia
 .rw[zAf,W]
  rfl
def GQ(rs:List Bn):(rs.map Bh).all Hr=B:=by
 rw[rM];exact zBE.mpr λx x=>I
def RN:O "share acme 2 beta 3"=(Bn.shr kN).row:=by ac_nf
def RV:O "waits"=Bn.wts.row:=by ac_nf
def XG{K:zAa}{H:Hp}{a b:lU}{x z:J}{xs:List V}(F:H a=g (.tup xs))(L:H b=g (.dK [])){k:Int}(S:0<=k)(C:k<=6):∃v T,Ob #[.non,.int 5,.str x,.ref a,.ref b,.bl B,.str z] k=g v/\Cy K H v (.type T)/\T ≠ "list":=by
 let:k=0\/k=1\/k=2\/k=3\/k=4\/k=5\/k=6:=by lia
 rcases this with rfl|rfl|rfl|rfl|rfl|rfl|rfl
 .exact[_,_,I,.non,Y]
 .exact[_,_,I,.int _,Y]
 .exact[_,_,I,.str _,Y]
 .exact[_,_,I,.tup F,Y]
 .exact[_,_,I,.dK L,Y]
 .exact[_,_,I,.bl _,Y]
 .exact[_,_,I,.str _,Y]
inductive LQ(K:zAa)(vs:List V)(H:Hp)(Q:VK):Prop
 |mk (a:T) (ns:List Int) (z0:vs=#[.ref a]) (z1:Al K H a (ns.map V.int)) (z2:ns.length<=63) (z3:∀H',Q (.bl B) H'):LQ K vs H Q
def DO(K:zAa):Sp:=λC H Q x=>LQ K C H Q
section
seal L2.PS L2.PSs L2.PE L2.PA
variable {P:mF} {w:mR} {K:zAa} {mg:J->Option lV} {base:mX}
def WI:Cb #["_law_script","_law_unit_here","_law_world_here","_law_covers_here","_law_words","_law_when","_law_rows_here","_law_k","_law_way","_law_spoilt_here","_law_at","_law_bad","_law_more","_law_place","_law_extra","_law_kept","_law_things"] #["_law_script"] (Av NQ):=by injections
def WD(L:Pm P w K mg base){f:T}{fd:zCA}(F:Fw K "law" "law" NQ f fd) :
  Ar P w K mg base Jv 204 f fd #["_law_script"] (DO K):=by
 let sc:=WI;bv_omega
 .let[_,_,rfl,_]:=h
  rfl
 let[a,ns,rfl,ha,a4,q]:=h;let f4:=BP hr;refine[_,(Ab (Fk sc 1 (Gg (X8 L) hr (Cf (pv 0))))
   (Ab (Fk sc 2 (Gg (Q8 L) hr (Cf (pv 0))))
   (Ab (Fk sc 3 (Gg (K8 L) hr (Aw (pv 0) (Aw Ah (Aw (Cr By (pv 2) Ah (λ_ _=>I)) (Aw (Cr By (pv 2) Ah (λ_ _=>I)) (Aw (Cr By (pv 2) Ah (λ_ _=>I)) (Dy (pv 1) (Cr By (pv 2) Ah (λ_ _=>I))))))))))
   (Ab (Fk sc 4 (Nm (K:=K) I mY nP nO (Nh (K:=K) I) Aj (Cf (Au AQ (Ca (Cf Aj)) Ah))))
   (Ab (Fk sc 4 (Au Bm (Au Bm (Au Bm (Au Bm (pv 4) Aj) (pv 4)) Aj) (Nm (K:=K) I mY nP nO (Nh (K:=K) I) Aj (Cf (Au Ef (Au AQ (Ca (Cf Aj)) Ah) (Ca (Cf Aj)))))))
   (Ab (Fk sc 5 (Cr By (Ca (Aw Aj (Dy (Au Bm (Au Bm Aj (Au Iq Aj Ah)) Aj) (Au Bm Aj (pv 4))))) (Au Dk (Gg (Gi L) hr (Dy (pv 0) Ah)) Ah) (λ_ _=>I)))
   (Ab (Fk sc 6 (Au Ef (Gg (Y1 L) hr (Cf (Js Lf (pv 3) Lg (Le Ah)))) (Ca (Aw (Au Bm Aj (Cr By (Cr By (pv 2) Ah (λ_ _=>I)) Ah (λ_ _=>I))) (Aw Aj (Dy (pv 5) Aj))))))
   (Ab (Gc nK I (Gb I (L.z.nn L.ay) (Cf Ah)) (Ot sc 7)
    (Ab (Fk sc 8 (Au Dk (Gg (Gj L) hr (Cf (Gg (Gi L) hr (Dy (pv 0) (Au Ea Ah (Au Jq Ah (pv 7))))))) Ah))
   (Ab (Xm (Gg (J2 L) hr (Aw (pv 6) (Aw (Cr By (pv 2) Ah (λ_ _=>I)) (Dy (pv 8) (Gg (Gj L) hr (Cf (Gg (Gi L) hr (Dy (pv 0) (Au Ea Ah (Au Jq Ah (pv 7))))))))))) (Oc (n:=2) I (Dw (Ot sc 9) (Dw (Ot sc 10) Km))))
   (Ab (Fk sc 11 (Gg (Pi L) hr (Cf (Cr By (pv 2) Ah (λ_ _=>I)))))
   (Ab (Fk sc 12 (Gg (Gj L) hr (Cf (Gg (Gi L) hr (Dy (pv 0) (Au Ea Ah (pv 7)))))))
   (Ab (Ce (Ax Dv (Au Dk (pv 12) Ah) Ah (Bf _))
    (Ab (Fk sc 13 (Au Ea Ah (Au Dk (Au Dt (pv 12) Ah) (Ix Bg L.z L.ag (Cf (pv 9))))))
   (Ab (Fk sc 14 (Ca (Cf (Cr By (pv 11) (Au Dk (Au Dt (pv 12) Ah) (Ix Bg L.z L.ag (Cf (pv 11)))) (λ_ _=>I)))))
   (Ab (Fk sc 9 (Au Ef (Au Ef (Js Lf (pv 9) Lg (Le (pv 13))) (pv 14)) (Js Lf (pv 9) (Le (pv 13)) Lg)))
   (Ac (Fk sc 10 (Ix (GT I) L.z L.rq (Dy (pv 10) (pv 13))))))))
    Be)
   (Ab (Fk sc 15 (Dq Fm I (L.z.nn L.az) (show zCz _=g (.type "list") from rfl) (Cf (pv 9))))
   (Ac (Ce (PW.pt (Jg (Ax Sl (Gg (Qz L) hr (Cf (pv 9))) (pv 10) (Bf _)) (Gv (Ax (X0 (K:=K) f4) (pv 9) (pv 15) (Bf _)))))
    (Ac (Ay Hw))
    Be)))))))))
   (Ab (Fk sc 16 (Ca (Aw Kf (Aw Ah (Aw Aj (Aw (Du (Cf Aj)) (Aw HS (Dy Hw (Cr By (pv 6) Ah (λ_ _=>I))))))))))
   (Ab (Ce (Ax Sl (Gg (Qz L) hr (Cf (Cr By (pv 16) (Au Dk (Gg (Gi L) hr (Dy (pv 0) Ah)) Ah) (λ_ _=>I)))) Ah (Bf _))
    (Ac (Ay Hw))
    Be)
   (Ac (Ay (Nr Ng (pv 5) (Gg (X2 L) hr (Cf (Gg (AC L) hr (Cf (Dq Fm I (L.z.nn L.az) (show zCz _=g (.type "list") from rfl) (Cf (pv 6))))))) I))))))))))))),?_]
 refine Je λN W=>?_;let b4:1<=sizeLine:=by rw[zCy];decide
 let d5:3<=sizeLine:=by rw[zCy];decide
 let d8:4<=sizeLine:=by rw[zCy];decide
 let c6:7<=sizeLine:=by rw[zCy];decide
 refine[_,I,a,ns,I,ha,a4,λu H1 s1 uo=>?_];refine W9 W #[g (.ref a),g (.int u),M,M,M,M,M,M,M,M,M,M,M,M,M,M,M] rfl λN W=>?_;refine[_,I,a,ns,I,s1.seq ha,a4,λw0 ra rb rc rd rp Bs Cs Ds PL H2 s2 a8 hB hC hD hP okB e3 kM lB lC lD d6=>?_];let d0:=s1.trans s2;refine W9 W #[g (.ref a),g (.int u),g (.ref w0),M,M,M,M,M,M,M,M,M,M,M,M,M,M] rfl λN W=>?_;refine[_,I,_,I,w0,_,_,_,I,I,Al.of a8,I,_,I,w0,_,_,_,I,I,Al.of a8,I,_,I,w0,_,_,_,I,I,Al.of a8,I,_,I,_,I,w0,_,_,_,I,I,Al.of a8,I,a,ns,rd,rb,rc,rp,u,Ds,Bs,Cs,PL,[],(λ_ z=>nomatch z),I,d0.seq ha,a4,uo,hD,hB,hC,hP,okB,e3,kM,lB,lC,lD,d6,λr X ls H4 s4 f7 al en okl=>?_];let g6:ls.length=3:=by rw[<- lD,<- en,zAb]
 let j3:X.length=3:=by rw[al.len,g6]
 let f6:jN (kH H4) X ls:=al.imp λv d h=>h.same (Ap.sub _ _);refine W9 W #[g (.ref a),g (.int u),g (.ref w0),g (.ref r),M,M,M,M,M,M,M,M,M,M,M,M,M] rfl λN W=>?_;refine[I,b4,λm1 n1=>?_];let t1:Ae H4 (upd H4 m1 (.lst #[.str (O "cause barn")])):=Ad n1 _;refine[m1,_,_,I,I,Aa,Y,Y,by rw[zCy];decide,λm2 n2=>?_];let t2:Ae H4 (upd (upd H4 m1 (.lst #[.str (O "cause barn")])) m2 (.lst ((zAe 8 (O "cause barn")).map V.str))):=t1.trans (Ad n2 _);refine[_,m2,zAe 8 (O "cause barn"),I,I,.inl (Al.of Aa),Y,Y,G,λy hy=>by rw[zAK hy];decide +kernel,?_];refine Pc #[g (.ref a),g (.int u),g (.ref w0),g (.ref r),g (.str lG),M,M,M,M,M,M,M,M,M,M,M,M] (upd (upd H4 m1 (.lst #[.str (O "cause barn")])) m2 (.lst ((zAe 8 (O "cause barn")).map V.str))) I I ?_;generalize upd (upd H4 m1 (.lst #[.str (O "cause barn")])) m2 (.lst ((zAe 8 (O "cause barn")).map V.str))=H5 at t2;let b1:=OV;let b3:=OK;let e4:(O " or ").length=4:=by ac_nf
 first|refine Fn W λN W=>?_|subst W
 refine[_,I,_,_,I,I,by rw[e4,zCy];lia,_,I,_,_,I,I,by rw[Do,e4,zCy];lia,_,_,I,I,by rw[Do,Do,e4,zCy];lia,?_];refine[I,b4,λm3 n3=>[m3,_,_,I,I,Aa,Y,Y,by rw[zCy];decide,λm4 n4=>[b4,λm5 n5=>?_]]];let t3:Ae H5 (upd (upd H5 m3 (.lst #[.str (O "thing hail")])) m4 (.lst #[.str (O "thing hail"),.str (O "thing hail"),.str (O "thing hail")])):=(Ad n3 _).trans (Ad n4 _);let t5:=Ad n5 (.lst #[.str (O "not cause hail")]);refine[m4,m5,_,_,I,I,t5 _ _ Aa,Aa,by rw[zCy];decide,λm6 n6=>?_];let t6:Ae H5 (upd (upd (upd (upd H5 m3 (.lst #[.str (O "thing hail")])) m4 (.lst #[.str (O "thing hail"),.str (O "thing hail"),.str (O "thing hail")])) m5 (.lst #[.str (O "not cause hail")])) m6 (.lst #[.str (O "thing hail"),.str (O "thing hail"),.str (O "thing hail"),.str (O "not cause hail")])):=t3.trans (t5.trans (Ad n6 _));refine[_,m6,#[O "thing hail",O "thing hail",O "thing hail",O "not cause hail"],I,I,.inl (Al.of Aa),Y,Y,G,G,?_];refine[_,_,I,I,by show(lG++O " or "++lG++O " or ").length+lM.length<=_;rw[Do,Do,Do,e4,zCy];lia,?_];refine Pc #[g (.ref a),g (.int u),g (.ref w0),g (.ref r),g (.str kA),M,M,M,M,M,M,M,M,M,M,M,M] (upd (upd (upd (upd H5 m3 (.lst #[.str (O "thing hail")])) m4 (.lst #[.str (O "thing hail"),.str (O "thing hail"),.str (O "thing hail")])) m5 (.lst #[.str (O "not cause hail")])) m6 (.lst #[.str (O "thing hail"),.str (O "thing hail"),.str (O "thing hail"),.str (O "not cause hail")])) I I ?_
 refine Fn W λN W=>?_;let b5:=t2.trans t6;generalize upd (upd (upd (upd H5 m3 (.lst #[.str (O "thing hail")])) m4 (.lst #[.str (O "thing hail"),.str (O "thing hail"),.str (O "thing hail")])) m5 (.lst #[.str (O "not cause hail")])) m6 (.lst #[.str (O "thing hail"),.str (O "thing hail"),.str (O "thing hail"),.str (O "not cause hail")])=H6 at b5;let bx:kA.length<=700:=by unfold kA;rw[Do,Do,Do,Do,e4];lia
 let e5:(O "when ").length=5:=by ac_nf
 let f9:=d0.trans (s4.trans b5);let g7:=md (a:=ns.getD ((14:Int).toNat) 0) (b:=3) Y;obtain⟨tw,d9,f3,ew⟩:∃tw,Mi (.when tw)/\Pf tw=lX/\Ob #[V.str (O "when over 0.05"),.str (O "when "++tx (zAe (6:Int).toNat (O "not ").cps.toList).flatten++O "always"),.str (O "when "++kA)] (ns.getD ((14:Int).toNat) 0%3)=g (Bh (.when tw)):=by
  rw[RA,RU,QL];generalize ns.getD ((14:Int).toNat) 0%3=k at g7;let:k=0\/k=1\/k=2:=by lia
  rcases this with rfl|rfl|rfl
  .exact[cV,WG,I,I]
  .exact[cU,WO,I,I]
  .exact[YM,UX,I,I]
 refine[(O "not ").cps.toList,6,(nI V.str (Hq _)).symm,I,Y,Y,G,_,_,I,I,Ck G,_,_,I,I,Ck G,_,I,_,_,I,I,by rw[e5,zCy];lia,d5,λm7 n7=>?_];refine[_,I,a,ns,14,I,(f9.trans (Ad n7 _)).seq ha,Y,a4,_,_,I,I,(by show(0:Int)<3;decide),m7,_,_,_,I,I,Al.of Aa,ew,?_];let t7:=Ad n7 (.lst #[V.str (O "when over 0.05"),.str (O "when "++tx (zAe (6:Int).toNat (O "not ").cps.toList).flatten++O "always"),.str (O "when "++kA)]);refine Pc #[g (.ref a),g (.int u),g (.ref w0),g (.ref r),g (.str kA),g (Bh (.when tw)),M,M,M,M,M,M,M,M,M,M,M] (upd H6 m7 (.lst #[V.str (O "when over 0.05"),.str (O "when "++tx (zAe (6:Int).toNat (O "not ").cps.toList).flatten++O "always"),.str (O "when "++kA)])) I I ?_
 first|refine Fn W λN W=>?_|refine Je λN W=>?_|skip
 let b7:=b5.trans t7;generalize upd H6 m7 (.lst #[V.str (O "when over 0.05"),.str (O "when "++tx (zAe (6:Int).toNat (O "not ").cps.toList).flatten++O "always"),.str (O "when "++kA)])=H7 at b7;clear b5 ew f9 t7;obtain⟨n0,j6,a1,eD⟩:∃n0 n1 n2,Ds=#[n0,n1,n2]:=by
  match Ds,lD with
  |#[a,b,c],_=>exact[a,b,c,I]
 let[C,h3,e8,h2]:=WH eD en (λd hd=>(okl d hd).ok) kM d9;refine[_,I,_,I,r,_,I,Al.of (b7 _ _ f7),λm8 n8=>?_];let ec:Qs X M (g 2)=X.take 2:=Qj X (k:=2) Z;rw[ec];let t8:=b7.trans (Ad n8 (.lst (X.take 2)));refine[m8,X.take 2,ls.take 2,I,Aa,(f6.imp λv d h=>h.same t8).take 2,by rw[zAq];lia,λd hd=>okl d (zAW hd),λl9 H9 s9 j4 f2=>?_];let t9:=t8.trans s9;let c1:=s4.trans t9;let c5:=c1 _ _ a8;let c9:=c1 _ _ hD;let i8:a1.length<=8:=(kM.ok a1 (by rw[eD];simp)).2.1;let e6:(O "cover ").length=6:=by ac_nf
 let i3:Ob (Ds.map V.str) (2:Int)=g (.str a1):=by rw[eD];rfl
 refine[_,I,w0,_,_,_,I,I,Al.of c5,I,rd,_,_,_,I,I,Al.of c9,i3,_,_,I,I,by rw[e6,zCy];lia,_,I,d8,λm9 i4=>?_];rw[Ss,RN,RV];let c3:Ae H9 (upd H9 m9 (.lst ((Ol a1 tw).map Bh))):=Ad i4 _;let lA:((ls.take 2).flatMap Ek++Ol a1 tw).length<=30:=C.ln;refine[l9,m9,_,_,I,I,c3 _ _ f2,Aa,by rw[zAc]at lA;rw[zAb,zCy];show _+4<=_;let h4:(Ol a1 tw).length=4:=I;lia,λm i0=>?_];generalize eT:(ls.take 2).flatMap Ek++Ol a1 tw=TT at C e8 lA;let er:((ls.take 2).flatMap Ek).map Bh++#[Bh (.cov a1),Bh (.shr kN),Bh (.when tw),Bh .wts]=TT.map Bh:=by rw[<- eT,zAf];rfl
 let c0:upd (upd H9 m9 (.lst ((Ol a1 tw).map Bh))) m (.lst (TT.map Bh)) m=g (.lst (TT.map Bh)):=Aa;let b8:Ae H9 (upd (upd H9 m9 (.lst ((Ol a1 tw).map Bh))) m (.lst (TT.map Bh))):=c3.trans (Ad i0 _);refine Pc #[g (.ref a),g (.int u),g (.ref w0),g (.ref r),g (.str kA),g (Bh (.when tw)),g (.ref m),M,M,M,M,M,M,M,M,M,M] (upd (upd H9 m9 (.lst ((Ol a1 tw).map Bh))) m (.lst (TT.map Bh))) I (by rw[<- er];rfl) ?_
 first|refine Fn W λN W=>?_|refine Je λN W=>?_|skip
 let a7:=d0.trans (c1.trans b8);let a9:=b8 _ _ c5;let b0:=b8 _ _ c9;generalize upd (upd H9 m9 (.lst ((Ol a1 tw).map Bh))) m (.lst (TT.map Bh))=h5 at c0 a7 a9 b0;clear er b8 c3 f2 c5 c9 c1 t9 s9 t8 ec b7 f6 al f7 hB hC hP hD a8;let c8:Ds[0]?=g n0:=by rw[eD];rfl
 let e1:∀z∈Ds,nameV (.str z)=B:=λz hz=>(kM.ok z hz).1;let c2:=e1 n0 (by rw[eD];simp);let i9:=Ga c2;let lb:(Nf n0).length=52:=rfl;refine[6,I,Y,Y,?_];refine Kj (lo:=0) (n:=6) (λi σ Hi=>(∃b9 a3 a6 a5 a2 a0 l S U,σ=#[g (.ref a),g (.int u),g (.ref w0),g (.ref r),g (.str kA),g (Bh (.when tw)),g (.ref m),b9,a3,a6,a5,a2,a0,l,S,U,M])/\Ae h5 Hi) [[M,M,M,M,M,M,M,M,M,I],Ae.refl _] ?_ ?_
 .rintro i σ Hi hi ⟨⟨b9,a3,a6,a5,a2,a0,l,S,U,rfl⟩,si⟩
  let f5:=(a7.trans si).seq ha;let h0:=si _ _ a9;let i1:=si _ _ b0;refine Je λN W=>?_;refine[_,I,_,I,_,_,I,I,.inl [Y,Y],_,_,I,I,a,ns,14+2*(0+(i:Int)),I,f5,Z,a4,_,I,λh9 _ _=>[_,_,I,I,(by show(0:Int)<22;decide),?_]];let mw:=md (a:=h9) (b:=22) Y;refine Ux 0 21 [Z,Z] λwy _ _=>?_;refine Ic #[g (.ref a),g (.int u),g (.ref w0),g (.ref r),g (.str kA),g (Bh (.when tw)),g (.ref m),g (.int (0+(i:Int))),g (.int wy),a6,a5,a2,a0,l,S,U,M] rfl ?_
  first|refine Fn W λN W=>?_|refine Je λN W=>?_|skip
  refine[_,I,_,I,w0,_,_,_,I,I,Al.of h0,I,_,I,_,I,_,I,_,_,I,I,.inl [Y,Y],_,_,I,I,a,ns,15+2*(0+(i:Int)),I,f5,Z,a4,_,I,λce g8 _=>?_];refine[m,rd,TT,Ds,wy,ce,n0,I,si _ _ c0,i1,C,c8,e1,g8,λt sp X j Hj sj ht g4 c7 h6=>?_];refine[t,_,I,Da.of ht,I,vC I (vC I [I,?_])];refine gL #[g (.ref a),g (.int u),g (.ref w0),g (.ref r),g (.str kA),g (Bh (.when tw)),g (.ref m),g (.int (0+(i:Int))),g (.int wy),g (.ref sp),g (.int (j:Int)),a2,a0,l,S,U,M] rfl ?_
  first|refine Fn W λN W=>?_|refine Je λN W=>?_|skip
  let d1:=si.trans sj;refine[_,I,w0,_,_,_,I,I,Al.of (d1 _ _ a9),I,rd,Ds,n0,I,d1 _ _ b0,c8,Z,λb Hb sb nb hb=>?_];refine Ic #[g (.ref a),g (.int u),g (.ref w0),g (.ref r),g (.str kA),g (Bh (.when tw)),g (.ref m),g (.int (0+(i:Int))),g (.int wy),g (.ref sp),g (.int (j:Int)),g (.ref b),a0,l,S,U,M] rfl ?_
  first|refine Fn W λN W=>?_|refine Je λN W=>?_|skip
  let e0:=d1.trans sb;refine[_,I,_,I,_,_,I,I,a,ns,26+(0+(i:Int)),I,(a7.trans e0).seq ha,Z,a4,_,I,λmo i7 _=>?_];refine Ic #[g (.ref a),g (.int u),g (.ref w0),g (.ref r),g (.str kA),g (Bh (.when tw)),g (.ref m),g (.int (0+(i:Int))),g (.int wy),g (.ref sp),g (.int (j:Int)),g (.ref b),g (.int mo),l,S,U,M] rfl ?_
  first|refine Fn W λN W=>?_|refine Je λN W=>?_|skip
  let b2:=sb _ _ g4;let d4:=c7.same sb;refine[_,I,_,_,I,I,(by show(0:Int)<2;decide),I,_,I,?_];refine SL (λσ H'=>∃sp X,∃j:Nat,∃l S,σ=#[g (.ref a),g (.int u),g (.ref w0),g (.ref r),g (.str kA),g (Bh (.when tw)),g (.ref m),g (.int (0+(i:Int))),g (.int wy),g (.ref sp),g (.int (j:Int)),g (.ref b),g (.int mo),l,S,U,M]/\Ae Hb H'/\H' sp=g (.lst X)/\kJ K H' n0 X j) (λ_ N R=>?_) (λ_ N R=>R _ _ [sp,X,j,l,S,I,Ae.refl _,b2,d4]) ?_
  .have j2:1<=X.length:=by
    let[rs,x,i6,ds,e,_]:=c7.ex;rw[e,zAc,zAd]
    lia
   refine Je λN W=>?_;refine[_,I,_,_,I,I,[Y,Y],_,I,sp,_,I,.inl (Al.of b2),_,_,I,I,(by show(0:Int)<(X.length:Int);lia),_,_,I,I,?_];let mm:=md (a:=mo/2) (b:=(X.length:Int)) Z;refine Ux 1 (X.length:Int) [Z,Z] λpz j1 j0=>?_;let[p,rfl]:=nJ (show 0<=pz by lia);let p1:1<=p:=by lia
   let pl:p<=X.length:=by lia
   refine Ic #[g (.ref a),g (.int u),g (.ref w0),g (.ref r),g (.str kA),g (Bh (.when tw)),g (.ref m),g (.int (0+(i:Int))),g (.int wy),g (.ref sp),g (.int (j:Int)),g (.ref b),g (.int mo),g (.int (p:Int)),S,U,M] rfl ?_
   first|refine Fn W λN W=>?_|refine Je λN W=>?_|skip
   let mk:=md (a:=mo/128) (b:=52) Y;let[k,ek]:=nJ mk.1;let kl:k<(Nf n0).length:=by rw[lb];lia
   let i5:Ob ((Nf n0).map V.str) (mo/128%((Nf n0).map V.str).length)=g (.str (Nf n0)[k]):=by
    rw[zAb,lb,show(((52:Nat):Int))=52 from rfl,ek];exact Gk (by rw[zAt,zAi kl];rfl)
   refine[_,I,_,I,_,_,I,I,[Y,Y],_,I,b,_,I,.inl (Al.of hb),_,_,I,I,(by show(0:Int)<(((Nf n0).map V.str).length:Int);rw[zAb,lb];decide),b,_,_,_,I,I,Al.of hb,i5,b4,λx2 n2=>?_];let xm:(Nf n0)[k]∈Nf n0:=zBp kl;generalize (Nf n0)[k]=x at xm;let t2:Ae Hb (upd Hb x2 (.lst #[.str x])):=Ad n2 _;let g2:upd Hb x2 (.lst #[.str x]) x2=g (.lst #[.str x]):=Aa;refine Pc #[g (.ref a),g (.int u),g (.ref w0),g (.ref r),g (.str kA),g (Bh (.when tw)),g (.ref m),g (.int (0+(i:Int))),g (.int wy),g (.ref sp),g (.int (j:Int)),g (.ref b),g (.int mo),g (.int (p:Int)),g (.ref x2),U,M] (upd Hb x2 (.lst #[.str x])) I I ?_
   first|refine Fn W λN W=>?_|refine Je λN W=>?_|skip
   generalize upd Hb x2 (.lst #[.str x])=Hc at t2 g2;refine[_,I,_,I,_,I,sp,_,I,Al.of (t2 _ _ b2),λx1 n1=>?_];rw[Qj _ pl];let t1:Ae Hc (upd Hc x1 (.lst (X.take p))):=Ad n1 _;refine[_,I,x1,x2,_,_,I,I,Aa,t1 _ _ g2,by rw[zAq,zCy];show _+1<=_;lia,λx3 n3=>?_];let t3:Ae Hc (upd (upd Hc x1 (.lst (X.take p))) x3 (.lst (X.take p++#[.str x]))):=t1.trans (Ad n3 _);let g3:upd (upd Hc x1 (.lst (X.take p))) x3 (.lst (X.take p++#[.str x])) x3=g (.lst (X.take p++#[.str x])):=Aa;generalize upd (upd Hc x1 (.lst (X.take p))) x3 (.lst (X.take p++#[.str x]))=Hd at t3 g3;refine[_,I,_,I,_,I,sp,_,I,Al.of (t3 _ _ (t2 _ _ b2)),λx4 n4=>?_];rw[Wt pl];let t4:Ae Hd (upd Hd x4 (.lst (X.drop p))):=Ad n4 _;refine[x3,x4,_,_,I,I,t4 _ _ g3,Aa,by rw[zAc,zAq,zBb,zCy];show _+1+_<=_;lia,λx5 n5=>?_];let t5:Ae Hd (upd (upd Hd x4 (.lst (X.drop p))) x5 (.lst (X.take p++#[.str x]++X.drop p))):=t4.trans (Ad n5 _);let g5:upd (upd Hd x4 (.lst (X.drop p))) x5 (.lst (X.take p++#[.str x]++X.drop p)) x5=g (.lst (X.take p++#[.str x]++X.drop p)):=Aa;refine Pc #[g (.ref a),g (.int u),g (.ref w0),g (.ref r),g (.str kA),g (Bh (.when tw)),g (.ref m),g (.int (0+(i:Int))),g (.int wy),g (.ref x5),g (.int (j:Int)),g (.ref b),g (.int mo),g (.int (p:Int)),g (.ref x2),U,M] (upd (upd Hd x4 (.lst (X.drop p))) x5 (.lst (X.take p++#[.str x]++X.drop p))) I I ?_
   first|refine Fn W λN W=>?_|subst W
   let tt:=t2.trans (t3.trans t5);generalize upd (upd Hd x4 (.lst (X.drop p))) x5 (.lst (X.take p++#[.str x]++X.drop p))=He at g5 tt;refine[_,I,_,I,_,_,I,?_];let em:(if (p:Int)<(j:Int) then(p:Int) else(j:Int))=((min j p:Nat):Int):=by
    by_cases c:(p:Int)<(j:Int)
    .rw[mS c,Nat.min_eq_right Z]
    .rw[mK c,zCm Z]
   rw[em];exact R _ _ [x5,_,min j p,_,_,I,tt,g5,(d4.same tt).ins p1 pl Z λds st=>EO st c2 x xm]
  clear b2 d4 c7 g4 ht h6;rintro σ Hf ⟨sp,X,j,l,S,rfl,sf,d2,e9⟩
  first|refine Fn W λN W=>?_|refine Je λN W=>?_|skip
  refine[_,I,sp,_,I,.inl (Al.of d2),λkp g9=>?_];let t1:Ae Hf (upd Hf kp (.lst X)):=Ad g9 _;let g1:upd Hf kp (.lst X) kp=g (.lst X):=Aa;refine Pc #[g (.ref a),g (.int u),g (.ref w0),g (.ref r),g (.str kA),g (Bh (.when tw)),g (.ref m),g (.int (0+(i:Int))),g (.int wy),g (.ref sp),g (.int (j:Int)),g (.ref b),g (.int mo),l,S,g (.ref kp),M] (upd Hf kp (.lst X)) I I ?_
  first|refine Fn W λN W=>?_|subst W
  generalize upd Hf kp (.lst X)=Hg at t1 g1;refine[_,I,.lst sp X n0 j I (t1 _ _ d2) (e9.same t1) λHh sh=>?_];refine[_,I,I,_,I,nF I ?_]
  first|refine Fn W λN W=>?_|subst W
  let t2:=t1.trans sh;let[Dd,rp,dp]:=EQ (e9.same t2).rp;let es:eqDs Dd Dd=B:=reps_self Dd rp;refine[_,I,_,I,lX,Dd,Dd,Oa (t2 _ _ d2) rp,Oa (sh _ _ g1) rp,Z,_,I,?_];show if (!eqDs Dd Dd)=B then _ else _;rw[es];exact Gr [[_,_,_,_,_,_,_,_,_,I],e0.trans (sf.trans t2)]
 rintro σ Hi ⟨⟨b9,a3,a6,a5,a2,a0,l,S,U,rfl⟩,si⟩;refine Fn W λN W=>?_;obtain⟨rt,i2⟩:∃rt,TT=.cov n0::rt:=by
  let[n',r',e,e']:=C.hd;obtain rfl:n'=n0:=mI (e'.symm.trans c8);exact[r',e]
 let g0:Ob (TT.map Bh) (0:Int)=g (Bh (.cov n0)):=Gk (j:=0) (by rw[i2];rfl);refine[b4,λy1 m1=>λy2 m2=>?_];let v1:Ae Hi (upd Hi y1 (.tup #[.str (O "cover a")])):=Ad m1 _;let v2:Ae (upd Hi y1 (.tup #[.str (O "cover a")])) (upd (upd Hi y1 (.tup #[.str (O "cover a")])) y2 (.dK [])):=Ad m2 _;let w1:=v2 _ _ (Aa (H:=Hi) (a:=y1) (o:=.tup #[.str (O "cover a")]));let w2:upd (upd Hi y1 (.tup #[.str (O "cover a")])) y2 (.dK []) y2=g (.dK []):=Aa;let e7:=si.trans (v1.trans v2);refine[_,I,m,_,_,_,I,I,Al.of (e7 _ _ c0),g0,c6,λy3 m3=>?_];let v3:=Ad m3 (.lst #[.non,.int 5,.str (O "cover a"),.ref y1,.ref y2,.bl B,Bh (.cov n0)]);let w3:=Aa (H:=upd (upd Hi y1 (.tup #[.str (O "cover a")])) y2 (.dK [])) (a:=y3) (o:=.lst #[.non,.int 5,.str (O "cover a"),.ref y1,.ref y2,.bl B,Bh (.cov n0)]);let f8:=v3 _ _ w1;let d7:=v3 _ _ w2;let c4:=e7.trans v3;refine Pc #[g (.ref a),g (.int u),g (.ref w0),g (.ref r),g (.str kA),g (Bh (.when tw)),g (.ref m),b9,a3,a6,a5,a2,a0,l,S,U,g (.ref y3)] (upd (upd (upd Hi y1 (.tup #[.str (O "cover a")])) y2 (.dK [])) y3 (.lst #[.non,.int 5,.str (O "cover a"),.ref y1,.ref y2,.bl B,Bh (.cov n0)])) I I ?_
 first|refine Fn W λN W=>?_|subst W
 generalize upd (upd (upd Hi y1 (.tup #[.str (O "cover a")])) y2 (.dK [])) y3 (.lst #[.non,.int 5,.str (O "cover a"),.ref y1,.ref y2,.bl B,Bh (.cov n0)])=Hj at w3 f8 d7 c4;let h1:=md (a:=ns.getD ((0:Int).toNat) 0) (b:=7) Y;let[v,T',ev,ty,nT]:=XG (K:=K) (x:=O "cover a") (z:=(Bn.cov n0).row) f8 d7 h1.1 Z;refine[_,I,_,I,a,ns,0,I,(a7.trans c4).seq ha,Y,a4,_,_,I,I,(by show(0:Int)<7;decide),y3,_,_,_,I,I,Al.of w3,ev,?_];refine .no v T' I ty nT λHk sk=>[I,_,I,nF I ?_]
 first|refine Fn W λN W=>?_|subst W
 let h8:=c4.trans sk;refine[_,I,_,I,m,_,I,.inl (Al.of (h8 _ _ c0)),λy4 m4=>?_];refine[y4,TT,h3,I,Aa,Z,e8,λbk Hl sl bo=>?_];rw[h2]at bo;let e2:∀d∈ls.take 2++#[SV a1 tw],TN d:=λd hd=>by
  rcases zAE.mp hd with hd|hd
  .exact(okl d (zAW hd)).ok
  .rw[zAp.mp hd]
   let mD:=kM.ok a1 (by rw[eD];simp);exact VJ [mD.1,mD.2.2] d9
 refine[bk,_,I,bo,by rw[zAc,zAq];show _+1<=8;lia,e2,λll Hm sm j5 h7=>?_];refine[ll,_,I,.inl (Al.of h7),I,GQ _,?_];let Lv:Wb (Bh (.when tw)) (((ls.take 2++#[SV a1 tw]).flatMap Ek).map Bh)=B:=by
  let e:((ls.take 2++#[SV a1 tw]).flatMap Ek).map Bh=(((ls.take 2++#[SV a1 tw]).flatMap Ek).map Bn.row).map V.str:=by rw[zBw];rfl
  rw[e];refine kI.mpr (zAv.mpr [.when tw,?_,I]);rw[zCh];refine zAP _ ?_;rw[zCt,List.flatMap_nil,zAA];unfold Ek SV;rw[mK (by rw[f3];decide)];simp
 show Q (.bl (Wb (Bh (.when tw)) (((ls.take 2++#[SV a1 tw]).flatMap Ek).map Bh))) Hm;rw[Lv];exact q _
end
def all_mk{l:uA}{w:mR}{K:zAa}{h:mX}{P:J->Option lV}{F:T}(X:K.In h)(C:h.Ns zCB P)(z:P "law"=g (.ref F))(k:Pk K) :
  ∃Q:zCA,(∀(s:lZ) (v:lV),vD s Q [#[v],[]] #[("_law_script",v)])/\∀N:mX,K.In N->N.Ns zCB P->Ar l.prog w K P N Jv 204 F Q #["_law_script"] (DO K):=by
 let[_,d]:=k.rn;let e:=z.symm.trans (y6 X C d.ns);cases e;let[_,_,_,_,_,_,_,_,_,H,L]:=d.ex;exact[_,λs v=>.of_eq I,λN x x=>WD [k,[y6 X C,PySem.W.mg_none_of X C]] (F1 H L d.kp)]
def walk{l:uA}{q:mF}{L:List J}{A:(J->Option lV)->mX->Prop}{S:mR->mX->Prop}{d:DefRec}{K:Params->zAa}(W:l.most=g 63)(N:d.params.defaults=[])
  (C:∀(w:mR) (h:mX),S w h->(K w.params).In h)
  (F:∀(w:mR) (Q:J->Option lV) (U:T) (h:mX),(K w.params).In h->h.Ns zCB Q->Q d.name=g (.ref U) ->
   ∃R:zCA,(∀(s:lZ) (u:lV),vD s R [#[u],[]] #[("_law_script",u)])/\∀P:mX,(K w.params).In P->P.Ns zCB Q->Ar l.prog w (K w.params) Q P Jv 204 U R #["_law_script"] (DO (K w.params))) :
  y8 q L A S l.row.toRowW d [] (λf vs=>xW f vs):=
 L2.walk_of (n:=63) (k:=204) (x:="_law_script") (CX:=λy=>Jv) (sp:=λw=>DO (K w.params)) W Y N [I,Y,Y] C F (λy y a H X y E=>[a,H,I,E,X,λy=>I]) λy y y y y z=>z
end CRL
end
open PySem PySem.W PyProof.Rows
set_option tactic.hygienic true in
set_option maxRecDepth 100000 in
set_option maxHeartbeats 0 in
theorem PySem.Challenge.cw_coverroll_k92_no_texts_holds : PySem.Challenge.rw_coverroll_k92_no_texts.Holds := by
 refine Zhd ?_
 k_fill
 refine CRL.walk (l:=PySem.Challenge.rw_coverroll_k92_no_texts) rfl rfl (λw h (Y:_/\_)=>Y.1) ?F
 case F=>
  intro w mg fa h KX G hmg;exact CRL.all_mk KX G hmg (by
   constructor <;> first
    |(show _=_;k_is)
    |(show _=_;kit_is)
    |(show _=_;kts_exm)
    |(show _=_;k_exc)
    |(constructor <;> k_is)
    |(constructor;apply L2.DfIn.of <;> k_is)
    |(constructor;constructor;(show _=_;k_is);apply L2.MtIn.of <;> k_is)
    |(apply L2.NT4.of <;> k_is)
    |(apply L2.MtD.of <;> k_is)
    |(apply L2.XSet.of <;> first|k_is|kernel_rfl)
    |(apply L2.BsE.of <;> first|k_is|(apply L2.MtIn.of <;> k_is))
    | (apply L2.EmE.of <;> first | k_is | kernel_rfl | (apply L2.MtIn.of <;> k_is)))
