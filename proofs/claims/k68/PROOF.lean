import PyProof.Rows.All
import KE.KDictOf
import KE.KFromBytes
import KE.KIntText
import KE.KLam
import KE.KNestM
import KE.KPairRows
import KE.KRevIter
import KE.KRevSl
import KE.KSortTup
import KE.KTryMore
import KE.RegKIsAll
import KE.RegKTryMore
import Wide.FinOn
import Lean
import KE.KDictList
import PySem.Challenge.RW_coverroll_k68_refused_rows
set_option Elab.async false
set_option linter.all false
set_option compiler.extract_closed false
set_option maxRecDepth 100000
set_option maxHeartbeats 4000000
namespace PySem.W.Fast
def tw5098051335594100815:=Nat
def tw4584809846849024526:=Nat
section
local macro_rules|`(#check $f $x*)=>Lean.MonadRef.withRef .missing do
 let mut r:=#[]
 let v:=x.map λy=>y.raw.isNatLit?.getD 0
 for k in [:v.size/2] do for j in [v[2*k]!:v[2*k+1]!] do
  let i:=Lean.mkIdent (.mkSimple s!"tw{(Lean.Name.str `Zhd (f.raw.getId.toString++toString j)).hash}")
  r:=r.push (←`(command|def $i:ident:=Nat))
 return Lean.mkNullNode r
#check env_ 41 42
#check heap_ 39 40 46 47 1135 1136
#check o_ 43 44 45 47 49 50 51 52 53 62 63 66 67 73 74 80 81 87 88 101 102 106 107 110 111 117 118 124 125 131 132 143 144 148 149 161 162 170 171 176 177 185 186 191 192 200 201 206 207 215 216 221 222 230 231 236 237 240 241 252 253 258 259 262 263 274 275 280 281 289 290 296 297 303 304 305 306 312 313 319 320 326 327 333 334 340 341 347 348 355 356 362 363 367 368 371 372 378 379 385 386 392 393 406 407 412 413 416 417 423 424 430 431 442 443 447 448 454 455 456 457 463 464 470 471 475 476 480 481 487 488 492 493 497 498 502 503 509 510 516 517 523 524 530 531 532 533 539 540 546 547 553 554 558 559 563 564 570 571 577 578 584 585 589 590 594 595 599 600 603 604 610 611 617 618 622 623 634 635 641 642 643 644 650 651 657 658 662 663 667 668 672 673 679 680 684 685 689 690 696 697 710 711 712 713 717 718 724 725 731 732 736 737 743 744 750 751 755 756 759 760 766 767 773 774 780 781 787 788 794 795 801 802 806 807 813 814 820 821 827 828 834 835 842 843 849 850 856 857 863 864 876 877 881 882 885 886 892 893 899 900 906 907 913 914 920 921 927 928 932 933 939 940 946 947 953 954 958 961 962 963 967 968 971 972 976 977 990 991 995 996 999 1000 1006 1007 1013 1014 1020 1021 1034 1035 1041 1042 1048 1049 1050 1051 1057 1058 1064 1065 1071 1072 1078 1079 1085 1086 1092 1093 1099 1100 1106 1107 1113 1114 1120 1121 1127 1128 1129 1130 1135
#check sts_ 49 50 100 101 142 143 169 170 184 185 199 200 214 215 229 230 251 252 273 274 302 303 361 362 405 406 453 454 529 530 593 594 640 641 656 657 709 710 749 750 961 962 989 990 1047 1048 1126 1127
#check tree_ 47 48 99 100 141 142 168 169 183 184 198 199 213 214 228 229 250 251 272 273 301 302 360 361 404 405 452 453 528 529 592 593 639 640 655 656 708 709 748 749 875 876 957 958 988 989 1046 1047 1125 1126 1134 1135
#check view_ 39 40
end
end PySem.W.Fast
namespace PySem.W
def zpl (o : Obj) : Option Obj := Heap.get? ⟨#[o], default⟩ 0
def zpk : List Nat → Nat → List Obj → List (Option Obj)
  | [], _, _ => []
  | a :: as, i, l => match Nat.ble i a, l.drop (a - i) with
    | true, o :: m => zpl o :: zpk as (a + 1) m
    | _, _ => [none]
theorem zpf {f : Nat → Option Obj} : ∀ {as : List Nat} {i : Nat} {l vs : List Obj}, (∀ j, f (i + j) = l[j]?.bind zpl) → zpk as i l = vs.map some → as.map f = vs.map some
  | [], _, _, _, _, e => e
  | a :: as, i, l, vs, h, e => by
    rw [zpk] at e
    split at e
    · rename_i o m h1 h2
      have h1 : i ≤ a := Nat.le_of_ble_eq_true h1
      have hl : ∀ j, l[a - i + j]? = (o :: m)[j]? := fun j => by rw [← h2, List.getElem?_drop]
      cases vs with
      | nil => cases e
      | cons v vs =>
        rw [List.map_cons] at e ⊢
        injection e with e1 e2
        have fa : f a = zpl o := by
          have := h (a - i)
          rw [Nat.add_sub_cancel' h1] at this
          rw [this]
          exact congrArg (·.bind zpl) (hl 0)
        rw [List.map_cons, fa, e1, zpf (fun j => ?_) e2]
        have := h (a - i + (1 + j))
        rw [show i + (a - i + (1 + j)) = a + 1 + j by omega] at this
        rw [this, hl, Nat.add_comm 1 j]
        rfl
    · cases vs with
      | nil => cases e
      | cons v vs => cases e
def zpH (K : Params → Frag) (as : List Addr) (e : ∀ P, as = (K P).map (·.1)) (ts : List Addr) (_ : 0 = 0) : Hook :=
  ⟨_, fun s => (zpk as 0 s.heap.objs.toList, ts.map s.heap.get?), (kmHook K as e ts).val, (kmHook K as e ts).says, fun w s x => (kmHook K as e ts).of w s (by
    have y : zpk as 0 s.heap.objs.toList = (K w.params).map fun p => some p.2 := congrArg Prod.fst x
    have v : ts.map s.heap.get? = ((kmHook K as e ts).val w).2 := congrArg Prod.snd x
    refine Prod.ext ?_ v
    show as.map s.heap.get? = (K w.params).map fun p => some p.2
    rw [← Function.comp_def some, ← List.map_map] at y ⊢
    exact zpf (fun j => by rw [Nat.zero_add, Array.getElem?_toList]; unfold Heap.get?; cases s.heap.objs[j]? <;> rfl) y), (kmHook K as e ts).keeps⟩
end PySem.W
local macro_rules | `(tactic| o_head ($_ $k $a $e $t)) => `(tactic| o_head (PySem.W.zpH $k $a $e $t rfl))
local macro_rules | `(tactic| o_head ($_ $k $a $e)) => `(tactic| o_head (PySem.W.zpH $k $a $e [] rfl))
set_option maxHeartbeats 0 in
open_top Zhd for PySem.Challenge.rw_coverroll_k68_refused_rows
set_option tactic.hygienic false
local macro_rules|`(tactic|ac_nf)=>`(tactic|decide +kernel)
local macro_rules|`(tactic|injections)=>`(tactic|exact ⟨rfl,rfl,rfl,by decide +kernel,rfl,by decide +kernel,by decide +kernel⟩)
set_option hygiene false in
local macro_rules|`(tactic|bv_omega)=>`(tactic|refine F.ok sc (λvs H Q E h=>?_) (λcdv A outer s H vs Q E hr h=>?_))
open PySem.W renaming Frag -> a', nsIn -> gn, kitOne -> hY, findIn -> ia, keepIn -> js, fnOf -> i', emptyDict -> nL, codeIn -> nN, instObj -> om, kia_one -> o_, callWith_K -> pi, exmOne -> pa, methodCall_KW -> tj, looks_findIn -> s_, isFn -> pu, hasDictIn -> u5, clsIn -> rc, specialIn -> vl, InstAt -> ti, cellsFrom_some -> wR, plainGet -> wm, Looks -> q3, excIn -> vb, takerIn -> vq, makesIn -> vo, notCls -> wn
open PySem.Heap renaming get?_push_of_some -> dv, lt_size -> dn, get?_push_size -> h_, get?_update_other -> n_, get?_update_self -> p_, SameBut -> i_, get?_none_of_le -> sD, size_push -> rz, get?_update_ne -> wx, update_setField_same -> wV
open List renaming length_map -> cn, length_cons -> c_, mem_cons_of_mem -> e_, mem_singleton -> d_, size_toArray -> dw, mem_cons -> cr, mem_cons_self -> fk, length_append -> fy, getElem?_eq_getElem -> hD, getElem?_eq_some_iff -> hI, mem_append -> gw, length_take -> hQ, getD_eq_getElem?_getD -> l_, mem_map -> g_, getElem?_map -> jk, mem_of_getElem? -> kS, map_append -> iN, not_mem_nil -> j_, take_length -> j', map_cons -> iw, mem_append_right -> mu, length_filter_le -> ni, append_nil -> lq, nodup_cons -> lj, replicate -> kq, length_singleton -> o5, pairwise_cons -> o0, range -> kw, mem_filter -> nw, getElem_of_mem -> pb, pairwise_iff_getElem -> s0, filter_cons_of_pos -> vm, filter_nil -> q_, length_drop -> rx, length_replicate -> vh, find?_cons -> r_, length_range -> u4, lookup_cons -> u_, take_of_length_le -> vw, filter_append -> vf, append_assoc -> vj, mem_append_left -> vv, drop_eq_getElem_cons -> wP, lookup -> q5, map_map -> rb, getElem_mem -> vk, length_erase_of_mem -> wz, filterMap_cons -> vp, replicate_succ -> wc, filter_cons_of_neg -> wT, length_pos_of_mem -> wo, flatten_cons -> wh, pairwise_map -> vy, nodup_nil -> vi, getElem?_toArray -> wy, mem_erase_of_ne -> wu, drop_length -> wg, getElem?_append_right -> wU, nodup_iff_pairwise_ne -> wY, of_mem_zip -> wj, mem_range -> wk, nodup_append -> wS, zipWith_cons_cons -> wW, filter_eq_nil_iff -> wX, all_cons -> v_, any_cons -> vr, cons_append -> wO, mem_flatten -> wq
open Nat renaming le_refl -> b', zero_le -> de, ne_of_lt -> fj, le_trans -> fO, lt_of_lt_of_le -> k_, lt_irrefl -> nS, ne_of_gt -> ny, le_succ -> nh, not_lt_zero -> t_, lt_succ_self -> vn, lt_of_le_of_lt -> vz, lt_succ_of_lt -> vu, lt_trichotomy -> wb, le_of_lt -> uu, succ_le_succ -> vt
open Bool renaming false_ne_true -> f_, and_eq_true -> gd, and_false -> mr, false_eq_true -> pz, not_eq_true' -> ql, eq_false_iff -> ra
open Array renaming length_toList -> hH, getElem?_eq_getElem -> qd, getElem?_toList -> rr, getElem?_eq_some_iff -> wf, perm_iff_toList_perm -> vx, getD -> pc, getElem?_eq_none -> ww, toList_inj -> wQ
open Option renaming map_eq_some_iff -> pe, isSome_iff_exists -> vg, map_some -> wp
open PySem renaming wpAny_bind -> a_, wpAny_pure -> b_, sizeLine_eq -> ck, bootBuiltins -> fz, FuncData -> m_, mainGlobals -> fr
section
local macro_rules|`(tactic|lk)=>`(tactic|decide)
local macro_rules|`(⇑$a)=>`(($a).heap.objs.size)
local macro_rules|`(tactic|let $p:term:=$e)=>do
 let q:=p.raw.rewriteBottomUp λs=>if s.isIdent then Lean.mkNode `Lean.Parser.Tactic.rcasesPat.one #[s] else if s.isOfKind `Lean.Parser.Term.hole then Lean.mkNode `Lean.Parser.Tactic.rcasesPat.ignore #[s[0]] else if s.isOfKind `«term[_]» then Lean.mkNode `Lean.Parser.Tactic.rcasesPat.tuple #[Lean.mkAtom "⟨",Lean.mkNullNode (Lean.mkSepArray (s[1].getSepArgs.map λx=>Lean.mkNode `Lean.Parser.Tactic.rcasesPatLo #[Lean.mkNode `Lean.Parser.Tactic.rcasesPatMed #[Lean.mkNullNode #[x]],Lean.mkNullNode]) (Lean.mkAtom ",")),Lean.mkAtom "⟩"] else s
 `(tactic|obtain $(⟨q⟩):rcasesPat:=$e)
local macro_rules|`(tactic|let $c:letConfig $d:letDecl)=>if d.raw[0].isOfKind `Lean.Parser.Term.letPatDecl then Lean.Macro.throwUnsupported else `(tactic|have $c:letConfig $d:letDecl)
local macro_rules|`([$x])=>`(⟨$x⟩)|`([$x,$a,*])=>`(⟨$x,$a,*⟩)
local macro_rules|`(#[])=>`(List.nil)|`(#[$x])=>`(List.cons $x List.nil)|`(#[$x,$a,*])=>`(List.cons $x #[$a,*])
local macro_rules|`(#v[$a,*])=>`(List.toArray #[$a,*])
local macro_rules (kind:=Lean.Parser.Command.declaration)|s=>if s.getPos?.isNone then Lean.Macro.throwUnsupported else return s.rewriteBottomUp λs=>match s with|.atom _ v=>.atom .none v|.ident _ r v p=>.ident .none r v p|.node _ k a=>.node .none k a|x=>x
theorem I{α:Sort u}{a:α}:a=a:=rfl
theorem G{p:Prop}(h:p:=by decide +kernel):p:=h
theorem Z{p:Prop}(h:p:=by lia):p:=h
theorem Y{p:Prop}(h:p:=by decide):p:=h
theorem zZ{p:Prop}(h:p:=by simp):p:=h
theorem zY{p:Prop}(h:p:=by omega):p:=h
open Option renaming some -> eI, some -> g, none -> eL, none -> U, isSome_map -> nM, bind_some -> oK, getD_none -> uX
open PySem renaming Value -> eJ, Addr -> eK, Addr -> J, Shared -> eO, Str -> eU, wpAny -> eV, starEach -> eX, Program -> eY, model -> fC, World -> fF, Heap -> fK, Around -> fL, wpAny_holding -> fV, rawInt -> fY, wpAny_Call_Name_kw -> gB, eval -> gC, backTo -> gH, wpAny_mono -> gI, Expr -> gK, mem_of_lookup -> gL, wpAny_newObj_type -> gM, compareOp -> gN, wpAny_field -> gQ, wpAny_call_entry -> gR, Obj -> gS, Stmt -> gY, codeAny_mono -> hJ, keywordEach -> hX, SetTable -> hZ, wpAny_truthy_bool -> iA, wpAny_standAt -> iB, attributeBase -> iC, wpAny_call -> iE, wpAny_setState_of -> iJ, sysModules -> iK, cLine -> iM, Builtin -> iQ, wpAny_setField -> iR, wpAny_callSpecial?_slot -> iS, wpAny_setField_rec -> iX, holding -> iY, binaryOp -> jD, NameKind -> jE, wpAny_attempt -> jF, getMethod -> jH, codeAny -> jI, wpAny_of_eq -> jK, codeAny_call_builtin -> jL, backToKw -> jM, assignEach -> jN, scanBound -> jO, wpAny_setEntries_of -> jT, Paired -> jU, codeAny_builtin -> jX, tupleKind_room_in1 -> jY, wpAny_getItem_str_slice -> jZ, wpAny_loadPart_at -> kE, standAt -> kF, call_meets -> kI, behindInMarks -> kK, sliceBounds -> kM, callWith -> kN, wpAny_passesOwn -> kP, pyNext -> kQ, Scope -> kU, swapsWith -> kY, setFlight -> kZ, pickOrder -> lA, wpAny_newFunctionEnv_cells -> lE, assign -> lF, GenState -> lH, valueAt -> lM, foldedSetIterable -> lN, excClassObj -> lO, wpAny_newList -> lR, wpAny_comprehension_free -> lT, Env -> mB, wpAny_eqBool_int -> mD, noteFrame -> mE, wpAny_typeOf -> mM, typeLookup -> mO, typeIs_str -> mP, wpAny_execs_nil -> mV, post_val_or_str -> mW, letOwnedTupleGo -> mX, getAttrByItsOwn -> mY, Pos -> nA, builtinLookup_eq_fast -> nE, wpAny_loadPart -> nQ, wpAny_fieldsOf -> nR, recursionLimit -> nV, isSubtype_type -> nW, intItems -> nX, bindArgs -> nY, tupleKind -> oG, getItem -> oH, cellsFrom -> oJ, plainId_quiet -> pG, Model -> pH, builtinsNs -> pK, wpAny_pyIter_list -> pT, wpAny_assign_Name -> pU, spliced -> pV, relayAll -> pX, callerA -> qB, call_meetsIn -> qC, ExcBaseFacts -> qG, BindsTo -> qI, plainObj_wpAny_Assign_Attribute -> qJ, wpAny_isInstance -> qR, wpAny_askSetting -> qS, noFill_tuple_add -> qU, checkBuiltinCall -> qV, frameOf -> qY, IsPart -> rC, subscripted -> rD, numAt -> rE, Fin -> rH, wpAny_specialOf -> rN, typeLookup_type -> rO, codeAny_of_tree -> rR, Sem -> rV, Within -> rW, setNext -> rZ, Keyword -> sE, wpAny_rule -> sJ, wpAny_newTuple -> sK, typeOf -> sM, slotArgs -> sP, pyIter -> sQ, isInstance -> sR, closureFor -> sS, boundAndCalled -> sU, bindL -> sV, bindC -> sW, atKey -> sX, Result -> sZ, evalArgs_none -> tS, seq_tuple_add -> uG, call -> uI, ExceptHandler -> uP, wpAny_Call_method0_late -> uT, wpAny_pyNext_list_item -> vB, seqIndex_neg -> vE, newList -> vG, leaving -> vH, isTrue -> vI, getAttr -> vJ, concat_meets -> vL, argsOk -> vM, Tok -> vN, wpAny_pyNext_list_end -> vY, wpAny_isTrue_Compare1 -> vZ, exec_Assign_Name_used -> wA, codeAny_handlers_test -> wB, codeAny_call_function -> wC
open Bool renaming false -> eM, true -> eP, eq_iff_iff -> lX, or_eq_true -> pS, false_and -> qP, and_assoc -> qQ, or_false -> rK, false_or -> rL, and_eq_false_iff -> tQ
open PySem.Value renaming ref -> fD, none -> fP, type -> gO, int -> jR, str -> kB, bool -> qD, float -> sY, isInt_shape -> uU
open PySem.F renaming plainAttrs_list -> fG, type_list_append -> fZ, slot_list_append -> gA, type_list_extend -> gW, slot_list_extend -> gX, args_tuple_add_2 -> kR, plainAttrs_dict -> kW, entry_tuple_add -> kX, slot_tuple_add -> lG, slot_dict_get -> lL, slot_dict_setdefault -> pB, args_str_split_2 -> pE, excBase_ValueError -> pM, entry_str_split -> pP, slot_dict_values -> qE, slot_str_split -> qF, args_dict_get_3 -> qL, entry_dict_get -> qZ, args_list_extend_2 -> vX, entry_list_extend -> wM
open PySem.PassesOwn renaming never -> fH, leaving -> mU
open PySem.Obj renaming mapSeq -> fJ, mapFields -> gE, isFreed_of_fields -> iZ, data_mapFields -> jV, putSet -> oE, cls_mapFields -> wF
open PySem.Str renaming ofString -> fM, empty -> lK, join -> qX
open Ne renaming symm -> fQ
open False renaming elim -> fS
open PyProof.Rows renaming seqObj -> fU, callWith_type1 -> gG, envOfC -> iI, IntsAre -> iP, listUpdate_at -> jG, callWith_builtin1 -> jS, AllBare -> kL, slot_tuple_getitem -> mI, listItems_at -> mQ, seqEpoch_at -> nU, get?_update_seq -> rP, entry_list_sort -> rQ, slot_list_sort -> sN, IsTup -> tO, subscriptTail -> uF, subscriptTail_builtinR -> vD, plain_sorted -> vF, entry_sorted -> vK
open PySem.SetTable renaming below -> fX, grown -> iW, has -> qK, slot -> vP
open Option.some renaming inj -> gD
open PySem.Calls renaming spliced_cons -> gJ, spliced_nil -> gU, callWith_builtin -> iO, evalArgs_plain -> kG, Name_function_global -> qH, call_function_entry -> qN
open PyProof.Rows.KeyOrd renaming kle_refl -> gZ, kle_of_not_klt -> iU, kle_of_klt -> kT, kle_trans -> lD, kle_antisymm -> tN
open True renaming intro -> hV
open PySem.NameKind renaming free -> iD, cell -> pQ
open List renaming map -> iF, length_nil -> lW, getElem?_eq_none -> lZ, length -> mL, toList_toArray -> nB, length_reverse -> nD, zip_cons_cons -> nO, take_sublist -> oM, take_add_one -> oO, getElem_map -> pI, eq_nil_of_length_eq_zero -> pN, range_succ -> pR, getElem?_append_left -> rB, getElem?_replicate -> rX, getElem?_cons_succ -> rY, map_nil -> sA, getElem?_set_self -> sB, singleton_append -> tM, mem_of_mem_take -> tY, length_eraseIdx -> tZ, getElem_toArray -> uA, getElem?_set_ne -> uB, forall_mem_cons -> uC, map_congr_left -> uK, length_zipWith -> uL, getElem?_range -> uM, getD_cons_succ -> uN, flatten_append -> uO, contains_cons -> uY, reverse_cons -> vS, foldl_append -> vT, flatMap_cons -> vU, ext_getElem? -> vV, getElem_inj -> wG, filter_cons -> wH, ext_getElem -> wI, countP_cons -> wJ
open PySem.SeqAt renaming EqAt -> iG, RcNeAt -> rT, RcAt -> uH
open Int renaming le_refl -> iH, emod_lt_of_pos -> jW, emod_nonneg -> kJ, eq_ofNat_of_zero_le -> sF, toNat_natCast -> wK
open PySem.Builtin.List renaming listExtendWith -> iL, listTooLong -> jB, listLengthHint -> nK, listSameRef -> oP, listUpdate -> pF
open PyProof.Rows.F renaming plain_set_update_loop -> iT, entry_set_update_loop -> lB
open PySem.Builtin.Slice renaming slicePlaces -> iV, sliceAdjust -> kH, sliceApplied -> nJ
open PySem.Builtin.Tuple renaming tupleExact -> jA
open PySem.Around renaming under_plainId -> jC, under -> rM, frames_deeper -> sI, in1_units -> vA
open ForInStep renaming yield -> jJ
open List.Perm renaming refl -> jQ, swap -> pD
open Array.Perm renaming refl -> kA
open PySem.Paired renaming length -> kC
open PySem.EntryCells renaming newEntry -> kD
open PySem.Builtin.Str renaming occurrences -> kO, strKind -> qO
open List.cons renaming injEq -> lC
open PySem.Builtin.ObjectAttr renaming storeInDict -> lI, newKeyGuard -> wN
open PySem.SetTable.probe renaming go -> lP
open PySem.SetTable.below renaming go -> lQ
open PySem.W renaming lookIn -> lU, plainGet_of -> mF, looks_clsIn -> mG, callWith_K0 -> mH, mroIn -> mK, isNs_of_in -> mT, plainOver -> nG, methodObj -> nI, makes_of -> nZ, handedIn -> oA, codeHdIn -> oB, any_some -> oC, takesIn -> oV, readsIn -> oW, findObj -> oX, findCls -> oY, OpenLaw -> pA, kla_obj -> pZ, kas_rev -> qA, findObj_own -> r0, tail_of_in -> tD, looks_find -> tF, kitx_tuple -> tG, codeRec_of -> tH, check_slot -> tI, set_plain -> tT, make_core -> tU, kitx_list -> tV, kitx_dict -> tW, handed_on -> tX, InitBack -> uJ, exm_one -> uV, CodeHd -> vQ, mg_of -> wD, WalkO -> wE
open Nat renaming lt_or_ge -> lV, eq_or_lt_of_le -> oF, le_succ_of_le -> pC, add_le_add -> rA, zero_add -> tJ, lt_trans -> tK, le_of_eq -> tL, eq_zero_or_pos -> vR
open Array renaming getElem?_setIfInBounds_self_of_lt -> mC, getElem_toList -> mJ, getElem?_setIfInBounds_ne -> oQ, toList_append -> uE, forIn_toList -> uQ, find?_toList -> uR, append_assoc -> uS, toList_push -> uZ
open PySem.Shared renaming TypeIs -> mS
open PySem.Txt renaming slice -> mZ, slice_le -> oU, split -> pL
open PySem.Code renaming quiet_builtin -> nP, isFrame -> sG
open PySem.Data renaming cell -> pJ, fields -> uD
open PySem.Heap renaming ExtBut -> pO, get?_push_at -> vW, size_update -> wL
open PySem.pickOrder renaming go -> pY
open List.Pairwise renaming nil -> qM
open PySem.SeqAt.EqAt renaming str_int -> rF, int_str -> rG
open List.Nodup renaming sublist -> rJ
open Sum.inl renaming inj -> rS
open PySem.BindsTo renaming of_defaults -> sH
open PySem.Heap.Ns1 renaming of_empty -> tP
open PySem.StrLaws renaming sliceText -> tR
open PyProof.Rows.IntsAre renaming int_at -> uW
open StateT renaming run_pure -> vO
def eQ:=@if_neg
def eR:=@if_pos
def eT:=@decide_eq_true
def eZ:=@decide_eq_false
def fA:=@absurd
def fE:=@of_decide_eq_true
def fR:=@decide_eq_true_eq
def gF:=@congrArg
def gP:=@or_false
def gV:=@beq_self_eq_true
def g0:=@of_decide_eq_false
def jP:=@if_false
def lJ:=@decide_eq_true_iff
def lY:=@if_true
def mR:=@decide_eq_false_iff_not
def qW:=@bne_self_eq_false
namespace L2
open PySem PySem.Spec PyProof.Rows
abbrev Dm:=Sum Int eU
def We:Dm->eJ->Bool
 |.inl k,v=>Value.isInt k v
 |.inr x,v=>Value.isStrOf x v
def ZC(w:fF):Dm->Int
 |.inl k=>hashInt k
 |.inr x=>hashStr w x
theorem Dt:∀{k} {v},We k v=eP->(∃i t,k=Sum.inl i/\v=jR i t)\/(∃x t,k=Sum.inr x/\v=kB x t)
 |.inl i,v,h=>by
  let[t,e]:=uU (k:=i) (v:=v) h;exact .inl [i,t,I,e]
 |.inr x,v,h=>by
  let[t,e]:=Value.isStrOf_shape (x:=x) (v:=v) h;exact .inr [x,t,I,e]
def AW(i:Int)(t:vN):We (.inl i) (.int i t)=eP:=by simp[We,Value.isInt]
def BN(x:eU)(t:vN):We (.inr x) (.str x t)=eP:=by simp[We,Value.isStrOf]
def QX(a b:Int):decide ((Sum.inl a:Dm)=Sum.inl b)=(a==b):=by
 by_cases e:a=b
 .subst e;simp
 .have h:¬(Sum.inl a:Dm)=Sum.inl b:=λq=>e (rS q)
  rw[eZ h];exact(beq_eq_false_iff_ne.mpr e).symm
def QZ(a b:eU):decide ((Sum.inr a:Dm)=Sum.inr b)=decide (a=b):=by
 by_cases e:a=b
 .subst e;simp
 .have h:¬(Sum.inr a:Dm)=Sum.inr b:=λq=>e (Sum.inr.inj q)
  rw[eZ h,eZ e]
def QE(a:Int)(b:eU):decide ((Sum.inl a:Dm)=Sum.inr b)=eM:=eZ (λq=>nomatch q)
def OQ(a:eU)(b:Int):decide ((Sum.inr a:Dm)=Sum.inl b)=eM:=eZ (λq=>nomatch q)
def Dh(prog:eY)(w:fF):PySem.KeyKind prog w Dm where
 is:=We
 hash:=ZC w
 inj:=λv a b H C=>by
  rcases Dt H with ⟨i,t,rfl,rfl⟩|⟨x,t,rfl,rfl⟩
  .rcases Dt C with ⟨j,u,rfl,e⟩|⟨y,u,rfl,e⟩
   .injection e with e1 _;rw[e1]
   .exact nomatch e
  .rcases Dt C with ⟨j,u,rfl,e⟩|⟨y,u,rfl,e⟩
   .exact nomatch e
   .injection e with e1 _;rw[e1]
 byValue:=λk v h=>by
  rcases Dt h with ⟨i,t,rfl,rfl⟩|⟨x,t,rfl,rfl⟩<;>rfl
 pyHash:=λB h=>by
  rcases Dt B with ⟨i,t,rfl,rfl⟩|⟨x,t,rfl,rfl⟩
  .exact wpAny_pyHash_int h
  .exact wpAny_pyHash_str h
 eqBool:=λL B h=>by
  rcases Dt L with ⟨i,t,rfl,rfl⟩|⟨x,t,rfl,rfl⟩
  .rcases Dt B with ⟨j,u,rfl,rfl⟩|⟨y,u,rfl,rfl⟩
   .rw[QX]at h;exact mD h
   .rw[QE]at h;exact rG i t y u _ _ _ _ h
  .rcases Dt B with ⟨j,u,rfl,rfl⟩|⟨y,u,rfl,rfl⟩
   .rw[OQ]at h;exact rF x t j u _ _ _ _ h
   .rw[QZ]at h;exact wpAny_eqBool_str h
 «strs» := λk x t v h=>by
  rcases Dt h with ⟨i,u,rfl,e⟩|⟨y,u,rfl,e⟩
  .exact nomatch e
  .injection e with e1 _
   subst e1;cases v<;>rfl
def Zn(prog:eY)(w:fF)(i:Int)(t:vN):(Dh prog w).is (.inl i) (.int i t)=eP:=AW i t
def E9(prog:eY)(w:fF)(x:eU)(t:vN):(Dh prog w).is (.inr x) (.str x t)=eP:=BN x t
inductive V where
 |non|bl (b:Bool)|int (i:Int)|str (x:eU)|byt (b:Array UInt8)|flt (b:UInt64)|ref (a:J)|ty (n:String)
 deriving DecidableEq
def Az:V->eJ->Prop
 |.non,u=>u=fP
 |.bl b,u=>u=qD b
 |.int i,u=>∃t,u=jR i t
 |.str x,u=>∃t,u=kB x t
 |.byt b,u=>∃t,u=Value.bytes b t
 |.flt b,u=>∃t,u=sY b t
 |.ref a,u=>u=fD a
 |.ty n,u=>u=gO n
abbrev Ap:List V->List eJ->Prop:=jU Az
def Ap.length{xs:List V}{us:List eJ}(r:Ap xs us):xs.length=us.length:=kC r
theorem Ap.get:∀{xs} {us} {i:Nat} {x},Ap xs us->xs[i]?=g x->∃u,us[i]?=g u/\Az x u
 |_,_,_,_,.nil,e=>by simp at e
 |_,_,0,_,.cons r _,e=>by simp at e;subst e;exact[_,I,r]
 |_,_,i+1,x,.cons _ t,e=>by
  let[u,B,j]:=Ap.get (i:=i) (x:=x) t (by simpa using e);exact[u,by simpa using B,j]
theorem Ap.set{x:V}{u:eJ}(r:Az x u):∀{xs} {us} (i:Nat),Ap xs us->Ap (xs.set i x) (us.set i u)
 |_,_,_,.nil=>.nil
 |_,_,0,.cons _ t=>.cons r t
 |_,_,i+1,.cons q t=>.cons q (Ap.set r i t)
theorem Ap.append:∀{xs ys} {us j},Ap xs us->Ap ys j->Ap (xs++ys) (us++j)
 |_,_,_,_,.nil,s=>s
 |_,_,_,_,.cons r t,s=>.cons r (Ap.append t s)
theorem Ap.take:∀{xs} {us} (n:Nat),Ap xs us->Ap (xs.take n) (us.take n)
 |_,_,0,_=>.nil
 |_,_,_+1,.nil=>.nil
 |_,_,n+1,.cons r t=>.cons r (Ap.take n t)
theorem Ap.drop:∀{xs} {us} (n:Nat),Ap xs us->Ap (xs.drop n) (us.drop n)
 |_,_,0,r=>r
 |_,_,_+1,.nil=>.nil
 |_,_,n+1,.cons _ t=>Ap.drop n t
def cE:Option V->Option eJ->Prop
 |some v,g u=>Az v u
 |none,U=>True
 |_,_=>False
def KV{B:Type}:List (B×V)->List (B×eJ)->Prop:=jU λ(p:B×V) (q:B×eJ)=>p.1=q.1/\Az p.2 q.2
def kV:Dm->V
 |.inl i=>.int i
 |.inr x=>.str x
inductive HO where
 |lst (xs:List V)
 |tup (xs:List V)
 |dK (kvs:List (Dm×V))|dT (kvs:List (List Dm×V))
 |set (S:Int->Bool) (n:Nat)
 |ins (C dx:J) (fs:List (eU×V))
 |own (x:J)
 |xd (fs:List (eU×V))
 |met (f x:J)
 |rng (lo hi:Int)
 |frz (o:gS) (u:HO)
 |tbl (ps:Array eJ)
 |ext (φ:fK->Prop)
abbrev Hp:=J->Option HO
def upd(H:Hp)(a:J)(o:HO):Hp:=λb=>if b=a then g o else H b
def Ab{a:J}{o:HO}:upd H a o a=g o:=by unfold upd;rw[eR I]
def Aj{a b:J}{o:HO}(h:b≠a):upd H a o b=H b:=by unfold upd;rw[eQ h]
def LH{a:J}{o u:HO}:upd (upd H a o) a u=upd H a u:=by
 funext b;unfold upd;split<;>rfl
def Br{H:Hp}{a b:J}{o u:HO}(h:H a=g o)(h':H b=g u)(d:o≠u):a≠b:=by
 intro e;subst e;rw[h]at h';exact d (gD h')
def Af{H:Hp}{a b:J}{o:HO}(h:H a=g o)(h':H b=U):a≠b:=by
 intro e;subst e;rw[h]at h';cases h'
section
variable (P:eY) (w:fF)
def Cf(H:Hp)(h:fK)(a:J):HO->Prop
 |.lst M=>M.length<=sizeLine/\∃(B:List eJ) (n:Nat),Ap M B/\h.get? a=g { cls:=.type "list",data:=.seq B.toArray n }
 |.tup M=>M.length<=sizeLine/\∃B:List eJ,Ap M B/\tO h a B.toArray
 |.dK L=>L.length<=sizeLine/\(a==iK)=eM/\∃X,KV L X/\h.DictOf (Dh P w) a X
 |.dT L=>L.length<=sizeLine/\(a==iK)=eM/\∃M:List (List Dm×J×eJ),
   jU (λ(p:List Dm×V) (q:List Dm×J×eJ)=>p.1=q.1/\H q.2.1=g (.tup (p.1.map kV))/\Az p.2 q.2.2) L M /\
   ∃o W E,h.get? a=g o/\o.ExactDict/\o.data=.dict W E/\W.toList=M.map (entryOfKey (oG (Dh P w)))/\(M.map (·.1)).Nodup
 |.set S n=>h.SetOf (intKind P w) a S n
 |.ins C Q O=>H Q=g (.own a)/\O.length<=1000/\Q≠a/\h.get? a=g (om C Q) /\
   ∃N,h.Ns1 Q N/\(∀f,cE (O.lookup f) (N f))/\rW N (O.map (·.1))
 |.own _=>∃o,h.get? a=g o
 |.xd O=>∃N,h.Ns1 a N/\∀f,cE (O.lookup f) (N f)
 |.rng b F=>∃t u v,h.get? a=g { cls:=.type "range",data:=.fields #v[.int b t,.int F u,.int 1 v] }
 |.frz o u=>h.get? a=g o/\Cf H h a u
 |.tbl K=>h.get? a=g { cls:=.none,data:=.fields K }
 |.met f x=>h.get? a=g (nI (.ref f) (.ref x))
 |.ext R=>R h/\(∃o,h.get? a=g o)/\∀A T:fK,R A->(∀o,A.get? a=g o->T.get? a=g o)->R T
def cJ(H:Hp)(h:fK):Prop:=∀a o,H a=g o->Cf P w H h a o
end
section
variable {P:eY} {w:fF} {H H':Hp} {h h':fK} {a:J} {o:HO}
def Cf.lt(x:Cf P w H h a o):a<h.objs.size:=by
 cases o with
 |lst L=>let[_,_,_,_,e]:=x;exact dn e
 |tup L=>let[_,_,_,p]:=x;exact p.lt
 |dK B=>let[_,_,_,_,o,_,_,e,_]:=x;exact dn e
 |dT B=>let[_,_,_,_,o,_,_,e,_]:=x;exact dn e
 |set S n=>let[o,_,_,_,e,_]:=x;exact dn e
 |ins C O M=>let[_,_,_,e,_]:=x;exact dn e
 |own y=>let[_,e]:=x;exact dn e
 |xd M=>let[_,[_,_,_,e,_],_]:=x;exact dn e
 |rng T Q=>let[_,_,_,e]:=x;exact dn e
 |frz j u=>let[e,_]:=x;exact dn e
 |tbl R=>exact dn (show h.get? a=g _ from x)
 |met f y=>exact dn (show h.get? a=g _ from x)
 |ext N=>let[_,[_,e],_]:=x;exact dn e
theorem Paired.mapP{C M:Type}{F B:C->M->Prop}:∀{L:List C} {j},jU F L j->(∀a b,F a b->B a b)->jU B L j
 |_,_,.nil,_=>.nil
 |_,_,.cons r t,f=>.cons (f _ _ r) (Paired.mapP t f)
def Cf.stay(x:Cf P w H h a o)(k:∀b u,(b=a\/H b=g (.own a))->h.get? b=g u->h'.get? b=g u)
  (B:∀b,H b=g (.own a)->H' b=g (.own a)) (L:∀b xs,H b=g (.tup xs)->H' b=g (.tup xs)):Cf P w H' h' a o:=by
 induction o with
 |lst xs=>let[z,F,n,r,e]:=x;exact[z,F,n,r,k _ _ (.inl I) e]
 |tup xs=>let[z,F,r,j,e,c]:=x;exact[z,F,r,j,k _ _ (.inl I) e,c]
 |dK T=>let[z,y,l,r,j,N,O,e,c]:=x;exact[z,y,l,r,j,N,O,k _ _ (.inl I) e,c]
 |dT T=>
  let[z,y,xs,r,j,N,O,e,c]:=x;exact[z,y,xs,Paired.mapP r λp q z=>[z.1,L _ _ z.2.1,z.2.2],j,N,O,k _ _ (.inl I) e,c]
 |set S n=>let[j,N,O,t,e,c]:=x;exact[j,N,O,t,k _ _ (.inl I) e,c]
 |ins C s E=>
  let[d,z,K,e,Q,[R,N,O,M,c],r]:=x;exact[B _ d,z,K,k _ _ (.inl I) e,Q,[R,N,O,k _ _ (.inr d) M,c],r]
 |own y=>let[j,e]:=x;exact[j,k _ _ (.inl I) e]
 |xd E=>let[Q,[R,N,O,e,c],r]:=x;exact[Q,[R,N,O,k _ _ (.inl I) e,c],r]
 |rng m hi=>let[t,u,v,e]:=x;exact[t,u,v,k _ _ (.inl I) e]
 |frz j u A=>let[e,q]:=x;exact[k _ _ (.inl I) e,A q]
 |tbl X=>
  let e:h.get? a=g { cls:=.none,data:=.fields X }:=x;show h'.get? a=g { cls:=.none,data:=.fields X };exact k a _ (.inl I) e
 |met f y=>
  let e:h.get? a=g (nI (.ref f) (.ref y)):=x;show h'.get? a=g (nI (.ref f) (.ref y));exact k a _ (.inl I) e
 |ext i=>let[p,[o,e],W]:=x;exact[W _ _ p λo q=>k _ _ (.inl I) q,[o,k _ _ (.inl I) e],W]
def cJ.lt(x:cJ P w H h)(e:H a=g o):a<h.objs.size:=(x a o e).lt
def cJ.fresh(x:cJ P w H h)(e:h.objs.size<=a):H a=U:=by
 cases q:H a with
 |none=>rfl
 |some u=>exact fA (k_ (x.lt q) e) (nS _)
def cJ.kept(x:cJ P w H h)(k:∀b u,h.get? b=g u->h'.get? b=g u):cJ P w H h':=λa o e=>
 (x a o e).stay (λb u y q=>k b u q) (λy q=>q) λy y q=>q
def cJ.laid(x:cJ P w H h)(k:∀b u,h.get? b=g u->h'.get? b=g u)(C:h.objs.size<=a)(B:Cf P w (upd H a o) h' a o):cJ P w (upd H a o) h':=λb u e=>by
 let j:=x.fresh C;by_cases F:b=a
 .subst F;rw[Ab]at e;cases e;exact B
 .rw[Aj F]at e
  exact(x b u e).stay (λc v y q=>k c v q) (λc q=>by rw[Aj (Af q j)];exact q) λc L q=>by rw[Aj (Af q j)];exact q
end
def Rd(H:Hp)(a:J)(u:HO):Prop:=H a=g u\/∃o,H a=g (.frz o u)
def Rd.ok{w:fF}{h:fK}{a:J}{u:HO}(r:Rd H a u)(x:cJ P w H h):Cf P w H h a u:=by
 rcases r with r|⟨o,r⟩
 .exact x a u r
 .let[_,q]:=x a _ r
  exact q
def XA:Option HO->Prop
 |some (.lst _)=>True
 |some (.dK _)=>True
 |some (.dT _)=>True
 |some (.set _ _)=>True
 |some (.ins _ _ _)=>True
 |some (.ext _)=>True
 |_=>False
section
variable {P:eY} {w:fF} {H:Hp} {h h':fK} {x e:J} {o':HO}
def cJ.write(T:cJ P w H h)(M:XA (H x))(R:e=x\/H e=g (.own x))(k:∀b u,b≠e->h.get? b=g u->h'.get? b=g u)(B:∃u,h'.get? e=g u)
  (O:Cf P w (upd H x o') h' x o'):cJ P w (upd H x o') h':=λb u q=>by
 let F:∀c y,H c=g (.own y)->c≠x:=λc y r z=>by subst z;rw[r]at M;exact M
 let L:∀c N,H c=g (.tup N)->c≠x:=λc N r z=>by subst z;rw[r]at M;exact M
 by_cases C:b=x
 .subst C;rw[Ab]at q;cases q;exact O
 .rw[Aj C]at q
  by_cases j:b=e
  .have Q:H b=g (.own x):=by
    rcases R with z|z
    .exact fA (j.trans z) C
    .rw[j];exact z
   rw[q]at Q;cases Q;let[v,W]:=B;exact[v,by rw[j];exact W]
  .refine(T b u q).stay (λc v S r=>k c v ?_ r) (λc r=>by rw[Aj (F c b r)];exact r) λc N r=>by rw[Aj (L c N r)];exact r
   rcases S with rfl|S
   .exact j
   .rintro rfl
    rcases R with z|z
    .exact F c b S z
    .rw[S]at z;cases z;exact C I
end
structure Un(fs ex:List J)(H H':Hp)(h h':fK):Prop where
 keep:∀b o,h.get? b=g o->H b=U->b∉fs->b∉ex->h'.get? b=g o
 slot:∀b o,h.get? b=g o->H b=U->b∈fs->b∉ex->∃sl,h'.get? b=g { o with slots:=sl }
 free:∀b o,h.get? b=g o->H b=U->b∉ex->H' b=U
 there:∀b o,h.get? b=g o->b∉ex->∃o',h'.get? b=g o'
 tups:∀b xs,H b=g (.tup xs)->H' b=g (.tup xs)
 frzs:∀b o u,H b=g (.frz o u)->H' b=g (.frz o u)
 tbls:∀b ps,H b=g (.tbl ps)->∃more,H' b=g (.tbl (ps++more))
section
variable {fs ex:List J} {H H1:Hp} {h h1 h':fK} {a x e:J} {o:HO}
def Un.any(u:Un fs ex H H1 h h1){b:J}(q:h.get? b=g c)(n:H b=U)(j:b∉ex):∃L,h1.get? b=g { c with slots:=L }:=by
 by_cases F:b∈fs
 .exact u.slot b c q n F j
 .exact[c.slots,u.keep b c q n F j]
def Un.kept(k:∀b u,h.get? b=g u->h'.get? b=g u):Un fs ex H H h h':=
 [λb j q y y y=>k b j q,λb j q y y y=>[j.slots,k b j q],λy y y n y=>n,λb j q y=>[j,k b j q],λy y q=>q,λy y y q=>q,λy B q=>[#v[],by rw[q];simp]]
def Un.refl:Un fs ex H H h h:=Un.kept λy y q=>q
def Un.laid(k:∀b u,h.get? b=g u->h'.get? b=g u)(C:h.objs.size<=a)(j:H a=U):Un fs ex H (upd H a o) h h' where
 keep:=λb u q y y y=>k b u q
 slot:=λb u q y y y=>[u.slots,k b u q]
 free:=λb u q n y=>by rw[Aj (fj (k_ (dn q) C))];exact n
 there:=λb u q y=>[u,k b u q]
 tups:=λb B q=>by rw[Aj (Af q j)];exact q
 frzs:=λb u B q=>by rw[Aj (Af q j)];exact q
 tbls:=λb L q=>[#v[],by rw[Aj (Af q j),q];simp]
def Un.write(F:XA (H x))(C:e=x\/H e=g (.own x))(k:∀b u,b≠e->h.get? b=g u->h'.get? b=g u)(S:∃u,h'.get? e=g u):Un fs ex H (upd H x o) h h':=by
 let B:∀b,H b=U->b≠x:=λb n z=>by subst z;rw[n]at F;exact F
 let M:∀b,H b=U->b≠e:=λb n z=>by
  subst z;rcases C with r|r
  .exact B b n r
  .rw[n]at r;cases r
 let L:∀b u,H b=g u->¬XA (g u)->b≠x:=λb u q O z=>by subst z;rw[q]at F;exact O F
 refine[λb u q n y y=>k b u (M b n) q,λb u q n y y=>[u.slots,k b u (M b n) q],λb u q n y=>by rw[Aj (B b n)];exact n,λb u q y=>?_,
  λb N q=>by rw[Aj (L b _ q λz=>z)];exact q,λb u N q=>by rw[Aj (L b _ q λz=>z)];exact q,λb P q=>[#v[],by rw[Aj (L b _ q λz=>z),q];simp]]
 by_cases j:b=e
 .subst j;exact S
 .exact[u,k b u j q]
end
def YD(h:fK)(H:Hp):List J:=(kw h.objs.size).filter λa=>(H a).isSome
def Tk(h:fK)(H:Hp):fK:=PySem.W.hideAll h (YD h H)
def AR(h:fK)(H:Hp):(Tk h H).objs.size=h.objs.size:=PySem.W.hideAll_size _ _
def BX{h:fK}{b:J}{o:gS}(e:h.get? b=g o)(n:H b=U):(Tk h H).get? b=g o:=
 PySem.W.hideAll_get _ e λj=>by
  let q:(H b).isSome=eP:=(nw.mp j).2;rw[n]at q;simp at q
def LG{h:fK}{b:J}{o:gS}(e:(Tk h H).get? b=g o):h.get? b=g o/\H b=U:=by
 let j:h.get? b=g o:=PySem.W.of_hideAll (YD h H) e;refine[j,?_];cases q:H b with
 |none=>rfl
 |some x=>
  let F:b∈YD h H:=nw.mpr [wk.mpr (dn j),by simp[q]];let z:(Tk h H).get? b=U:=PySem.W.hideAll_none (YD h H) F;rw[z]at e;cases e
structure Mod(K:a')(mg:eU->Option eJ)(base:fK):Prop where
 kin:K.In base
 glob:base.Ns fr mg
 blt:∃mb,base.Ns pK mb/\∀x:eU,x ≠ "__name__"->mb x=fz x
 nolimit:base.NoLimit
structure Cx where
 prog:eY
 w:fF
 K:a'
 mg:eU->Option eJ
 base:fK
 A:fL
 N:List eU
 s₀:eO
 H₀:Hp
 env:mB
 outer:List mB
 stack:List mB
 ex:List J
 fn:eU->Bool
 calm:Bool
 pn:List (J×gS)
 xe:eJ->eO->Prop
def Tj(l:List mB):List J:=l.filterMap (·.frame)
abbrev Cx.fs(X:Cx):List J:=Tj X.outer
def ZT(B:kU)(x:eU):Prop:=B.names.lookup x=g .local\/B.names.lookup x=g .cell\/B.names.lookup x=g .free
def NP(B:kU)(x:eU):Prop:=B.names.lookup x=g .local\/B.names.lookup x=g .cell
def ZI(env:mB)(h:fK)(m:eU->Option eJ)(x:eU)(u:eJ):Prop:=
 (env.kindOf x=g .local/\m x=g u)\/((env.kindOf x=g .cell\/env.kindOf x=g .free)/\∃c,env.cells.lookup x=g c/\h.IsCell c (g u))
structure Cx.Ok(X:Cx):Prop where
 mod:Mod X.K X.mg X.base
 kind:X.env.scope.kind=.function
 glob:X.env.globals=fr
 blt:X.env.builtins=pK
 above:X.s₀.heap.objs.size<=X.env.locals
 inj:∀x y c,X.env.cells.lookup x=g c->X.env.cells.lookup y=g c->x=y
 has:∀x,(X.env.kindOf x=g .cell\/X.env.kindOf x=g .free)->∃c,X.env.cells.lookup x=g c
 cab:∀x c,X.fn x=eP->X.env.cells.lookup x=g c->X.s₀.heap.objs.size<=c
 hd:X.calm=eP->X.A.handled=U
 frames:X.A.frames=g X.stack
 stk:X.stack=X.outer\/(X.stack=X.env::X.outer/\X.env.frame=g X.env.locals)
 exf:∀b∈X.ex,b≠X.env.locals/\∀x c,X.env.cells.lookup x=g c->c≠b
 bs:∀b o,X.base.get? b=g o->X.s₀.heap.get? b=g o/\X.H₀ b=U
 bsz:X.base.objs.size<=X.s₀.heap.objs.size
 noex:∀b o,X.base.get? b=g o->b∉X.ex
 exfs:∀b∈X.ex,b∉X.fs
 funs:X.s₀.heap.FunFrames X.base X.outer
 frf:∀b∈X.fs,X.H₀ b=U
structure Ak(X:Cx)(pins:List (J×gS))(σ:List (Option V))(H:Hp)(s:eO):Prop where
 ok:X.Ok
 os:s.os=X.s₀.os
 bare:kL s.gens
 base:Un X.fs X.ex X.H₀ H X.s₀.heap s.heap
 loc:∃m,s.heap.Ns X.env.locals m/\∀(i:Nat) (x:eU) (v:V),X.N[i]?=g x->σ[i]?=g (g v)->ZT X.env.scope x->∃u,Az v u/\ZI X.env s.heap m x u
 cell:∀x c,X.env.cells.lookup x=g c->∃v,s.heap.IsCell c v
 free:H X.env.locals=U
 freeC:∀x c,X.env.cells.lookup x=g c->H c=U
 pin:∀p∈X.pn++pins,s.heap.get? p.1=g p.2/\H p.1=U/\p.1≠X.env.locals/\p.1∉X.fs/\∀v,p.2.data≠.cell v
 hok:cJ X.prog X.w H s.heap
 len:σ.length=X.N.length
section
variable {X:Cx} {pins:List (J×gS)} {σ:List (Option V)} {H H':Hp} {s:eO} {h':fK}
def Cx.Ok.nofr(B:X.Ok){b:J}{o:gS}(e:X.base.get? b=g o):b∉X.fs:=λj=>by
 let:=(B.funs.mem j).1;rw[e]at this;cases this
def Ak.bs(B:Ak X pins σ H s):∀b o,X.base.get? b=g o->s.heap.get? b=g o/\H b=U:=λb o e=>
 [B.base.keep b o (B.ok.bs b o e).1 (B.ok.bs b o e).2 (B.ok.nofr e) (B.ok.noex b o e),B.base.free b o (B.ok.bs b o e).1 (B.ok.bs b o e).2 (B.ok.noex b o e)]
def Ak.bk(B:Ak X pins σ H s):∀b o,X.base.get? b=g o->s.heap.get? b=g o:=λb o e=>(B.bs b o e).1
def Ak.mod(B:Ak X pins σ H s):Mod X.K X.mg X.base:=B.ok.mod
def Ak.kIn(B:Ak X pins σ H s):X.K.In s.heap:=B.ok.mod.kin.keeps B.bk
def Ak.lt(B:Ak X pins σ H s):X.env.locals<⇑s:=let [_,C,_]:=B.loc;C.lt
def Ak.sz(B:Ak X pins σ H s):X.s₀.heap.objs.size<=⇑s:=fO B.ok.above (uu B.lt)
def Ak.nofs(B:Ak X pins σ H s){a:J}(h:⇑s<=a):a∉X.fs:=λF=>by
 let[_,o,j,_]:=B.ok.funs.mem F;exact fA (k_ (dn j) (fO B.sz h)) (nS _)
def Ak.cne(B:Ak X pins σ H s):∀x c,X.env.cells.lookup x=g c->c≠X.env.locals:=λx c e z=>by
 let[v,o,S,L]:=B.cell x c e;let[m,[M,N,C,F,j,_],_]:=B.loc;rw[z,F]at S;cases S;rw[j]at L;cases L
def Ak.funs(M:Ak X pins σ H s):s.heap.FunFrames X.base X.outer:=by
 let O:∀(l:List mB),(∀b∈Tj l,b∈X.fs)->X.s₀.heap.FunFrames X.base l->s.heap.FunFrames X.base l:=by
  intro l
  induction l with
  |nil=>intro _ _;trivial
  |cons Q r R=>
   intro P A;let[C,[L,o,F,B,W,N],T]:=A;let j:L∈X.fs:=P L (by unfold Tj;rw[vp,F];exact fk);let[E,e]:=M.base.slot L o W (M.ok.frf L j) j λz=>M.ok.exfs L z j;exact[C,[L,_,F,B,e,N],R (λb S=>P b (by unfold Tj;rw[vp,F];exact e_ _ S)) T]
 exact O X.outer (λx S=>S) M.ok.funs
def Ak.stack(B:Ak X pins σ H s):s.heap.FunFrames X.base X.stack:=by
 rcases B.ok.stk with e|⟨e,j⟩
 .rw[e];exact B.funs
 .rw[e]
  let[m,F,_]:=B.loc;refine .cons (by rw[B.ok.kind];decide) j F ?_ B.funs;exact sD (fO B.ok.bsz B.ok.above)
def Ak.stkSub(B:Ak X pins σ H s):∀b∈Tj X.stack,b∈X.env.locals::X.fs:=λb j=>by
 rcases B.ok.stk with e|⟨e,F⟩
 .rw[e]at j;exact e_ _ j
 .rw[e]at j
  unfold Tj at j;rw[vp,F]at j;exact j
def Ak.stkFree(B:Ak X pins σ H s):∀b∈Tj X.stack,H b=U:=λb j=>by
 rcases cr.mp (B.stkSub b j)with e|j
 .rw[e];exact B.free
 .let[_,o,F,_]:=B.ok.funs.mem j
  exact B.base.free b o F (B.ok.frf b j) λz=>B.ok.exfs b z j
def Ak.step{g':Array lH}{t':Nat}{d':Drawn}{ch:List J}(B:Ak X pins σ H s)
  (L:∀b∈ch,(b∈X.ex\/X.s₀.heap.objs.size<=b)/\b≠X.env.locals/\(∀x c,X.env.cells.lookup x=g c->c≠b)/\∀p∈X.pn++pins,p.1≠b)
  (P:∀b o,b≠X.env.locals->b∉X.fs->b∉ch->s.heap.get? b=g o->H b=U->h'.get? b=g o)
  (slot:∀b o,b≠X.env.locals->b∈X.fs->b∉ch->s.heap.get? b=g o->H b=U->∃t,h'.get? b=g { o with slots:=t }) (O:∀b o,b∉ch->s.heap.get? b=g o->H b=U->H' b=U)
  (Q:∀b o,b∉ch->s.heap.get? b=g o->∃f,h'.get? b=g f)
  (A:∀b xs,H b=g (.tup xs)->H' b=g (.tup xs)) (K:∀b o u,H b=g (.frz o u)->H' b=g (.frz o u)) (T:∀b ps,H b=g (.tbl ps)->∃W,H' b=g (.tbl (ps++W)))
  (ns:∀m,s.heap.Ns X.env.locals m->h'.Ns X.env.locals m) (y:cJ X.prog X.w H' h') (hg:kL g') :
  Ak X pins σ H' { s with heap:=h',gens:=g',drawn:=d',toks:=t' }:=by
 let aa:∀b o,X.s₀.heap.get? b=g o->b≠X.env.locals:=λb o e=>fj (k_ (dn e) B.ok.above);let M:∀b o,X.s₀.heap.get? b=g o->b∉X.ex->b∉ch:=λb o e j C=>by
  rcases (L b C).1 with z|z
  .exact j z
  .exact fA (k_ (dn e) z) (nS _)
 let S:∀x c,X.env.cells.lookup x=g c->∀v,s.heap.IsCell c v->h'.IsCell c v:=λx c e v ⟨o,R,w⟩=>by
  let F:c∉ch:=λz=>(L c z).2.2.1 x c e I;by_cases hc:c∈X.fs
  .let[t,q]:=slot c o (B.cne x c e) hc F R (B.freeC x c e)
   exact[_,q,w]
  .exact[o,P c o (B.cne x c e) hc F R (B.freeC x c e),w]
 refine[B.ok,B.os,hg,[λb o e n C j=>?_,λb o e n C j=>?_,λb o e n j=>?_,λb o e j=>?_,λb xs e=>A b xs (B.base.tups b xs e),λb o xs e=>K b o xs (B.base.frzs b o xs e),λb ps e=>?_],?_,λx c e=>?_,?_,λx c e=>?_,λp h=>?_,y,B.len]
 .exact P b o (aa b o e) C (M b o e j) (B.base.keep b o e n C j) (B.base.free b o e n j)
 .let[t,N]:=B.base.slot b o e n C j
  let[ab,E]:=slot b _ (aa b o e) C (M b o e j) N (B.base.free b o e n j);exact[ab,E]
 .let[f,N]:=B.base.there b o e j
  exact O b f (M b o e j) N (B.base.free b o e n j)
 .let[f,N]:=B.base.there b o e j
  exact Q b f (M b o e j) N
 .let[m1,N]:=B.base.tbls b ps e
  let[m2,E]:=T b _ N;exact[m1++m2,by rw[E,uS]]
 .let[m,hn,hl]:=B.loc
  refine[m,ns m hn,λi x v N E e3=>?_];let[u,r,l]:=hl i x v N E e3;refine[u,r,?_];rcases l with l|⟨k,c,e,z⟩
  .exact .inl l
  .exact .inr [k,c,e,S x c e _ z]
 .let[v,z]:=B.cell x c e
  exact[v,S x c e v z]
 .let[m,[o,_,_,R,_],_]:=B.loc
  exact O _ o (λz=>(L _ z).2.1 I) R B.free
 .let[v,o,R,w]:=B.cell x c e
  exact O c o (λz=>(L c z).2.2.1 x c e I) R (B.freeC x c e)
 .let[e,n,ne,a,d]:=B.pin p h
  let F:p.1∉ch:=λz=>(L p.1 z).2.2.2 p h I;exact[P p.1 p.2 ne a F e n,O p.1 p.2 F e n,ne,a,d]
def Ak.un{t':Nat}(M:Ak X pins σ H s)(u:Un X.fs [] H H' s.heap h')(F:cJ X.prog X.w H' h'):Ak X pins σ H' { s with heap:=h',toks:=t' }:=by
 let[m,[o,Q,R,C,r],_]:=id M.loc;let[A,B]:=u.any C M.free zZ;exact M.step (g':=s.gens) (d':=s.drawn) (ch:=[]) (λx z=>nomatch z) (λb o x S x e n=>u.keep b o e n S zZ) (λb o x S x e n=>u.slot b o e n S zZ) (λb o x e n=>u.free b o e n zZ) (λb o x e=>u.there b o e zZ) u.tups u.frzs u.tbls (λW P=>by
  let[T,O,L,j,N]:=P;rw[C]at j;cases j;exact[_,O,L,B,N]) F M.bare
def Ak.call{g':Array lH}{t':Nat}{d':Drawn}{ch:List J}(M:Ak X pins σ H s)(u:Un (Tj X.stack) ch H H' s.heap h')(S:cJ X.prog X.w H' h')(Q:kL g')
  (F:∀b∈ch,(b∈X.ex\/X.s₀.heap.objs.size<=b)/\b≠X.env.locals/\(∀x c,X.env.cells.lookup x=g c->c≠b)/\∀p∈X.pn++pins,p.1≠b) :
  Ak X pins σ H' { s with heap:=h',gens:=g',drawn:=d',toks:=t' }:=by
 let[m,[o,W,A,B,r],_]:=id M.loc;let[d,N]:=u.any B M.free λz=>(F _ z).2.1 I;exact M.step (ch:=ch) F (λb o N T j e n=>u.keep b o e n (λz=>(cr.mp (M.stkSub b z)).elim N T) j) (λb o y y j e n=>u.any e n j) (λb o j e n=>u.free b o e n j) (λb o j e=>u.there b o e j) u.tups u.frzs u.tbls (λK P=>by
  let[E,O,C,L,R]:=P;rw[B]at L;cases L;exact[_,O,C,N,R]) S Q
def Ak.turned{t':Nat}{it:J}(M:Ak X pins σ H s)(k:∀b o,b≠it->s.heap.get? b=g o->h'.get? b=g o)(B:H it=U)(L:it≠X.env.locals)
  (P:it∈X.ex\/X.s₀.heap.objs.size<=it) (C:∀x c,X.env.cells.lookup x=g c->c≠it) (R:∀p∈X.pn++pins,p.1≠it):Ak X pins σ H { s with heap:=h',toks:=t' }:=by
 let F:∀b u,H b=g u->b≠it:=λb u e z=>by rw[z,B]at e;cases e
 refine M.step (g':=s.gens) (d':=s.drawn) (ch:=#[it]) (λb S=>?_) (λb o y y j e y=>k b o (λz=>j (by simp[z])) e) (λb o y y j e y=>[o.slots,k b o (λz=>j (by simp[z])) e]) (λy y y y n=>n)
  (λb o j e=>[o,k b o (λz=>j (by simp[z])) e]) (λy y e=>e) (λy y y e=>e) (λb W e=>[#v[],by rw[e];simp]) (λm N=>?_) (λb u e=>?_) M.bare
 .have e:b=it:=by simpa using S
  subst e;exact[P,L,C,R]
 .let[o,O,Q,T,r]:=N
  exact[o,O,Q,k _ o (fQ L) T,r]
 .refine(M.hok b u e).stay (λc v j q=>k c v ?_ q) (λy q=>q) λy y q=>q
  rcases j with z|z
  .rw[z];exact F b u e
  .exact F c _ z
def Ak.tok(B:Ak X pins σ H s)(t:Nat):Ak X pins σ H { s with toks:=t }:=B.un (h':=s.heap) (t':=t) Un.refl B.hok
def Ak.kept{t':Nat}(B:Ak X pins σ H s)(k:∀b u,s.heap.get? b=g u->h'.get? b=g u):Ak X pins σ H { s with heap:=h',toks:=t' }:=B.un (Un.kept k) (B.hok.kept k)
def Ak.laid{a:J}{o:HO}{t':Nat}(B:Ak X pins σ H s)(k:∀b u,s.heap.get? b=g u->h'.get? b=g u)(L:⇑s<=a)(C:Cf X.prog X.w (upd H a o) h' a o) :
  Ak X pins σ (upd H a o) { s with heap:=h',toks:=t' }:=B.un (Un.laid k L (B.hok.fresh L)) (B.hok.laid k L C)
def Ak.write{x e:J}{o:HO}{t':Nat}(B:Ak X pins σ H s)(F:XA (H x))(L:e=x\/H e=g (.own x))(k:∀b u,b≠e->s.heap.get? b=g u->h'.get? b=g u)(j:∃u,h'.get? e=g u)
  (C:Cf X.prog X.w (upd H x o) h' x o):Ak X pins σ (upd H x o) { s with heap:=h',toks:=t' }:=B.un (Un.write F L k j) (B.hok.write F L k j C)
def Ak.pins_of(B:Ak X pins σ H s)(h:∀p∈pins',s.heap.get? p.1=g p.2/\H p.1=U/\p.1≠X.env.locals/\p.1∉X.fs/\∀v,p.2.data≠.cell v):Ak X pins' σ H s:=
 [B.ok,B.os,B.bare,B.base,B.loc,B.cell,B.free,B.freeC,λp C=>(gw.mp C).elim (λz=>B.pin p (vv _ z)) (h p),B.hok,B.len]
def B4{N:List eU}(F:N.Nodup){i j:Nat}{x:eU}(a:N[i]?=g x)(b:N[j]?=g x):i=j:=by
 let[C,S]:=hI.mp a;let[B,L]:=hI.mp b;exact(wG F).mp (S.trans L.symm)
def Of{M:pH}{A:fL}{E:eJ->eO->Prop}{i:Nat}{x:eU}{v:V}{u:eJ}{Q:Unit->eO->Prop}(B:Ak X pins σ H s)(hN:X.N.Nodup)(f:X.N[i]?=g x)(N:NP X.env.scope x)(r:Az v u)
  (h:∀s',Ak X pins (σ.set i (g v)) H s'->(∃a,i_ a s.heap s'.heap/\(a=X.env.locals\/X.env.cells.lookup x=g a))->Q () s') (hf:X.fn x=eP\/X.env.scope.names.lookup x=g .local:=by first|exact .inl I|exact .inr I|assumption):eV M A (storeName X.env x u) Q E s:=by
 let[m,hn,hl]:=id B.loc;let ab:(X.env.scope.kind == .class||(X.env.scope.kind == .module&&X.env.locals != X.env.globals))=eM:=by rw[B.ok.kind];rfl
 let ag:i<σ.length:=by rw[B.len];exact(hI.mp f).1
 let W:=B.cne;let L:∀{a:J} {h':fK},(∃o,s.heap.get? a=g o/\H a=U)->i_ a s.heap h'->cJ X.prog X.w H h':=λ{a h'} ha P b ob e=>by
  let[_,_,O]:=ha;refine(B.hok b ob e).stay (λc l S q=>(P.2 c ?_).trans q) (λ_ q=>q) λ_ _ q=>q;rintro rfl;rcases S with rfl|S
  .rw[O]at e;cases e
  .rw[O]at S;cases S
 rcases N with R|R
 .refine wpAny_storeName_local R hn (λh' ai P=>?_) ab
  let[oL,_,_,ah,_]:=id hn;refine h _ [B.ok,B.os,B.bare,[λb o e n K N=>?_,λb o e n K N=>?_,B.base.free,λb o e N=>?_,B.base.tups,B.base.frzs,B.base.tbls],[_,ai,λj y v' F C e3=>?_],λy c e=>?_,B.free,B.freeC,λp hp=>?_,L [oL,ah,B.free] P,by simpa using B.len] [_,P,.inl I]
  .exact(P.2 b (fj (k_ (dn e) B.ok.above))).trans (B.base.keep b o e n K N)
  .let[sl,F]:=B.base.slot b o e n K N
   exact[sl,(P.2 b (fj (k_ (dn e) B.ok.above))).trans F]
  .let[o',F]:=B.base.there b o e N
   exact[o',(P.2 b (fj (k_ (dn e) B.ok.above))).trans F]
  .by_cases T:j=i
   .subst T
    rw[f]at F;cases F;rw[sB ag]at C;cases C;exact[u,r,.inl [R,zZ]]
   .rw[uB (fQ T)]at C
    let[u',r',q]:=hl j y v' F C e3;refine[u',r',?_];rcases q with ⟨k,e⟩|⟨k,c,e,z⟩
    .refine .inl [k,?_]
     let:y≠x:=λe=>T (B4 hN F (e▸f));simp[this,e]
    .exact .inr [k,c,e,z.sameBut P (W y c e)]
  .let[l,z]:=B.cell y c e
   exact[l,z.sameBut P (W y c e)]
  .let[e,n,t,nf,d]:=B.pin p hp
   exact[(P.2 p.1 t).trans e,n,t,nf,d]
 .have aa:X.fn x=eP:=by
   rcases hf with z|z
   .exact z
   .rw[z]at R;cases R
  let[c,S]:=B.ok.has x (.inl R);let[l,z]:=B.cell x c S;refine wpAny_storeName_cell B.ok.kind R S z (λh' ad P=>?_);let[oc,ae,af]:=id z;refine h { s with heap:=h' } [B.ok,B.os,B.bare,[λb o e n K N=>?_,λb o e n K N=>?_,B.base.free,λb o e N=>?_,B.base.tups,B.base.frzs,B.base.tbls],[m,hn.sameBut P (fQ (W x c S)),λj y v' F C e3=>?_],λy w e=>?_,B.free,B.freeC,λp hp=>?_,L [oc,ae,B.freeC x c S] P,by simpa using B.len] [c,P,.inr S]
  .exact(P.2 b (fj (k_ (dn e) (B.ok.cab x c aa S)))).trans (B.base.keep b o e n K N)
  .let[sl,F]:=B.base.slot b o e n K N
   exact[sl,(P.2 b (fj (k_ (dn e) (B.ok.cab x c aa S)))).trans F]
  .let[o',F]:=B.base.there b o e N
   exact[o',(P.2 b (fj (k_ (dn e) (B.ok.cab x c aa S)))).trans F]
  .by_cases T:j=i
   .subst T
    rw[f]at F;cases F;rw[sB ag]at C;cases C;exact[u,r,.inr [.inl R,c,S,ad]]
   .rw[uB (fQ T)]at C
    let[u',r',q]:=hl j y v' F C e3;refine[u',r',?_];rcases q with q|⟨k,w,e,z'⟩
    .exact .inl q
    .refine .inr [k,w,e,z'.sameBut P ?_]
     rintro rfl;exact T (B4 hN F (B.ok.inj _ _ _ e S▸f))
  .by_cases ac:w=c
   .subst ac;exact[_,ad]
   .let[w2,z2]:=B.cell y w e
    exact[w2,z2.sameBut P ac]
  .let[e,n,t,nf,d]:=B.pin p hp
   refine[(P.2 p.1 ?_).trans e,n,t,nf,d];intro q;rw[q,ae]at e;let q':oc=p.2:=gD e;exact d l (by rw[<- q'];exact af)
def Sa{M:pH}{A:fL}{E:eJ->eO->Prop}{i:Nat}{x:eU}{v:V}{u:eJ}{Q:Unit->eO->Prop}(B:Ak X pins σ H s)(j:X.N.Nodup)(C:X.N[i]?=g x)(L:NP X.env.scope x)(r:Az v u)
  (h:∀s',Ak X pins (σ.set i (g v)) H s'->Q () s') (S:X.fn x=eP\/X.env.scope.names.lookup x=g .local:=by first|exact .inl I|exact .inr I|assumption):eV M A (storeName X.env x u) Q E s:=
 Of B j C L r (λs' F y=>h s' F) S
def Ak.call'{s':eO}{ch:List J}(B:Ak X pins σ H s)(L:s'.os=s.os)(u:Un (Tj X.stack) ch H H' s.heap s'.heap)(j:cJ X.prog X.w H' s'.heap)(S:kL s'.gens)
  (F:∀b∈ch,(b∈X.ex\/X.s₀.heap.objs.size<=b)/\b≠X.env.locals/\(∀x c,X.env.cells.lookup x=g c->c≠b)/\∀p∈X.pn++pins,p.1≠b):Ak X pins σ H' s':=by
 let[h',g',d',t',C]:=s';let e:C=s.os:=L;subst e;exact B.call (g':=g') (t':=t') (d':=d') u j S F
end
abbrev XK:=eJ->Option J->Hp->Prop
abbrev St:=List (Option V)
abbrev VK:=V->Hp->Prop
abbrev TE:=St->Hp->VK->Prop
abbrev TT:=St->Hp->(Bool->Hp->Prop)->Prop
abbrev TA:=St->Hp->(List V->Hp->Prop)->Prop
structure Jy where
 nx:St->Hp->Prop
 rt:VK
 bk:St->Hp->Prop:=λ_ _=>False
 ct:St->Hp->Prop:=λ_ _=>False
abbrev TS:=Jy->St->Hp->Prop
def EP(X:Cx)(pins:List (J×gS))(C:St)(Q:VK)(u:eJ)(s':eO):Prop:=∃v B,Ak X pins C B s'/\Az v u/\Q v B
def TP(X:Cx)(pins:List (J×gS))(C:St)(Q:Bool->Hp->Prop)(b:Bool)(s':eO):Prop:=∃B,Ak X pins C B s'/\Q b B
def AP(X:Cx)(pins:List (J×gS))(H:St)(Q:List V->Hp->Prop)(us:List eJ)(s':eO):Prop:=∃B C,Ak X pins H C s'/\Ap B us/\Q B C
def SP(X:Cx)(pins:List (J×gS))(D:Jy)(f:Flow)(s':eO):Prop:=
 match f with
 |.next=>∃B C,Ak X pins B C s'/\D.nx B C
 |.brk=>∃B C,Ak X pins B C s'/\D.bk B C
 |.cont=>∃B C,Ak X pins B C s'/\D.ct B C
 |.ret u=>∃v B C,Ak X pins B C s'/\Az v u/\D.rt v C
def PE(X:Cx)(e:gK)(t:TE):Prop:=
 ∀(B:List (J×gS)) (s:eO) (C:St) (H:Hp) (Q:VK),Ak X B C H s->t C H Q->eV (fC X.prog X.w) X.A (gC e X.env) (EP X B C Q) X.xe s
def PT(X:Cx)(e:gK)(t:TT):Prop:=
 ∀(B:List (J×gS)) (s:eO) (C:St) (H:Hp) (Q:Bool->Hp->Prop),Ak X B C H s->t C H Q->eV (fC X.prog X.w) X.A (vI e X.env (gC e X.env)) (TP X B C Q) X.xe s
def PW(X:Cx)(e:gK)(t:TT):Prop:=
 ∀(C:rV eJ) (B:List (J×gS)) (s:eO) (L:St) (H:Hp) (Q:Bool->Hp->Prop),Ak X B L H s->t L H Q->eV (fC X.prog X.w) X.A (vI e X.env C) (TP X B L Q) X.xe s
def PW.pt{X:Cx}{e:gK}{t:TT}(h:PW X e t):PT X e t:=h _
def PA(X:Cx)(es:List gK)(t:TA):Prop:=
 ∀(L:nA) (B:List (J×gS)) (s:eO) (C:St) (H:Hp) (Q:List V->Hp->Prop),Ak X B C H s->t C H Q->eV (fC X.prog X.w) X.A (pV (gH L (eX es X.env))) (AP X B C Q) X.xe s
def PS(X:Cx)(st:gY)(t:TS):Prop:=
 ∀(B:List (J×gS)) (s:eO) (C:St) (H:Hp) (D:Jy),Ak X B C H s->t D C H->eV (fC X.prog X.w) X.A (exec st X.env) (SP X B D) X.xe s
def PSs(X:Cx)(st:List gY)(t:TS):Prop:=
 ∀(B:List (J×gS)) (s:eO) (C:St) (H:Hp) (D:Jy),Ak X B C H s->t D C H->eV (fC X.prog X.w) X.A (execs st X.env) (SP X B D) X.xe s
def Ct{B:Type}{t}{Q j:B->eO->Prop}{M}{A}{E:eJ->eO->Prop}{s}(h:eV M A t Q E s)(F:∀a s,Q a s->j a s):eV M A t j E s:=gI h F λy y x=>x
section
variable {X:Cx}
inductive GE(i:Nat)(σ:St)(H:Hp)(Q:VK):Prop
 |mk (v:V) (e:σ[i]?=g (g v)) (q:Q v H)
def tC(v:V):TE:=λx H Q=>Q v H
def NY{i:Nat}{x:eU}(N:X.N[i]?=g x)(W:ZT X.env.scope x)(S:(x==("__debug__" : eU))=eM:=by lk)(P:(x==("__classdict__" : eU))=eM:=by lk):PE X (.Name x b) (GE i):=by
 intro O s T H Q M h;let[v,e,h]:=h;let[m,R,A]:=M.loc;let[u,r,l]:=A i x v N e W;let L:EP X O T Q u s:=[v,H,M,r,h];rcases l with ⟨F,B⟩|⟨F,c,C,j⟩
 .exact wpAny_Name (wpAny_loadName_local M.ok.kind F R B L) S
 .rcases F with F|F
  .exact wpAny_Name (wpAny_loadName_cell M.ok.kind F C j L) S
  .exact wpAny_Name (wpAny_loadName_free M.ok.kind F C j L P) S
def Ae{i j C}:PE X (.Constant (.int i) j C) (tC (.int i)):=λx x x H x B h=>wpAny_Constant_int [.int i,H,B.tok _,[_,I],h]
def Da{b j C}:PE X (.Constant (.bool b) j C) (tC (.bl b)):=λx x x H x B h=>Constant_bool [.bl b,H,B,I,h]
def Fh{j C}:PE X (.Constant .none j C) (tC .non):=λx x x H x B h=>Constant_none [.non,H,B,I,h]
def Bo{x j C}:PE X (.Constant (.str x) j C) (tC (.str x)):=λy y y H y B h=>Calls.Constant_str [.str x,H,B.tok _,[_,I],h]
def Gl(X:Cx)(x:eU):Prop:=X.env.kindOf x=g .globalImplicit
def Ev{E:eJ->eO->Prop}{pins:List (J×gS)}{s:eO}{x:eU}{u:eJ}{Q:eJ->eO->Prop}(B:Ak X pins c H s)(j:Gl X x)(L:X.mg x=g u)(h:Q u s)
  (F:(x==("__debug__" : eU))=eM:=by lk):eV (fC X.prog X.w) X.A (gC (.Name x b) X.env) Q E s:=
 qH B.ok.kind j (Calls.loadGlobal_global (by rw[B.ok.glob];exact B.mod.glob.keeps B.bk) L h) F
def Fy{E:eJ->eO->Prop}{pins:List (J×gS)}{s:eO}{x:eU}{u:eJ}{Q:eJ->eO->Prop}(B:Ak X pins c H s)(j:Gl X x)(L:X.mg x=U)(S:fz x=g u)(h:Q u s)
  (M:x ≠ "__name__":=by lk) (O:(x==("__debug__" : eU))=eM:=by lk):eV (fC X.prog X.w) X.A (gC (.Name x b) X.env) Q E s:=by
 let[C,N,F]:=B.mod.blt;exact qH B.ok.kind j (Calls.loadGlobal_builtin (by rw[B.ok.glob];exact B.mod.glob.keeps B.bk) L (by rw[B.ok.blt];exact N.keeps B.bk) ((F x M).trans S) h) O
def Xk{x:eU}{v:V}{u:eJ}(j:Gl X x)(L:X.mg x=g u)(r:Az v u)(F:(x==("__debug__" : eU))=eM:=by lk):PE X (.Name x b) (tC v):=
 λy y y H y B h=>Ev B j L [v,H,B,r,h] F
def KW{x:eU}{v:V}{u:eJ}(j:Gl X x)(F:X.mg x=U)(L:fz x=g u)(r:Az v u)(S:x ≠ "__name__":=by lk)(C:(x==("__debug__" : eU))=eM:=by lk):PE X (.Name x b) (tC v):=
 λy y y H y B h=>Fy B j F L [v,H,B,r,h] S C
variable {a b:gK} {ta tb:TE} {pos:nA}
def PC(X:Cx)(N:CmpOp)(a b:gK)(t:TE):Prop:=
 ∀(B:List (J×gS)) (s:eO) (M:St) (H:Hp) (Q:VK),Ak X B M H s->t M H Q ->
  eV (fC X.prog X.w) X.A (gC a X.env) (λv C=>eV (fC X.prog X.w) X.A (gC b X.env) (λu L=>eV (fC X.prog X.w) X.A (gN N v u) (EP X B M Q) X.xe L) X.xe C) X.xe s
inductive JB(x:V)(H:Hp)(Q:Bool->Hp->Prop):Prop
 |mk (c:Bool) (e:x=.bl c) (q:Q c H)
def tB(t:TE):TT:=λC H Q=>t C H λx B=>JB x B Q
def SA{t:TE}(h:PC X op a b t)(L:kK op b=eM:=by first|exact nobehind _ Y Y|rfl):PE X (.Compare a #[op] #[b] pos) t:=λC s M H Q B j=>wpAny_Compare1 (h C s M H Q B j) L
def FC{j}{t}(h:PC X j a b t)(P:kK j b=eM:=by first|exact nobehind _ Y Y|rfl):PT X (.Compare a #[j] #[b] pos) (tB t):=by
 intro O s R H Q M L;refine vZ (Ct (h O s R H _ M L) λv W P=>Ct P λu E C=>Ct C λc A N=>?_) P;let[x,T,F,S,B]:=N;let[d,rfl,q]:=B;cases S;exact iA [T,F,q]
def Bm{e}{t}(h:PE X e t)(S:∀j,vI e X.env j=(do let v <- j;kF e.pos;iY #[v] (truthy v)):=by intro _;rfl):PT X e (tB t):=by
 intro O s P H Q M L;refine isTrue_plain (Ct (h O s P H _ M L) λv B ⟨x,R,F,C,N⟩=>?_) (S _);let[d,rfl,q]:=N;cases C;exact iA [R,F,q]
variable {tA tB':TT} {rest:List gK}
def ZG(t u:TT):TT:=λC H Q=>t C H λc B=>if c=eP then u C B Q else Q eM B
def bJ(t u:TT):TT:=λC H Q=>t C H λc B=>if c=eP then Q eP B else u C B Q
def YU(t:TT):TT:=λC H Q=>t C H λc B=>Q (!c) B
def Mp(j:PT X a tA):PW X (.BoolOp .And #[a] pos) tA:=by
 intro L C s M H Q B h;refine isTrue_and (Ct (j C s M H Q B h) λc F e=>?_);cases c with
 |true=>exact isTrue_and_nil e
 |false=>exact e
def Ea(j:PT X a tA):PW X (.BoolOp .Or #[a] pos) tA:=by
 intro L C s M H Q B h;refine isTrue_or (Ct (j C s M H Q B h) λc F e=>?_);cases c with
 |false=>exact isTrue_or_nil e
 |true=>exact e
def Rj(L:PT X a tA)(S:PW X (.BoolOp .And (b::rest) pos) tB'):PW X (.BoolOp .And (a::b::rest) pos) (ZG tA tB'):=by
 intro C N s O H Q B h;refine isTrue_and (Ct (L N s O H _ B h) λc M ⟨P,j,F⟩=>?_);cases c with
 |true=>exact S C N M O P Q j F
 |false=>exact[P,j,F]
def Fb(L:PT X a tA)(S:PW X (.BoolOp .Or (b::rest) pos) tB'):PW X (.BoolOp .Or (a::b::rest) pos) (bJ tA tB'):=by
 intro C N s O H Q B h;refine isTrue_or (Ct (L N s O H _ B h) λc M ⟨P,j,F⟩=>?_);cases c with
 |true=>exact[P,j,F]
 |false=>exact S C N M O P Q j F
def Bt(j:PT X a tA):PT X (.UnaryOp .Not a pos) (YU tA):=by
 intro C s L H Q B h;exact isTrue_not (j C s L H (λc M=>Q (!c) M) B h)
def UI(ta tb:TE):TE:=λC H Q=>ta C H λx B=>JB x B λc B=>if c=eP then tb C B Q else Q (.bl eM) B
def ZB(ta tb:TE):TE:=λC H Q=>ta C H λx B=>JB x B λc B=>if c=eP then Q (.bl eP) B else tb C B Q
def VB(ta:TE):TE:=λC H Q=>ta C H λx B=>JB x B λc B=>Q (.bl (!c)) B
def Ho{j}{t:TE}(h:PE X a t):PE X (.BoolOp j #[a] pos) t:=λC s L H Q B F=>BoolOp_one (h C s L H Q B F)
def Jn(L:PE X a ta)(S:PE X (.BoolOp .And (b::rest) pos) tb):PE X (.BoolOp .And (a::b::rest) pos) (UI ta tb):=by
 intro O s P H Q M h;refine BoolOp_and (Ct (L O s P H _ M h) λv B N=>?_);let[x,R,F,C,j]:=N;let[c,rfl,j]:=j;cases C;refine iA ?_;cases c with
 |true=>exact S O B P R Q F j
 |false=>exact[.bl eM,R,F,I,j]
def NJ(L:PE X a ta)(S:PE X (.BoolOp .Or (b::rest) pos) tb):PE X (.BoolOp .Or (a::b::rest) pos) (ZB ta tb):=by
 intro O s P H Q M h;refine BoolOp_or (Ct (L O s P H _ M h) λv B N=>?_);let[x,R,F,C,j]:=N;let[c,rfl,j]:=j;cases C;refine iA ?_;cases c with
 |false=>exact S O B P R Q F j
 |true=>exact[.bl eP,R,F,I,j]
def CA(F:PE X a ta):PE X (.UnaryOp .Not a pos) (VB ta):=by
 intro N s O H Q C h;refine UnaryOp_ (Ct (F N s O H _ C h) λv M B=>?_);let[x,P,L,S,j]:=B;let[c,rfl,j]:=j;cases S;exact not_of (iA [.bl (!c),P,L,I,j])
def bK(t:TT)(ta tb:TE):TE:=λB H Q=>t B H λc C=>if c=eP then ta B C Q else tb B C Q
def Kp{c}(M:PT X c tA)(S:PE X a ta)(C:PE X b tb):PE X (.IfExp c a b pos) (bK tA ta tb):=by
 intro N s O H Q B h;refine wpAny_IfExp (Ct (M N s O H _ B h) λd L ⟨P,j,F⟩=>?_);cases d with
 |true=>exact S N L O P Q j F
 |false=>exact C N L O P Q j F
end
def Am(K:a')(H:Hp)(a:J)(xs:List V):Prop:=
 Rd H a (.lst xs) \/
  ∃(o:gS) (B:Array eJ) (n:Nat),K.lookup a=g o/\o.cls=.type "list"/\o.dict=U/\o.data=.seq B n/\B.size<=sizeLine/\Ap xs B.toList
def Bh(K:a')(H:Hp)(a:J)(xs:List V):Prop:=
 Rd H a (.tup xs) \/
  ∃(o:gS) (B:Array eJ) (n:Nat),K.lookup a=g o/\o.cls=.type "tuple"/\o.data=.seq B n/\B.size<=sizeLine/\Ap xs B.toList
def YZ:eJ->Option V
 |.none=>g .non
 |.bool b=>g (.bl b)
 |.int i _=>g (.int i)
 |.str x _=>g (.str x)
 |.bytes b _=>g (.byt b)
 |.float b _=>g (.flt b)
 |.ref a=>g (.ref a)
 |.type n=>g (.ty n)
 |_=>U
def Az.abs{x:V}{u:eJ}(r:Az x u):YZ u=g x:=by
 cases x with
 |non=>cases r;rfl
 |bl _=>cases r;rfl
 |int _=>let[t,rfl]:=r;rfl
 |str _=>let[t,rfl]:=r;rfl
 |byt _=>let[t,rfl]:=r;rfl
 |flt _=>let[t,rfl]:=r;rfl
 |ref _=>cases r;rfl
 |ty _=>cases r;rfl
def Az.inj{x y:V}{u:eJ}(r:Az x u)(q:Az y u):x=y:=gD (r.abs.symm.trans q.abs)
theorem Ap.inj:∀{xs ys} {us},Ap xs us->Ap ys us->xs=ys
 |_,_,_,.nil,.nil=>rfl
 |_,_,_,.cons r t,.cons j F=>by rw[r.inj j,Ap.inj t F]
section
variable {X:Cx} {pins:List (J×gS)} {σ:St} {H:Hp} {s:eO} {a:J} {xs ys:List V}
def Am.of{K}(h:H a=g (.lst xs)):Am K H a xs:=.inl (.inl h)
def Bh.of{K}(h:H a=g (.tup xs)):Bh K H a xs:=.inl (.inl h)
def Ak.list(B:Ak X pins σ H s)(h:Am X.K H a xs):∃j:List eJ,Ap xs j/\PlainL s.heap a j.toArray/\xs.length<=sizeLine:=by
 rcases h with h|⟨o,j,n,F,S,L,M,C,r⟩
 .let[z,j,n,r,e]:=h.ok B.hok
  exact[j,r,[_,n,e,I,I,I],z]
 .refine[j.toList,r,[o,n,B.kIn a o F,S,L,by simpa using M],?_]
  let e:=r.length;simp only[hH]at e
  lia
def Ak.tuple(B:Ak X pins σ H s)(h:Bh X.K H a xs):∃j:List eJ,Ap xs j/\tO s.heap a j.toArray/\xs.length<=sizeLine:=by
 rcases h with h|⟨o,j,n,F,L,C,S,r⟩
 .let[z,j,r,p]:=h.ok B.hok
  exact[j,r,p,z]
 .refine[j.toList,r,[o,B.kIn a o F,L,n,by simpa using C],?_]
  let e:=r.length;simp only[hH]at e
  lia
def Ak.list_inj(B:Ak X pins σ H s)(h:Am X.K H a xs)(h':Am X.K H a ys):xs=ys:=by
 let[j,r,[o,n,e,_,_,d],_]:=B.list h;let[N,S,[O,C,F,_,_,L],_]:=B.list h';rw[e]at F;cases F;rw[d]at L;injection L with M _;let:j=N:=by simpa using gF Array.toList M
 subst this;exact r.inj S
def Ak.tuple_inj(B:Ak X pins σ H s)(h:Bh X.K H a xs)(h':Bh X.K H a ys):xs=ys:=by
 let[j,r,[o,e,_,n,d],_]:=B.tuple h;let[N,S,[O,F,_,C,L],_]:=B.tuple h';rw[e]at F;cases F;rw[d]at L;injection L with M _;let:j=N:=by simpa using gF Array.toList M
 subst this;exact r.inj S
end
abbrev Cx.wish(X:Cx)(E:eJ->eO->Prop):Cx:={ X with xe:=E }
abbrev Cx.nox(X:Cx):Cx:=X.wish λx x=>False
def Cx.Ok.wish{X:Cx}(B:X.Ok)(E:eJ->eO->Prop):(X.wish E).Ok:=
 [B.mod,B.kind,B.glob,B.blt,B.above,B.inj,B.has,B.cab,B.hd,B.frames,B.stk,B.exf,B.bs,B.bsz,B.noex,B.exfs,B.funs,B.frf]
def Cx.Ok.unwish{X:Cx}{E:eJ->eO->Prop}(B:(X.wish E).Ok):X.Ok:=
 [B.mod,B.kind,B.glob,B.blt,B.above,B.inj,B.has,B.cab,B.hd,B.frames,B.stk,B.exf,B.bs,B.bsz,B.noex,B.exfs,B.funs,B.frf]
section
variable {X:Cx} {pins:List (J×gS)} {σ:St} {H:Hp} {s:eO} {E:eJ->eO->Prop}
def Ak.wish(B:Ak X pins σ H s)(E:eJ->eO->Prop):Ak (X.wish E) pins σ H s:=[B.ok.wish E,B.os,B.bare,B.base,B.loc,B.cell,B.free,B.freeC,B.pin,B.hok,B.len]
def Ak.unwish(B:Ak (X.wish E) pins σ H s):Ak X pins σ H s:=[B.ok.unwish,B.os,B.bare,B.base,B.loc,B.cell,B.free,B.freeC,B.pin,B.hok,B.len]
def SP.unwish{D:Jy}{f:Flow}{s':eO}(h:SP (X.wish E) pins D f s'):SP X pins D f s':=by
 cases f with
 |next=>let[j,C,B,q]:=h;exact[j,C,B.unwish,q]
 |brk=>let[j,C,B,q]:=h;exact[j,C,B.unwish,q]
 |cont=>let[j,C,B,q]:=h;exact[j,C,B.unwish,q]
 |ret u=>let[v,j,C,B,r,q]:=h;exact[v,j,C,B.unwish,r,q]
def PSs.nox{st}{t}(h:PSs X.nox st t):PSs X st t:=λpins s σ H D B j=>
 gI (h pins s σ H D (B.wish _) j) (λx x q=>q.unwish) λx x z=>fS z
end
section
variable {X:Cx} {st:gY} {rest:List gY} {t u:TS} {e:gK} {te:TE} {pos:nA}
def MD:TS:=λD B H=>D.nx B H
def GZ(t u:TS):TS:=λD B H=>t { D with nx:=u D } B H
def At:PSs X [] MD:=λx x C H x B h=>mV [C,H,B,h]
def Ac(N:PS X st t)(S:PSs X rest u):PSs X (st::rest) (GZ t u):=by
 intro C s M H D B h;refine wpAny_execs_cons (Ct (N C s M H { D with nx:=u D } B h) λf j q=>?_);cases f with
 |next=>
  let[F,O,L,q]:=q;exact S C j F O D L q
 |ret v=>exact q
 |brk=>exact q
 |cont=>exact q
def Ad(L:PS X st t):PSs X #[st] t:=by
 intro C s M H D B h;refine wpAny_execs_cons (Ct (L C s M H D B h) λf j q=>?_);cases f with
 |next=>exact mV q
 |ret v=>exact q
 |brk=>exact q
 |cont=>exact q
def Ak.quiet{pins:List (J×gS)}{s:eO}(B:Ak X pins b H s):interactive X.env=eM:=by simp[interactive,B.ok.kind]
def VJ(te:TE):TS:=λD B H=>te B H λx C=>D.nx B C
def Bk(F:PE X e te)(O:kY e U pos.line X.env=pure eM:=by rfl):PS X (.Expr e pos) (VJ te):=by
 intro M s N H D B h;exact wpAny_Expr_any (Ct (F M s N H _ B h) λv C ⟨x,P,j,S,L⟩=>[N,P,j,L]) B.quiet O
def YS(te:TE):TS:=λD B H=>te B H D.rt
def Ar(F:PE X e te):PS X (.Return (g e) pos) (YS te):=by
 intro M s N H D B h;exact wpAny_Return_some (Ct (F M s N H _ B h) λv C ⟨x,O,j,L,S⟩=>[x,N,O,j,L,S])
def aC(c:TT)(t u:TS):TS:=λD B H=>c B H λb C=>if b=eP then t D B C else u D B C
def Bj{c}{a b}{P}(M:PT X c P)(S:PSs X a t)(C:PSs X b u):PS X (.If c a b pos) (aC P t u):=by
 intro N s O H D B h;refine wpAny_If (Ct (M N s O H _ B h) λd L ⟨Q,j,F⟩=>?_);cases d with
 |true=>exact S N L O Q D j F
 |false=>exact C N L O Q D j F
def QR:TS:=λx x x=>False
def Fn:PS X st QR:=λx x x x x x h=>h.elim
end
abbrev TG:=V->St->Hp->(St->Hp->Prop)->Prop
abbrev MZ:=List V->St->Hp->(St->Hp->Prop)->Prop
def PG(X:Cx)(B:gK)(t:TG):Prop:=
 ∀(C:List (J×gS)) (s:eO) (M:St) (H:Hp) (v:V) (u:eJ) (Q:St->Hp->Prop),Ak X C M H s->Az v u->t v M H Q ->
  eV (fC X.prog X.w) X.A (lF B X.env u) (λx O=>∃L N,Ak X C L N O/\Q L N) X.xe s
def SL(X:Cx)(R:List gK)(t:MZ):Prop:=
 ∀(B:List (J×gS)) (s:eO) (L:St) (H:Hp) (O:List V) (M:List eJ) (Q:St->Hp->Prop),Ak X B L H s->Ap O M->t O L H Q ->
  eV (fC X.prog X.w) X.A (assignInOrder ((jN R X.env).map (·.2)) M) (λx P=>∃C N,Ak X B C N P/\Q C N) X.xe s
abbrev WL:=V->V->V->Hp->(Hp->Prop)->Prop
def VX(X:Cx)(t:WL):Prop:=
 ∀(B:List (J×gS)) (s:eO) (C:St) (H:Hp) (o i v:V) (L M u:eJ) (Q:Hp->Prop),Ak X B C H s->Az o L->Az i M->Az v u->t o i v H Q ->
  eV (fC X.prog X.w) X.A (setItem L M u) (λx O=>∃N,Ak X B C N O/\Q N) X.xe s
section
variable {X:Cx} {pos:nA}
def Dx(i:Nat):TG:=λv B H Q=>Q (B.set i (g v)) H
def Wu{i:Nat}{x:eU}(j:X.N.Nodup)(M:X.N[i]?=g x)(L:NP X.env.scope x)(S:X.fn x=eP\/X.env.scope.names.lookup x=g .local:=by first|exact .inl I|exact .inr I|assumption):PG X (.Name x pos) (Dx i):=by
 intro C s N H v u Q B r h;exact pU (Sa B j M L r (λO F=>[_,H,F,h]) S)
def Z7:MZ:=λB C H Q=>B=[]/\Q C H
def Im(t:TG)(u:MZ):MZ:=λM C H Q=>∃v r,M=v::r/\t v C H λB L=>u r B L Q
def Ds:SL X [] Z7:=by
 intro C s L H N M Q B r h;let[e,h]:=h;subst e;cases r;exact assignInOrder_nil [L,H,B,h]
def Bf{e}{es}{t}{u}(T:PG X e t)(L:SL X es u)
  (R:(jN (e::es) X.env).map (·.2)=lF e X.env::(jN es X.env).map (·.2):=by rfl):SL X (e::es) (Im t u):=by
 intro O s W H K b Q M r h;let[v,E,j,h]:=h;subst j;cases r with
 |cons r S=>
  rw[R];refine assignInOrder_cons (Ct (T O s W H _ _ _ M r h) λx B C=>?_);let[P,A,F,N]:=C;exact L O B P A _ _ Q F S N
inductive O9(K:a')(n:Nat)(t:MZ)(v:V)(σ:St)(H:Hp)(Q:St->Hp->Prop):Prop
 |mk (a:J) (xs:List V) (e:v=.ref a) (h:Bh K H a xs) (l:xs.length=n) (q:t xs σ H Q)
def GJ{es:List gK}{k:Nat}{t:MZ}{n:Nat}(S:X.calm=eP)(h:SL X es t)
  (A:(jN es X.env).length=n:=by rfl) (P:(jN es X.env).findIdx? (·.1)=U:=by rfl):PG X (.Tuple es k pos) (O9 X.K n t):=by
 intro O s R H v u Q M r j;let[a,E,L,c,K,j]:=j;subst L;cases r;let[N,F,B,d]:=M.tuple c;refine assign_Tuple_tuple (M.ok.hd S) B (by simp[A,<- K,F.length]) P λW T=>?_;let C:Ak X O R H { s with heap:=W }:=M.kept (t':=s.toks) λb o e=>T b o (fj (dn e)) e;exact h O _ R H E _ Q C (by simpa using F) j
def ZD(O L:TE)(t:WL):TG:=λv B H Q=>O B H λo M=>L B M λi C=>t o i v C λN=>Q B N
def DR{o i}{R S}{t}(q:PE X o R)(w:PE X i S)(T:VX X t)
  (C:∀v,lF (.Subscript o i pos) X.env v=(do
   let j <- iY #[v] (gC o X.env)
   let F <- iY #[v,j] (gC i X.env)
   kF pos
   iY #[v,j,F] (setItem j F v)
   release #[v,j,F] []):=by intro _;rfl):PG X (.Subscript o i pos) (ZD R S t):=by
 intro O s P H v u Q B r h;rw[C];refine a_ (fV (Ct (q O s P H _ B h) λj d L=>?_));let[x,K,b,l,f]:=L;refine a_ (fV (Ct (w O d P K _ b f) λF c L=>?_));let[y,E,M,k,W]:=L;refine a_ (iB (a_ (fV (Ct (T O c P E x y v j F u _ M l k r W) λa z ⟨p,N,A⟩=>?_))));exact wpAny_release [P,p,N,A]
def P6(M:TE)(B:TG):TS:=λD C H=>M C H λx L=>B x C L D.nx
def Xu{Q e}{R}{M}(L:PE X e R)(F:PG X Q M)(W:swapsWithSole #[Q] e pos.line X.env=pure eM:=by rfl)(A:swappedStores #[Q] e X.env=pure U:=by rfl)
  (E:(jN #[Q] X.env).map (·.2)=#[lF Q X.env]:=by rfl):PS X (.Assign #[Q] e pos) (P6 R M):=by
 intro P s T H D N h;refine wpAny_Assign_stores (Ct (L P s T H _ N h) λv B C=>?_) W A;let[x,K,j,S,O]:=C;rw[E];exact Ct (F P B T K x v _ j S O) λy b q=>q
def Yn{i:Nat}{x}{e}{Q}{O}(S:X.N.Nodup)(K:X.N[i]?=g x)(N:NP X.env.scope x)(L:PE X e Q)(R:kY e (g (.Name x O)) pos.line X.env=pure eM:=by rfl)(T:X.fn x=eP\/X.env.scope.names.lookup x=g .local:=by first|exact .inl I|exact .inr I|assumption) :
  PS X (.Assign #[.Name x O] e pos) (P6 Q (Dx i)):=by
 intro P s W H D M h;refine wpAny_Assign_Name (Ct (L P s W H _ M h) λv b A=>?_) R;let[y,E,F,C,B]:=A;exact Sa F S K N C (λc j=>[_,E,j,B]) T
end
structure It where
 go:Nat->Hp->Prop
 yld:Nat->Hp->V->Hp->Prop
 stop:Nat->Hp->Prop
def Hs(X:Cx)(pins:List (J×gS))(H:Hp)(b:J):Prop:=
 H b=U/\b≠X.env.locals/\b∉X.fs/\(b∈X.ex\/X.s₀.heap.objs.size<=b)/\(∀x c,X.env.cells.lookup x=g c->c≠b)/\∀p∈X.pn++pins,p.1≠b
def Ak.fpOk{X:Cx}{pins:List (J×gS)}{H H':Hp}{s:eO}{b:J}(B:Ak X pins d H s)(j:⇑s<=b)(F:H' b=U):Hs X pins H' b:=by
 refine[F,ny (k_ B.lt j),B.nofs j,.inr (fO B.sz j),λx c e z=>?_,λp C z=>?_]
 .let[v,q]:=B.cell x c e
  exact fA (k_ q.lt (by rw[z];exact j)) (nS _)
 .exact fA (k_ (dn (B.pin p C).1) (by rw[z];exact j)) (nS _)
structure Tq(P:eY)(w:fF)(K:a')(tg:gK)(F:It)(fp:List J)(it:J)(tn:Nat->fK->Prop):Prop where
 mem:it∈fp
 obj:∀i h,tn i h->∀b∈fp,∃o,h.get? b=g o/\∀v,o.data≠.cell v
 keep:∀i h h',tn i h->(∀b∈fp,∀o,h.get? b=g o->h'.get? b=g o)->tn i h'
 item:∀(X:Cx),X.prog=P->X.w=w->X.K=K->X.calm=eP->∀(i:Nat) (pins:List (J×gS)) (s:eO) (σ:St) (H:Hp) (E:eJ->eO->Prop),Ak X pins σ H s->(∀b∈fp,Hs X pins H b)->tn i s.heap->F.go i H ->
  eV (fC P w) X.A (kQ (.ref it)) (λr s1=>∃u,r=g u /\
   eV (fC P w) X.A (mX tg (.ref it) u) (λ_ s2=>∃x H',Ak X pins σ H' s2/\Az x u/\F.yld i H x H'/\tn (i+1) s2.heap/\∀b∈fp,H' b=U) E s1) E s
 done:∀(X:Cx),X.prog=P->X.w=w->X.K=K->X.calm=eP->∀(i:Nat) (pins:List (J×gS)) (s:eO) (σ:St) (H:Hp) (E:eJ->eO->Prop),Ak X pins σ H s->(∀b∈fp,Hs X pins H b)->tn i s.heap->F.stop i H ->
  eV (fC P w) X.A (kQ (.ref it)) (λr s1=>r=U/\Ak X pins σ H s1) E s
 self:∀(A:fL) (i:Nat) (s:eO) (Q:eJ->eO->Prop) (E:eJ->eO->Prop),tn i s.heap->Q (.ref it) s->eV (fC P w) A (sQ (.ref it)) Q E s
abbrev TI:=St->Hp->(It->Hp->Prop)->Prop
def aU(X:Cx)(pins:List (J×gS))(P:St)(Q:gK)(R:It->Hp->Prop)(C:eJ)(M:eO):Prop:=
 ∃(O:J) (L:List J) (N:Nat->fK->Prop) (B:It) (H:Hp),C=.ref O/\Ak X pins P H M/\Tq X.prog X.w X.K Q B L O N/\N 0 M.heap/\(∀b∈L,Hs X pins H b)/\R B H
def PI(X:Cx)(O C:gK)(N:TI):Prop:=
 ∀(B:List (J×gS)) (s:eO) (L:St) (H:Hp) (R:It->Hp->Prop),Ak X B L H s->N L H R ->
  eV (fC X.prog X.w) X.A (gC C X.env) (λv M=>eV (fC X.prog X.w) X.A (sQ v) (aU X B L O R) X.xe M) X.xe s
def Yv{M}{A}{E:eJ->eO->Prop}{s}{C}{it}{u}{o}{n}{vs}{Q:Unit->eO->Prop}(N:s.heap.get? it=g o)(H:o.cls=.type n)(L:o.data=.fields vs)
  (O:#["enumerate","zip","dict_itemiterator","dict_reverseitemiterator","odict_iterator","itertools.zip_longest","itertools.pairwise"].contains n=eM) (B:Q () s):eV M A (mX C (.ref it) u) Q E s:=by
 unfold mX;cases C<;>first
  |exact b_ B
  | (cases u<;>first
    |exact b_ B
    | (refine a_ (wpAny_load N ?_)
       rw[H,L];show eV M A (if (#["enumerate","zip","dict_itemiterator","dict_reverseitemiterator","odict_iterator","itertools.zip_longest","itertools.pairwise"].contains n&&vs[0]?==g (fY _))=eP then _ else _) Q E s;rw[eQ (by intro h;rw[O,qP]at h;cases h)];exact b_ B))
def GT(K:a')(a:J):It:=
 [λi H=>∃B x,Am K H a B/\B[i]?=g x,λi H x C=>C=H/\∀B,Am K H a B->B[i]?=g x,λi H=>∃B,Am K H a B/\B.length<=i]
def IH(lo:Int)(n:Nat):It:=[λi y=>i<n,λi H x B=>B=H/\x=.int (lo+i),λi y=>n<=i]
def Z8{P}{w}{K}{tg}(a it:J):Tq P w K tg (GT K a) #[it] it (λi h=>h.IsListIter it a i) where
 mem:=by simp
 obj:=λi h O b j=>by
  let e:b=it:=by simpa using j
  subst e;let[o,e,c,d]:=O;exact[o,e,λv z=>by rw[d]at z;cases z]
 keep:=λi h R O k=>O.at λo e=>k it zZ o e
 item:=by
  intro X N q A t i Q s r H E B S O T;subst N q A;let[y,x,L,l]:=T;let[aa,f,p,n]:=B.list L;let[u,hu,ru]:=f.get l;let[f0,f1,f2,M,W,C]:=S it zZ;refine vB O p.isList (x:=u) (by simpa using hu) λR F sb=>?_;let I1:Ak X Q r H { s with heap:=R }:=B.turned (t':=s.toks) (λb o j e=>(sb.2 b j).trans e) f0 f1 M W C;let[o,e,c,d]:=id F;exact[u,I,Yv (s:={ s with heap:=R }) e c d Y [x,H,I1,ru,[rfl,λys hy=>by rw[B.list_inj hy L];exact l],F,λb j=>(S b j).1]]
 done:=by
  intro X N q A t i Q s r H E B S O T;subst N q A;let[y,L,l]:=T;let[aa,f,p,n]:=B.list L;let[f0,f1,f2,M,W,C]:=S it zZ;let hl:=f.length;exact vY (B.ok.hd t) O p.isList (by simp;lia) λR m=>[I,B.turned (t':=s.toks) (λb o j e=>m b o j e) f0 f1 M W C]
 self:=λ_ _ _ _ _ O h=>wpAny_pyIter_listiter O h
def L1{P}{w}{K}{y}(it:J)(lo:Int)(n:Nat):Tq P w K y (IH lo n) #[it] it (λi h=>IsRangeIter h it (lo+(i:Nat)*1) ((n:Int)-(i:Nat)) 1) where
 mem:=by simp
 obj:=λi h O b j=>by
  let e:b=it:=by simpa using j
  subst e;exact[_,O,λv z=>by
   let p:uD _=pJ v:=z;cases p]
 keep:=λi h R O k=>k it zZ _ O
 item:=by
  intro X c d N M i Q s l H E B L O C;subst c d N;let[f0,f1,m,A,T,S]:=L it zZ;let W:=Walks.range (prog:=X.prog) (w:=X.w) (B.ok.hd M) it lo 1 n;refine W.item i s _ _ C O λv R f u F kk=>?_;let[t,rfl]:=u;let r:Ak X Q l H { s with heap:=R,toks:=f }:=B.turned (λb o j e=>kk b o (by simpa using j) e) f0 f1 A T S;refine[_,I,Yv (s:={ s with heap:=R,toks:=f }) (n:="range_iterator") F rfl rfl Y [.int (lo+i),H,r,[t,?_],[rfl,rfl],F,λb j=>(L b j).1]];rw[Int.mul_one]
 done:=by
  intro X c d N M i Q s l H E B L O C;subst c d N;let[f0,f1,m,A,T,S]:=L it zZ;exact wpAny_pyNext_range_end (B.ok.hd M) O (by let:n<=i:=C;lia) λR q=>[I,B.turned (t':=s.toks) (λb o j e=>q b o j e) f0 f1 A T S]
 self:=λx x x x x O h=>wpAny_pyIter_rangeiter O h
section
variable {X:Cx} {tg:gK}
def CP(K:a')(L:TE):TI:=λC H R=>L C H λx B=>∃a,x=.ref a/\(∃M,Am K B a M)/\R (GT K a) B
def JA{l}{P}(A:PE X l P):PI X tg l (CP X.K P):=by
 intro O s T H R M h;refine Ct (A O s T H _ M h) λv F B=>?_;let[x,W,j,C,Q]:=B;let[a,e,[K,N],q]:=Q;subst e;cases C;let[L,E,p,c]:=j.list N;refine pT p.isList ?_;refine[⇑F,#[⇑F],_,_,W,I,j.kept (t':=F.toks) λb o e=>dv _ e,Z8 a _,[_,h_ _ I,I,I],λb S=>?_,q];let e:b=⇑F:=by simpa using S
 subst e;exact j.fpOk (b' _) (j.hok.fresh (b' _))
def GK{pins:List (J×gS)}{s:eO}{R:It->Hp->Prop}{E:eJ->eO->Prop}{lo O:Int}{t u v:vN}{tk:Nat}(B:Ak X pins c H s)(P : -(2^62)<=lo)(N:lo<2^62)(C : -(2^62)<=O)(S:O<2^62)
  (q:R (IH lo (O-lo).toNat) H):eV (fC X.prog X.w) X.A (sQ (.ref ⇑s)) (aU X pins c tg R) E { s with heap:=s.heap.push { cls:=.type "range",data:=.fields #v[.int lo t,.int O u,.int 1 v] },toks:=tk }:=by
 refine wpAny_pyIter_range (IsRange.new ..) (small_one P N C S) ?_;let j:Ak X pins c H { s with heap:=s.heap.push { cls:=.type "range",data:=.fields #v[.int lo t,.int O u,.int 1 v] },toks:=tk }:=B.kept λb o e=>dv _ e;refine[(s.heap.push { cls:=.type "range",data:=.fields #v[.int lo t,.int O u,.int 1 v] }).objs.size,#[(s.heap.push { cls:=.type "range",data:=.fields #v[.int lo t,.int O u,.int 1 v] }).objs.size],_,_,H,I,
  j.kept (t':=tk) λb o e=>dv _ e,L1 _ lo (O-lo).toNat,?_,λb L=>?_,q]
 .have F:lo+((0:Nat):Int)*1=lo:=by simp
  let M:(((O-lo).toNat:Nat):Int)-((0:Nat):Int)=Builtin.Range.rangeSize lo O 1:=by rw[rangeSize_one];split<;>lia
  show IsRangeIter _ _ (lo+((0:Nat):Int)*1) ((((O-lo).toNat:Nat):Int)-((0:Nat):Int)) 1;rw[F,M];exact h_ _ I
 .have e:b=(s.heap.push { cls:=.type "range",data:=.fields #v[.int lo t,.int O u,.int 1 v] }).objs.size:=by simpa using L
  subst e;exact j.fpOk (b' _) (j.hok.fresh (b' _))
def WH(L:TA):TI:=λC H R=>L C H λM B=>∃j:Int,M=#[.int j]/\-(2^62)<=j/\j<2^62/\R (IH 0 j.toNat) B
def Gb{a:gK}{p O:nA}(C:Gl X "range")(T:X.mg "range"=U)(L:PA X #[a] b)(Q:eX #[a] X.env=#[(eM,gC a X.env)]:=by rfl):PI X tg (.Call (.Name "range" p) #[a] [] O) (WH b):=by
 intro P s A H R M h;refine Call_ (Fy M C T boot_range (gG (Ct (L O P s A H _ M h) λf K E=>?_) Q I));let[c,d,S,N,F]:=E;let[j,e,F,W,q]:=F;subst e;cases N with
 |cons r B=>
  cases B
  let[t,rfl]:=r;exact call_range_1 (GK S Z Z F W (by simpa using q))
def ZW(R:TI)(B:TG)(E:TS):TS:=λD L H=>R L H λC A=>∃W:Nat->Nat->St->Hp->Prop,(∃m,W 0 m L A)/\∀i m L H,W i m L H ->
 (C.stop i H/\D.nx L H)\/(C.go i H/\∃N:St->Hp->Prop,(∀O M,N O M->∃Q,Q<m/\W (i+1) Q O M)/\∀x M,C.yld i H x M->B x L M λP T=>E { D with nx:=N,ct:=N,bk:=D.nx } P T)
def Rh(B:List J)(h:fK):List (J×gS):=B.filterMap λb=>(h.get? b).map λo=>(b,o)
def Jq{h:fK}{b:J}{o:gS}(j:b∈c)(e:h.get? b=g o):(b,o)∈Rh c h:=List.mem_filterMap.mpr [b,j,by rw[e];rfl]
def Z0{h:fK}{p:J×gS}(B:p∈Rh c h):p.1∈c/\h.get? p.1=g p.2:=by
 let[b,F,e]:=List.mem_filterMap.mp B;cases q:h.get? b with
 |none=>rw[q]at e;cases e
 |some o=>
  rw[q]at e;let j:(b,o)=p:=gD e;subst j;exact[F,q]
def Ak.pinned{pins:List (J×gS)}{s:eO}(B:Ak X pins f H s)(L:∀b∈c,Hs X pins H b)(C:∀b∈c,∃o,s.heap.get? b=g o/\∀v,o.data≠.cell v):Ak X (pins++Rh c s.heap) f H s:=
 B.pins_of λp M=>(gw.mp M).elim (λz=>B.pin p (mu _ z)) λz=>by
  let[F,e]:=Z0 z;let[f0,f1,S,_]:=L p.1 F;let[o,j,d]:=C p.1 F;rw[e]at j;cases j;exact[e,f0,f1,S,d]
def Ak.unpinned{pins pl:List (J×gS)}{s:eO}(B:Ak X (pins++pl) b H s):Ak X pins b H s:=B.pins_of λp C=>B.pin p (mu _ (vv _ C))
def Cj(l:PassesOwn (fC X.prog X.w) X.A X.env X.xe)(hc:X.calm=eP)(hi:PI X tg iter wi)(hg:PG X tg c)(C:PSs X body tb)
  (hs:∀x,lN iter X.env x=pure x:=by intro _;rfl):PS X (.For tg iter body [] a0) (ZW wi c tb):=by
 intro Q s σ H D B h;refine wpAny_For (Ct (hi Q s σ H _ B h) λv s1 h1=>Ct h1 λai s2 h2=>?_) hs;let[it,k,tn,P,H2,e,I2,T,af,f2,W,[m0,w0],ad]:=h2;subst e;let j:∀{E:Hp},(∀b∈k,E b=U)->∀b∈k,Hs X Q E b:=λhn b C=>[hn b C,(f2 b C).2];refine codeAny_forLoop_any (λn s'=>∃i A E,Ak X Q A E s'/\tn i s'.heap/\(∀b∈k,E b=U)/\W i n A E) ?_ m0 [0,σ,H2,I2,af,λb C=>(f2 b C).1,w0];rintro n a ⟨i,R,q,I3,ab,ac,w3⟩;rcases ad i n R q w3 with ⟨ae,qn⟩|⟨go,N,hN,K⟩
 .refine kP l (Ct (T.done X I I I hc i Q a R q X.xe I3 (j ac) ab ae) λr s4 ⟨w,I4⟩=>?_)
  subst w;exact mV [R,q,I4,qn]
 .refine kP l (Ct (T.item X I I I hc i Q a R q X.xe I3 (j ac) ab go) λr s4 ⟨u,w,h4⟩=>?_)
  subst w;refine kP l (Ct h4 λ_ s5 ⟨x,H5,I5,r5,y5,z,ah⟩=>?_);let ag:=I5.pinned (j ah) (T.obj _ _ z);refine kP l (Ct (hg _ s5 R H5 x u _ ag r5 (K x H5 y5)) λ_ s6 ⟨t,H6,I6,q6⟩=>?_);refine kP l (Ct (C _ s6 t H6 _ I6 q6) λf y M=>?_);let O:∀{S:St} {F:Hp},Ak X (Q++Rh k s5.heap) S F y->N S F->∃m,m<n/\∃i A E,Ak X Q A E y/\tn i y.heap/\(∀b∈k,E b=U)/\W i m A E:=λ{S F} L p=>by
   let[m',hm,w7]:=hN S F p;refine[m',hm,i+1,S,F,L.unpinned,T.keep _ _ _ z λb C o e=>(L.pin (b,o) (mu _ (mu _ (Jq C e)))).1,λb C=>?_,w7];let[o,e,d]:=T.obj _ _ z b C;exact(L.pin (b,o) (mu _ (mu _ (Jq C e)))).2.1
  cases f with
  |next=>let[S,F,L,p]:=M;exact O L p
  |cont=>let[S,F,L,p]:=M;exact O L p
  |brk=>let[S,F,L,M]:=M;exact[S,F,L.unpinned,M]
  |ret v=>let[x7,S,F,L,r7,M]:=M;exact[x7,S,F,L.unpinned,r7,M]
end
def Fq{K:a'}{a:J}{xs:List V}{M:TG}{Q:TS}{D:Jy}{P:St}{H:Hp}(j:Nat->St->Hp->Prop)(T:j 0 P H)(E:∀i P H,i<=xs.length->j i P H->Am K H a xs)
  (R:∀i x P H,xs[i]?=g x->j i P H->M x P H λC L=>Q { D with nx:=j (i+1),ct:=j (i+1),bk:=D.nx } C L) (X:∀P H,j xs.length P H->D.nx P H) :
  ∃W:Nat->Nat->St->Hp->Prop,(∃m,W 0 m P H)/\∀i m P H,W i m P H ->
   ((GT K a).stop i H/\D.nx P H)\/((GT K a).go i H/\∃N:St->Hp->Prop,(∀S H',N S H'->∃O,O<m/\W (i+1) O S H')/\∀x H',(GT K a).yld i H x H'->M x P H' λC L=>Q { D with nx:=N,ct:=N,bk:=D.nx } C L):=by
 refine[λi m P H=>m=xs.length-i/\i<=xs.length/\j i P H,[xs.length,zZ,de _,T],?_];rintro i m P H ⟨rfl,A,p⟩;let q:=E i P H A p;by_cases F:i<xs.length
 .refine .inr [[xs,xs[i],q,by simp[F]],j (i+1),λS H' B=>[xs.length-(i+1),Z,I,F,B],λx H' y=>?_]
  let[e,y]:=y;subst e;exact R i x P _ (y xs q) p
 .have e:i=xs.length:=by lia
  subst e;exact .inl [[xs,q,b' _],X P H p]
def Ky{lo:Int}{n:Nat}{M:TG}{Q:TS}{D:Jy}{P:St}{H:Hp}(j:Nat->St->Hp->Prop)(T:j 0 P H)
  (R:∀i P H,i<n->j i P H->M (.int (lo+i)) P H λC L=>Q { D with nx:=j (i+1),ct:=j (i+1),bk:=D.nx } C L) (X:∀P H,j n P H->D.nx P H) :
  ∃W:Nat->Nat->St->Hp->Prop,(∃m,W 0 m P H)/\∀i m P H,W i m P H ->
   ((IH lo n).stop i H/\D.nx P H)\/((IH lo n).go i H/\∃N:St->Hp->Prop,(∀S H',N S H'->∃O,O<m/\W (i+1) O S H')/\∀x H',(IH lo n).yld i H x H'->M x P H' λC L=>Q { D with nx:=N,ct:=N,bk:=D.nx } C L):=by
 refine[λi m P H=>m=n-i/\i<=n/\j i P H,[n,zZ,de _,T],?_];rintro i m P H ⟨rfl,A,p⟩;by_cases F:i<n
 .refine .inr [F,j (i+1),λS H' B=>[n-(i+1),Z,I,F,B],λx H' y=>?_]
  let[e,y]:=y;subst e y;exact R i P _ F p
 .have e:i=n:=by lia
  subst e;exact .inl [b' _,X P H p]
abbrev R2:=V->V->Hp->VK->Prop
def Ko(X:Cx)(f:eJ->eJ->rV eJ)(r:R2):Prop:=
 ∀(B:List (J×gS)) (s:eO) (C:St) (H:Hp) (x y:V) (v u:eJ) (Q:VK),Ak X B C H s->Az x v->Az y u->r x y H Q ->
  eV (fC X.prog X.w) X.A (f v u) (EP X B C Q) X.xe s
def YN(X:Cx)(f:eJ->rV eJ)(r:V->Hp->VK->Prop):Prop:=
 ∀(B:List (J×gS)) (s:eO) (C:St) (H:Hp) (x:V) (v:eJ) (Q:VK),Ak X B C H s->Az x v->r x H Q ->
  eV (fC X.prog X.w) X.A (f v) (EP X B C Q) X.xe s
def Fm(X:Cx)(f:eJ)(r:List V->Hp->VK->Prop):Prop:=
 ∀(B:List (J×gS)) (s:eO) (C:St) (H:Hp) (M:List V) (L:List eJ) (Q:VK),Ak X B C H s->Ap M L->r M H Q ->
  eV (fC X.prog X.w) X.A (call f L) (EP X B C Q) X.xe s
def aL(X:Cx)(r:V->Hp->(Bool->Hp->Prop)->Prop):Prop:=
 ∀(B:List (J×gS)) (s:eO) (C:St) (H:Hp) (x:V) (v:eJ) (Q:Bool->Hp->Prop),Ak X B C H s->Az x v->r x H Q ->
  eV (fC X.prog X.w) X.A (truthy v) (TP X B C Q) X.xe s
def MU(r:R2)(N M:TE):TE:=λB H Q=>N B H λx L=>M B L λy C=>r x y C Q
def bO(r:V->Hp->VK->Prop)(L:TE):TE:=λC H Q=>L C H λx B=>r x B Q
inductive rI(C:Int->Int->Prop)(F:Int->Int->V)(x y:V)(H:Hp)(Q:VK):Prop
 |mk (i j:Int) (e:x=.int i) (e':y=.int j) (c:C i j) (q:Q (F i j) H)
inductive MP(F:Int->Int->V)(x y:V)(H:Hp)(Q:VK):Prop
 |mk (i j:Int) (e:x=.int i) (e':y=.int j) (q:Q (F i j) H)
inductive rU(F:Int->V)(x:V)(H:Hp)(Q:VK):Prop
 |mk (i:Int) (e:x=.int i) (q:Q (F i) H)
section
variable {X:Cx} {a b:gK} {ta tb:TE} {pos:nA}
def OR(S:PE X a ta)(d:PE X b tb){pins:List (J×gS)}{s:eO}{R:V->V->Hp->Prop}(B:Ak X pins c H s)
  (h:ta c H λx T=>tb c T λy j=>R x y j) {Q:eJ->eO->Prop} {f:eJ->eJ->rV eJ}
  (M:∀v u F x y j,Ak X pins c j F->Az x v->Az y u->R x y j->eV (fC X.prog X.w) X.A (f v u) Q X.xe F) :
  eV (fC X.prog X.w) X.A (gC a X.env) (λv O=>eV (fC X.prog X.w) X.A (gC b X.env) (λu P=>eV (fC X.prog X.w) X.A (f v u) Q X.xe P) X.xe O) X.xe s:=by
 refine Ct (S pins s c H _ B h) λv W ⟨x,T,C,E,A⟩=>?_;refine Ct (d pins W c T _ C A) λu F ⟨y,j,L,N,K⟩=>?_;exact M v u F x y j L E N K
def As{r:R2}(S:Ko X (jD op) r)(F:PE X a ta)(C:PE X b tb):PE X (.BinOp a op b pos) (MU r ta tb):=by
 intro O s R H Q M h;exact wpAny_BinOp (OR F C M h λv u N x y L j B P q=>S O N R L x y v u Q j B P q)
def Sw{r:V->Hp->VK->Prop}(M:YN X (unaryOp op) r)(j:PE X a ta):PE X (.UnaryOp op a pos) (bO r ta):=by
 intro N s O H Q B h;exact UnaryOp_ (Ct (j N s O H _ B h) λv C ⟨x,P,F,L,S⟩=>M N C O P x v Q F L S)
def YB{f:eJ->eJ->rV eJ}{C:Int->Int->Prop}{O:Int->Int->Int}
  (F:∀(i j:Int) (t u:vN) (s:eO) (Q:eJ->eO->Prop) (E:eJ->eO->Prop),C i j->Q (.int (O i j) s.toks) { s with toks:=s.toks+1 }->eV (fC X.prog X.w) X.A (f (.int i t) (.int j u)) Q E s) :
  Ko X f (rI C λi j=>.int (O i j)):=by
 intro P s R H x y v u Q B N M h;let[i,j,rfl,rfl,L,q]:=h;let[t,rfl]:=N;let[S,rfl]:=M;exact F i j t S s _ _ L [.int (O i j),H,B.tok _,[_,I],q]
def UX{f:eJ->eJ->rV eJ}{M:Int->Int->Int}
  (F:∀(i j:Int) (t u:vN) (s:eO) (Q:eJ->eO->Prop) (E:eJ->eO->Prop),Q (.int (M i j) s.toks) { s with toks:=s.toks+1 }->eV (fC X.prog X.w) X.A (f (.int i t) (.int j u)) Q E s) :
  Ko X f (MP λi j=>.int (M i j)):=by
 intro N s O H x y v u Q B L C h;let[i,j,rfl,rfl,q]:=h;let[t,rfl]:=L;let[S,rfl]:=C;exact F i j t S s _ _ [.int (M i j),H,B.tok _,[_,I],q]
def KS{f:eJ->eJ->rV eJ}{M:Int->Int->Bool}
  (F:∀(i j:Int) (t u:vN) (s:eO) (Q:eJ->eO->Prop) (E:eJ->eO->Prop),Q (.bool (M i j)) s->eV (fC X.prog X.w) X.A (f (.int i t) (.int j u)) Q E s) :
  Ko X f (MP λi j=>.bl (M i j)):=by
 intro N s O H x y v u Q B L C h;let[i,j,rfl,rfl,q]:=h;let[t,rfl]:=L;let[S,rfl]:=C;exact F i j t S s _ _ [.bl (M i j),H,B,I,q]
def ZX(i j:Int):Prop:=0<j/\j<1073741824
def ZV(i j:Int):Prop:=0<=j/\j<=1000000/\i.natAbs<2^64
def eD(i j:Int):Prop:=(-(2^64)<i/\i<2^64)\/(-(2^64)<j/\j<2^64)
def eD.ok{i j:Int}(h:eD i j):IntMulOk i j:=by
 rcases h with ⟨B,F⟩|⟨B,F⟩
 .exact .of_left (intBits_le_64 B F)
 .exact .of_right (intBits_le_64 B F)
def Co:Ko X (jD .Add) (MP λi j=>.int (i+j)):=UX λx x x x x x x q=>add_int q
def Fi:Ko X (jD .Sub) (MP λi j=>.int (i-j)):=UX λx x x x x x x q=>sub_int q
def Ga:Ko X (jD .Mult) (rI eD λi j=>.int (i*j)):=YB λx x x x x x x F q=>mul_int q F.ok
def Ew:Ko X (jD .FloorDiv) (rI ZX λi j=>.int (i/j)):=YB λi j x x x x x F q=>by
 let B:(0:Int)<j:=F.1;let L:j<1073741824:=F.2;exact floordiv_int Z (by rw[Int.fdiv_eq_ediv_of_nonneg i Z];exact q) (.inl (PyProof.noPylong_small Z))
def De:Ko X (jD .Mod) (rI (λx j=>0<j) λi j=>.int (i%j)):=YB λi j x x x x x F q=>by
 let B:(0:Int)<j:=F;exact mod_int' Z (by rw[Int.fmod_eq_emod_of_nonneg i Z];exact q)
def Hj:Ko X (jD .Pow) (rI ZV λi j=>.int (i^j.toNat)):=YB λx x x x x x x F q=>pow_int_small F.1 F.2.1 F.2.2 q
def bS{f:eJ->rV eJ}{C:Int->Int}
  (j:∀(i:Int) (t:vN) (s:eO) (Q:eJ->eO->Prop) (E:eJ->eO->Prop),Q (.int (C i) s.toks) { s with toks:=s.toks+1 }->eV (fC X.prog X.w) X.A (f (.int i t)) Q E s) :
  YN X f (rU λi=>.int (C i)):=by
 intro L s M H x v Q B F h;let[i,rfl,q]:=h;let[t,rfl]:=F;exact j i t s _ _ [.int (C i),H,B.tok _,[_,I],q]
def Ls:YN X (unaryOp .USub) (rU λi=>.int (-i)):=bS λx x x x x q=>neg_int q
end
def TL:V->V->Bool
 |.non,.non=>eP|.non,.int _=>eP|.int _,.non=>eP|.non,.bl _=>eP|.bl _,.non=>eP|.non,.str _=>eP|.str _,.non=>eP
 |.int _,.int _=>eP|.bl _,.bl _=>eP|.str _,.str _=>eP|.byt _,.byt _=>eP
 |.int _,.str _=>eP|.str _,.int _=>eP|.bl _,.str _=>eP|.str _,.bl _=>eP
 |_,_=>eM
inductive bW(x y:V)(H:Hp)(Q:VK):Prop
 |mk (e:TL x y=eP) (q:Q (.bl (decide (x=y))) H)
inductive bQ(x y:V)(H:Hp)(Q:VK):Prop
 |mk (e:TL x y=eP) (q:Q (.bl (!decide (x=y))) H)
def X3{i j:Int}:decide (V.int i=V.int j)=(i==j):=by
 rw[lX];simp
def ER{i j:Bool}:decide (V.bl i=V.bl j)=(i==j):=by
 rw[lX];simp
def Q9{i j:eU}:decide (V.str i=V.str j)=(i==j):=by
 rw[lX];simp
def X4{i j:Array UInt8}:decide (V.byt i=V.byt j)=(i.toList==j.toList):=by
 rw[lX];cases i;cases j;simp
section
variable {X:Cx} {a b c:gK} {ta tb tc:TE} {pos:nA}
def Cm{pins:List (J×gS)}{s:eO}{Q:VK}{k j:Bool}(B:Ak X pins d H s)(q:Q (.bl k) H)(e:k=j):EP X pins d Q (.bool j) s:=by
 subst e;exact[.bl k,H,B,I,q]
def Fe:Ko X (gN .Eq) bW:=by
 intro M s N H x y v u Q B S F h;let[C,q]:=h;cases x with
 |non=>
  cases S
  cases y with
  |non=>cases F;exact PySem.EqNone.eq_none_none (Cm B q zZ)
  |bl j=>cases F;exact PySem.EqNone.eq_none_bool (Cm B q zZ)
  |int j=>let[L,rfl]:=F;exact PySem.EqNone.eq_none_int (Cm B q zZ)
  |str j=>let[L,rfl]:=F;exact PySem.EqNone.eq_none_str (Cm B q zZ)
  |_=>exact fA (show eM=eP from C) f_
 |bl i=>
  cases S
  cases y with
  |non=>cases F;exact PySem.EqNone.eq_bool_none (Cm B q zZ)
  |bl j=>cases F;exact eq_bool (Cm B q ER)
  |str j=>let[L,rfl]:=F;exact PySem.EqMixed.eq_bool_str (Cm B q zZ)
  |_=>exact fA (show eM=eP from C) f_
 |int i=>
  let[t,rfl]:=S;cases y with
  |non=>cases F;exact PySem.EqNone.eq_int_none (Cm B q zZ)
  |int j=>let[L,rfl]:=F;exact eq_int (Cm B q X3)
  |str j=>let[L,rfl]:=F;exact PySem.EqMixed.eq_int_str (Cm B q zZ)
  |_=>exact fA (show eM=eP from C) f_
 |str i=>
  let[t,rfl]:=S;cases y with
  |non=>cases F;exact PySem.EqNone.eq_str_none (Cm B q zZ)
  |bl j=>cases F;exact PySem.EqMixed.eq_str_bool (Cm B q zZ)
  |int j=>let[L,rfl]:=F;exact PySem.EqMixed.eq_str_int (Cm B q zZ)
  |str j=>let[L,rfl]:=F;exact eq_str (Cm B q Q9)
  |_=>exact fA (show eM=eP from C) f_
 |byt i=>
  let[t,rfl]:=S;cases y with
  |byt j=>let[L,rfl]:=F;exact PySem.W.eq_bytes (Cm B q X4)
  |_=>exact fA (show eM=eP from C) f_
 |_=>cases y<;>exact fA (show eM=eP from C) f_
def FE:Ko X (gN .NotEq) bQ:=by
 intro M s N H x y v u Q B S F h;let[C,q]:=h;cases x with
 |non=>
  cases S
  cases y with
  |non=>cases F;exact PySem.EqNone.ne_none_none (Cm B q zZ)
  |bl j=>cases F;exact PySem.EqNone.ne_none_bool (Cm B q zZ)
  |int j=>let[L,rfl]:=F;exact PySem.EqNone.ne_none_int (Cm B q zZ)
  |str j=>let[L,rfl]:=F;exact PySem.EqNone.ne_none_str (Cm B q zZ)
  |_=>exact fA (show eM=eP from C) f_
 |bl i=>
  cases S
  cases y with
  |non=>cases F;exact PySem.EqNone.ne_bool_none (Cm B q zZ)
  |bl j=>cases F;exact ne_bool (Cm B q (gF not ER))
  |str j=>let[L,rfl]:=F;exact PySem.EqMixed.ne_bool_str (Cm B q zZ)
  |_=>exact fA (show eM=eP from C) f_
 |int i=>
  let[t,rfl]:=S;cases y with
  |non=>cases F;exact PySem.EqNone.ne_int_none (Cm B q zZ)
  |int j=>let[L,rfl]:=F;exact ne_int (Cm B q (gF not X3))
  |str j=>let[L,rfl]:=F;exact PySem.EqMixed.ne_int_str (Cm B q zZ)
  |_=>exact fA (show eM=eP from C) f_
 |str i=>
  let[t,rfl]:=S;cases y with
  |non=>cases F;exact PySem.EqNone.ne_str_none (Cm B q zZ)
  |bl j=>cases F;exact PySem.EqMixed.ne_str_bool (Cm B q zZ)
  |int j=>let[L,rfl]:=F;exact PySem.EqMixed.ne_str_int (Cm B q zZ)
  |str j=>let[L,rfl]:=F;exact ne_str (Cm B q (gF not Q9))
  |_=>exact fA (show eM=eP from C) f_
 |byt i=>
  let[t,rfl]:=S;cases y with
  |byt j=>let[L,rfl]:=F;exact PySem.W.ne_bytes (Cm B q (gF not X4))
  |_=>exact fA (show eM=eP from C) f_
 |_=>cases y<;>exact fA (show eM=eP from C) f_
def Hv:Ko X (gN .Lt) (MP λi j=>.bl (decide (i<j))):=KS λx x x x x x x q=>lt_int q
def Ke:Ko X (gN .LtE) (MP λi j=>.bl (decide (i<=j))):=KS λx x x x x x x q=>le_int q
def Pc:Ko X (gN .Gt) (MP λi j=>.bl (decide (j<i))):=KS λx x x x x x x q=>gt_int q
def VZ:Ko X (gN .GtE) (MP λi j=>.bl (decide (j<=i))):=KS λx x x x x x x q=>ge_int q
inductive YV(x y:V)(H:Hp)(Q:VK):Prop
 |mk (e:y=.non) (q:Q (.bl (decide (x=.non))) H)
def Oo:Ko X (gN .Is) YV:=by
 intro C s L H x y v u Q B j F h;let[rfl,q]:=h;cases F;refine is_none_gen (Cm B q ?_);cases x<;>first
  |(cases j;rfl)
  |(let[t,rfl]:=j;rfl)
inductive SS(x y:V)(H:Hp)(Q:VK):Prop
 |mk (e:y=.non) (q:Q (.bl (!decide (x=.non))) H)
def Xi:Ko X (gN .IsNot) SS:=by
 intro C s L H x y v u Q B j F h;let[rfl,q]:=h;cases F;refine isnot_none_gen (Cm B q ?_);cases x<;>first
  |(cases j;rfl)
  |(let[t,rfl]:=j;rfl)
def Be(b:gK)(h:op≠.In:=by lk)(B:op≠.NotIn:=by lk):kK op b=eM:=by
 let F:(op==CmpOp.In)=eM:=by cases op<;>first|rfl|exact fA I h
 let j:(op==CmpOp.NotIn)=eM:=by cases op<;>first|rfl|exact fA I B
 cases b<;>simp[kK,F,j]
def Gw{r:R2}(S:Ko X (gN op) r)(F:PE X a ta)(C:PE X b tb)(N:kK op b=eM):PE X (.Compare a #[op] #[b] pos) (MU r ta tb):=by
 intro O s R H Q M h;exact wpAny_Compare1 (OR F C M h λv u B x y L j T P q=>S O B R L x y v u Q j T P q) N
def VO(t:TE):TT:=λB H Q=>t B H λx C=>JB x C Q
def Ay{r:R2}(p:Ko X (gN op) r)(L:PE X a ta)(A:PE X b tb)(d:kK op b=eM):PT X (.Compare a #[op] #[b] pos) (VO (MU r ta tb)):=by
 intro O s P H Q B h;refine vZ (Ct (L O s P H _ B h) λv E ⟨x,T,N,l,K⟩=>Ct (A O E P T _ N K) λu W ⟨y,C,j,M,R⟩=>
  Ct (p O W P C x y v u _ j l M R) λc q ⟨z,o,F,f,k,e,S⟩=>?_) d
 subst e;cases f;exact iA [o,F,S]
def OY(r O:R2)(ta tb tc:TE):TE:=λC H Q=>ta C H λx N=>tb C N λy M=>r x y M λz B=>JB z B λk B=>if k=eP then tc C B λP L=>O y P L Q else Q (.bl eM) B
def Nm{r M:R2}(ho:Ko X (gN op) r)(j:Ko X (gN f) M)(w:PE X a ta)(t:PE X b tb)(hc:PE X c tc)
  (hm:lastMarks #[op,f] #[b,c]=eM:=by with_unfolding_all rfl):PE X (.Compare a #[op,f] #[b,c] pos) (OY r M ta tb tc):=by
 intro O s P H Q B h;refine Compare_chain (Ct (w O s P H _ B h) λv m ⟨x,l,o,r1,n⟩=>chain_link (Ct (t O m P l _ o n) λu q ⟨y,N,p,S,W⟩=>
  Ct (ho O q P N x y v u _ p r1 S W) λd K ⟨z,R,L,r3,k,e,F⟩=>?_)) hm
 subst e;cases r3;refine iA ?_;cases k with
 |false=>exact ite_ff [.bl eM,R,L,I,F]
 |true=>exact ite_tt (chain_last (Ct (hc O K P R _ L F) λC i ⟨A,H4,E,T,q4⟩=>j O i P H4 y A u C Q E S T q4))
def XS(K:a')(x:V)(H:Hp)(k:Bool):Prop:=
 match x with
 |.non=>k=eM
 |.bl b=>k=b
 |.int i=>k=(i != 0)
 |.str y=>y.length<=sizeLine/\k=((y.length:Int) != 0)
 |.byt y=>y.size<=sizeLine/\k=((y.size:Int) != 0)
 |.ref p=>(∃C,Am K H p C/\k = !C.isEmpty)\/(∃C,Bh K H p C/\k = !C.isEmpty)\/∃B,H p=g (.dK B)/\k = !B.isEmpty
 |_=>False
def P0{B:Type}{kvs:List (B×V)}{vs:List (B×eJ)}(r:KV kvs vs):(!vs.isEmpty) = !kvs.isEmpty:=by
 cases r<;>rfl
def Ry{xs:List V}{its:List eJ}(r:Ap xs its):(!its.toArray.isEmpty) = !xs.isEmpty:=by
 cases r<;>simp
def Lr:(sizeLine:Nat)<2^63:=by rw[ck];decide
def RP:aL X (λx H Q=>∃k,XS X.K x H k/\Q k H):=by
 intro A s d H x v Q B O h;let[k,e,q]:=h;let f:=Lr;let S:sizeLine=16777216:=ck;cases x with
 |non=>
  cases O
  let C:k=eM:=e;subst C;exact truthy_none [H,B,q]
 |bl b=>
  cases O
  let C:k=b:=e;subst C;exact iA [H,B,q]
 |int i=>
  let[t,rfl]:=O;let C:k=(i != 0):=e;subst C;exact PySem.P.truthy_int [H,B,q]
 |str y=>
  let[t,rfl]:=O;obtain⟨F,C⟩:y.length<=sizeLine/\k=((y.length:Int) != 0):=e;subst C;exact PySem.P.truthy_str Z [H,B.tok _,q]
 |byt y=>
  let[t,rfl]:=O;obtain⟨F,C⟩:y.size<=sizeLine/\k=((y.size:Int) != 0):=e;subst C;exact PySem.W.truthy_bytes Z [H,B.tok _,q]
 |ref p=>
  cases O
  let C:(∃N,Am X.K H p N/\k = !N.isEmpty)\/(∃N,Bh X.K H p N/\k = !N.isEmpty)\/∃L,H p=g (.dK L)/\k = !L.isEmpty:=e;rcases C with ⟨N,P,C⟩|⟨N,P,C⟩|⟨L,P,C⟩
  .subst C
   let[W,r,T,E]:=B.list P;let M:=r.length;exact wpAny_truthy_list T.isList (by simp only[dw];lia) [H,B.tok _,by rw[Ry r];exact q]
  .subst C
   let[W,r,T,E]:=B.tuple P;let M:=r.length;exact truthy_tuple T (by simp only[dw];lia) [H,B.tok _,by rw[Ry r];exact q]
  .subst C
   obtain⟨E,K,R,r,m⟩:L.length<=sizeLine/\(p==iK)=eM/\∃R,KV L R/\s.heap.DictOf (Dh X.prog X.w) p R:=B.hok p _ P;let M:L.length=R.length:=kC r;exact wpAny_truthy_dict K m Z [H,B.tok _,by rw[P0 r];exact q]
 |_=>exact(show False from e).elim
inductive WE(x y:V)(H:Hp)(Q:VK):Prop
 |mk (i j:eU) (e:x=.str i) (e':y=.str j) (l:i.length+j.length<=sizeLine) (q:Q (.str (i++j)) H)
def Hn:Ko X (jD .Add) WE:=by
 intro M s N H x y v u Q C L F h;let[i,j,rfl,rfl,B,q]:=h;let[t,rfl]:=L;let[S,rfl]:=F;exact add_str (λS O=>[.str (i++j),H,C.tok _,[_,I],q]) B
def Ku{x:V}{us:List eJ}(r:Ap #[x] us):∃u,us=#[u]/\Az x u:=by
 cases r with
 |cons j F=>cases F;exact[_,I,j]
def Ve{x y:V}{us:List eJ}(r:Ap #[x,y] us):∃u B,us=#[u,B]/\Az x u/\Az y B:=by
 cases r with
 |cons S F=>
  cases F with
  |cons L j=>cases j;exact[_,_,I,S,L]
inductive UV(xs:List V)(H:Hp)(Q:VK):Prop
 |mk (i j:Int) (e:xs=#[.int i,.int j]) (q:Q (.int (if j>i then j else i)) H)
def Ii(L:X.calm=eP):Fm X (.builtin "max") UV:=by
 intro M s P H O R Q C r h;let[i,j,rfl,q]:=h;let[u,B,rfl,[t,rfl],[S,rfl]]:=Ve r;refine max_two_ints (C.ok.hd L) λN T k=>[_,H,C.kept k,?_,q];by_cases F:j>i
 .rw[eR F,eR F];exact[_,I]
 .rw[eQ F,eQ F];exact[_,I]
inductive UP(xs:List V)(H:Hp)(Q:VK):Prop
 |mk (i j:Int) (e:xs=#[.int i,.int j]) (q:Q (.int (if j<i then j else i)) H)
def Kz(L:X.calm=eP):Fm X (.builtin "min") UP:=by
 intro M s P H O R Q C r h;let[i,j,rfl,q]:=h;let[u,B,rfl,[t,rfl],[S,rfl]]:=Ve r;refine min_two_ints (C.ok.hd L) λN T k=>[_,H,C.kept k,?_,q];by_cases F:j<i
 .rw[eR F,eR F];exact[_,I]
 .rw[eQ F,eQ F];exact[_,I]
inductive XR(xs:List V)(H:Hp)(Q:VK):Prop
 |mk (i:Int) (e:xs=#[.int i]) (l:i.natAbs.log2<1920) (q:Q (.str (toString i)) H)
def Wz:Fm X (.type "str") XR:=by
 intro C s L H M N Q B r h;let[i,rfl,j,q]:=h;let[u,rfl,t,rfl]:=Ku r;exact PySem.P.str_of_int j [.str _,H,B.tok _,[_,I],q]
end
structure dR(h:fK)(x dx C:J)(mA:eU->Option eJ):Prop where
 obj:h.get? x=g (om C dx)
 ns:h.Ns1 dx mA
 ne:dx≠x
set_option tactic.hygienic true in
def Ny{h:fK}{O:J}{N:eU->Option eJ}(n:h.Ns1 O N):∃od,h.get? O=g od/\∀name,lU name od=g (N name):=by
 let[o,M,P,H,F,L,_,C]:=n;refine[o,H,λname=>?_];let e:=C name;unfold nsFind findBy at e;rw[<- uR]at e;unfold lU;rw[F]
 dsimp only
 split
 .rename_i y q
  rw[q]at e;exact gF g e
 .rename_i q
  rw[q]at e;let a:M.toList.any (·.refKey)=eM:=by
   rw[List.any_eq_false];intro y B;let[z,t,j]:=L y (Array.mem_toList_iff.mp B);simp[DictEntry.refKey,j]
  let S:¬M.toList.any (·.refKey)=eP:=by rw[a];exact f_
  rw[eQ S];exact gF g e
def dR.look{h}{x H C}{L:eU->Option eJ}(B:dR h x H C L):∃od,ti h x (om C H) C (g od)/\∀name,lU name od=g (L name):=
 let [od,M,N]:=Ny B.ns
 [od,[B.obj,I,I,M],N]
section
variable {prog:eY} {w:fF} {A:fL} {E:eJ->eO->Prop} {s:eO} {K:a'} {x dx C f:J} {mA:eU->Option eJ} {name:eU} {v:eJ}
def JE{j:Bool}{Q:eJ->eO->Prop}(X:K.In s.heap)(B:dR s.heap x dx C mA)(S:wm K C name=eP)(M:u5 K C=eP)
  (L:ia K (.ref C) name=g U) (H:mA name=g v) (F:oA v=eP) (h:Q v { s with toks:=s.toks+1 }) :
  eV (fC prog w) A (vJ (.ref x) name j) Q E s:=by
 let[P,N,O]:=B.look;exact PySem.W.get_value X N (mF S).1 (r0 M L I (by rw[O,H])) F h
def CQ{pl:rV Bool}{Q:eJ×List eJ->eO->Prop}(X:K.In s.heap)(B:dR s.heap x dx C mA)(j:wm K C name=eP)
  (L:ia K (.ref C) name=g (g (.ref f))) (F:pu K (.ref f)=eP) (S:mA name=U) (h:Q (.ref f,#[.ref x]) s) :
  eV (fC prog w) A (jH (.ref x) name pl) Q E s:=by
 let[N,H,M]:=B.look;exact PySem.W.method_fn X H (mF j).1 (mF j).2 L (beq_iff_eq.mp F) (by show(lU name N).map (·.isSome)=g eM;rw[M,S];rfl) h
def IX{ns:List eU}{Q:Unit->eO->Prop}(X:K.In s.heap)(M:dR s.heap x dx C mA)
  (T:ia K (.ref C) "__setattr__"=g (g (.builtin "object.__setattr__"))) (W:nG K C=eP) (d:vq K C name=g U) (R:u5 K C=eP)
  (c:rW mA ns) (hsz:ns.length<=sizeLine)
  (h:∀h',dR h' x dx C (λy=>if y=name then g v else mA y)->i_ dx s.heap h'->Q () { s with heap:=h',toks:=s.toks+2 }) :
  eV (fC prog w) A (setAttr (.ref x) name v) Q E s:=by
 let[q,O,t]:=M.look;refine tT X O T (PySem.W.osa_open (s:={ s with toks:=s.toks+1 }) (r:=U) X O W d λb=>?_);let[o,B,S]:=oC R;let P:s.heap.get? x=g [.ref C,g dx,.plain,#v[]]:=M.obj;refine a_ (b_ (a_ (a_ (nQ P (a_ (q3.here (s:={ s with toks:=s.toks+1 }) (mG X B) ?_))))));rw[S];refine b_ (a:=g dx) (a_ (b_ (a_ ?_)));refine wpAny_nsSet1 (s:={ s with toks:=s.toks+1 }) M.ns λh' j F=>?_;let[k,l,p,H,L,N]:=j.count (PySem.Within.cons name v c);refine a_ (wpAny_lookBehind H (by rw[L];exact pastItsLine_dict (fO N (by rw[c_];lia))) ?_);exact b_ (h _ [(F.2 _ (fQ M.ne)).trans M.obj,j,M.ne] F)
def EB{R:sZ->eO->Prop}{vs:List eJ}(X:K.In s.heap)(F:vo K C=eP)
  (H:ia K (.ref C) "__init__"=g (g (.ref f))) (L:PySem.W.typeIn K (.ref f)=g (.type "function"))
  (h:jI (fC prog w) (A.under (.builtin "type.__call__" [.ref C::vs,b])) (.call (.ref f) [.ref (⇑s+1)::vs,b]) (uJ (⇑s+1) R)
   { s with heap:=(s.heap.push nL).push (om C ⇑s) }) :
  jI (fC prog w) A (.call (.ref C) [vs,b]) R s:=by
 let[S,B,d,t,M]:=s;exact tU (nZ X F) (s_ X H) (λj=>PySem.W.bind_fn X j L) (.inl I) h
def Y5{R:sZ->eO->Prop}(X:K.In s.heap)(F:vo K C=eP)
  (H:ia K (.ref C) "__init__"=g (g (.builtin "object.__init__")))
  (L:∀j,q3 (fC prog w) s.heap (bindSpecial (.builtin "object.__init__") j) (.builtin "object.__init__",#[j]))
  (h:jI (fC prog w) (A.under (.builtin "type.__call__" [#[.ref C],[]])) (.call (.builtin "object.__init__") [#[.ref (⇑s+1)],[]]) (uJ (⇑s+1) R)
   { s with heap:=(s.heap.push nL).push (om C ⇑s) }) :
  jI (fC prog w) A (.call (.ref C) [[],[]]) R s:=by
 let[S,B,d,t,M]:=s;exact tU (nZ X F) (s_ X H) L (.inr [I,I]) h
end
def By(f:eU)(v:V):List (eU×V)->List (eU×V)
 |[]=>#[(f,v)]
 |(B,x)::r=>if B=f then(B,v)::r else(B,x)::By f v r
theorem Dc(f B:eU)(v:V):∀C:List (eU×V),(By f v C).lookup B=if B=f then g v else C.lookup B
 |[]=>by
  show q5 B #[(f,v)]=_;by_cases h:B=f
  .have j:(B==f)=eP:=beq_iff_eq.mpr h
   simp only[q5,j,eR h]
  .have j:(B==f)=eM:=beq_eq_false_iff_ne.mpr h
   simp only[q5,j,eQ h]
 |(k,x)::r=>by
  let H:=Dc f B v r;rw[show By f v ((k,x)::r)=(if k=f then(k,v)::r else(k,x)::By f v r) from rfl];by_cases F:k=f
  .rw[eR F]
   by_cases h:B=k
   .have j:(B==k)=eP:=beq_iff_eq.mpr h
    simp only[q5,j,eR (h.trans F)]
   .have j:(B==k)=eM:=beq_eq_false_iff_ne.mpr h
    simp only[q5,j,eQ (λe:B=f=>h (e.trans F.symm))]
  .rw[eQ F]
   by_cases h:B=k
   .have j:(B==k)=eP:=beq_iff_eq.mpr h
    simp only[q5,j,eQ (λe:B=f=>F (h.symm.trans e))]
   .have j:(B==k)=eM:=beq_eq_false_iff_ne.mpr h
    simp only[q5,j];exact H
theorem Oc(f:eU)(v:V):∀C:List (eU×V),f∈(By f v C).map (·.1)/\∀B,B∈C.map (·.1)->B∈(By f v C).map (·.1)
 |[]=>[by simp[By],λB h=>by simp at h]
 |(k,x)::r=>by
  let[F,L]:=Oc f v r;rw[show By f v ((k,x)::r)=(if k=f then(k,v)::r else(k,x)::By f v r) from rfl];by_cases j:k=f
  .rw[eR j]
   subst j;exact[zZ,λB h=>by simpa using h]
  .rw[eQ j]
   refine[?_,λB h=>?_]
   .rw[iw]
    exact e_ _ F
   .rw[iw]at h⊢
    rcases cr.mp h with e|e
    .exact cr.mpr (.inl e)
    .exact e_ _ (L B e)
theorem Pj(f:eU)(v:V):∀B:List (eU×V),(By f v B).length<=B.length+1
 |[]=>by simp[By]
 |(k,x)::r=>by
  let C:=Pj f v r;rw[show By f v ((k,x)::r)=(if k=f then(k,v)::r else(k,x)::By f v r) from rfl];by_cases j:k=f
  .rw[eR j,c_,c_];lia
  .rw[eQ j,c_,c_];lia
def cE.some_of{v:V}{o:Option eJ}(r:cE (g v) o):∃u,o=g u/\Az v u:=by
 cases o with
 |none=>exact(show False from r).elim
 |some u=>exact[u,I,r]
def cE.none_of{o:Option eJ}(r:cE U o):o=U:=by
 cases o with
 |none=>rfl
 |some u=>exact(show False from r).elim
def Vb{v:V}{u:eJ}(r:Az v u):oA u=eP:=by
 cases v with
 |non=>cases (show u=fP from r);rfl
 |bl b=>cases (show u=qD b from r);rfl
 |int i=>let[t,e]:=(show ∃t,u=jR i t from r);cases e;rfl
 |str x=>let[t,e]:=(show ∃t,u=kB x t from r);cases e;rfl
 |byt b=>let[t,e]:=(show ∃t,u=Value.bytes b t from r);cases e;rfl
 |flt b=>let[t,e]:=(show ∃t,u=sY b t from r);cases e;rfl
 |ref a=>cases (show u=fD a from r);rfl
 |ty n=>cases (show u=gO n from r);rfl
section
variable {P:eY} {w:fF} {H:Hp} {h:fK} {a C dx:J} {fs:List (eU×V)}
def Qq(j:cJ P w H h)(e:H a=g (.ins C dx fs)):∃B,dR h a dx C B/\(∀f,cE (fs.lookup f) (B f))/\rW B (fs.map (·.1))/\fs.length<=1000/\H dx=g (.own a):=by
 let[d,z,L,F,B,n,r,q]:=(show Cf P w H h a (.ins C dx fs) from j a _ e);exact[B,[F,n,L],r,q,z,d]
end
structure dD(K:a')(C:J):Prop where
 pg:wm K C lK=eP
 hd:u5 K C=eP
 po:nG K C=eP
 sa:ia K (.ref C) "__setattr__"=g (g (.builtin "object.__setattr__"))
def dD.get{K}{C}(c:dD K C)(f:eU):wm K C f=eP:=c.pg
def Bb(K:a')(C:J)(f:eU):Prop:=ia K (.ref C) f=g U
def Bb.taker{K}{C}{f}(n:Bb K C f):vq K C f=g U:=by
 unfold vq;rw[show ia K (.ref C) f=g U from n];rfl
structure K6(K:a')(C:J)(m:eU)(f:J):Prop where
 at_:ia K (.ref C) m=g (g (.ref f))
 fn:pu K (.ref f)=eP
 kp:js K (.ref f)=eP
section
variable {X:Cx} {pins:List (J×gS)} {σ:St} {H:Hp} {s:eO} {a C dx:J} {fs:List (eU×V)} {f:eU} {v:V} {A:fL} {E:eJ->eO->Prop}
def M1{b:Bool}{Q:eJ->eO->Prop}(B:Ak X pins σ H s)(e:H a=g (.ins C dx fs))(c:dD X.K C)(n:Bb X.K C f)(l:fs.lookup f=g v)
  (h:∀u s',Ak X pins σ H s'->Az v u->Q u s'):eV (fC X.prog X.w) A (vJ (.ref a) f b) Q E s:=by
 let[L,O,r,_,_,_]:=Qq B.hok e;let[u,F,j]:=cE.some_of (v:=v) (o:=L f) (by rw[<- l];exact r f);exact JE B.kIn O (c.get f) c.hd n F (Vb j) (h u _ (B.tok _) j)
def Gc{m:eU}{pl:rV Bool}{Q:eJ×List eJ->eO->Prop}(B:Ak X pins σ H s)(e:H a=g (.ins C dx fs))(c:dD X.K C)(k:K6 X.K C m b)(l:fs.lookup m=U)
  (h:Q (.ref b,#[.ref a]) s):eV (fC X.prog X.w) A (jH (.ref a) m pl) Q E s:=by
 let[L,O,r,_,_,_]:=Qq B.hok e;let j:L m=U:=cE.none_of (by rw[<- l];exact r m);exact CQ B.kIn O (c.get m) k.at_ k.fn j h
def O0{y:V}{u:eJ}{Q:Unit->eO->Prop}(P:Ak X pins σ H s)(e:H a=g (.ins C dx fs))(c:dD X.K C)(n:Bb X.K C f)(l:fs.length<1000)(K:Az y u)
  (h:∀s',Ak X pins σ (upd H a (.ins C dx (By f y fs))) s'->Q () s'):eV (fC X.prog X.w) A (setAttr (.ref a) f u) Q E s:=by
 let[T,O,r,F,_,L]:=Qq P.hok e;let d:(fs.map (·.1)).length<=sizeLine:=by rw[cn,ck];lia
 refine IX P.kIn O c.sa c.po n.taker c.hd F d λW j M=>h _ ?_;let S:∃o,W.get? dx=g o:=let [o,_,_,k,_]:=j.ns;[o,k]
 refine P.write (x:=a) (e:=dx) (by rw[e];exact hV) (.inr L) (λb q B z=>(M.2 b B).trans z) S ?_;refine[by rw[Aj O.ne];exact L,?_,O.ne,j.obj,_,j.ns,λN=>?_,λN R=>?_]
 .have:=Pj f y fs;lia
 .show cE ((By f y fs).lookup N) (if N=f then g u else T N)
  rw[Dc];by_cases q:N=f
  .rw[eR q,eR q];exact K
  .rw[eQ q,eQ q];exact r N
 .by_cases q:N=f
  .rw[q];exact(Oc f y fs).1
  .refine(Oc f y fs).2 N (F N λz=>R ?_)
   show(if N=f then g u else T N)=U;rw[eQ q];exact z
def Ak.made(B:Ak X pins σ H s):Ak X pins σ (upd (upd H ⇑s (.own (⇑s+1))) (⇑s+1) (.ins C ⇑s []))
  { s with heap:=(s.heap.push nL).push (om C ⇑s) }:=by
 let j:(s.heap.push nL).get? ⇑s=g nL:=h_ s.heap I;let N:((s.heap.push nL).push (om C ⇑s)).get? (⇑s+1)=g (om C ⇑s):=by
  let:=h_ (s.heap.push nL) (o:=om C ⇑s) I
  rwa[rz]at this
 let L:(s.heap.push nL).Ns ⇑s (λx=>U):=[nL,#v[],_,j,I,(λe S=>fA S zZ),λx=>I];let F:=B.laid (a:=⇑s) (o:=.own (⇑s+1)) (h':=s.heap.push nL) (t':=s.toks) (λb u q=>dv _ q) (b' _) [_,j];refine F.laid (a:=⇑s+1) (o:=.ins C ⇑s []) (t':=s.toks) (λb u q=>dv _ q) (tL (rz _ _)) ?_;let O:⇑s≠⇑s+1:=fj (vn _);refine[by rw[Aj O,Ab],de _,O,N,λx=>U,(tP L).at λo q=>dv _ q,λx=>hV,λy M=>fA I M]
def Q3{prog:eY}{w:fF}{env:mB}{e:gK}{f:eU}{s:eO}{Q:eJ->eO->Prop}(F:iC e f env (gC e env)=gC e env)
  (h:eV (fC prog w) A (gC e env) (λo j=>eV (fC prog w) A (vJ o f eP) Q E j) E s):eV (fC prog w) A (gC (.Attribute e f b) env) Q E s:=
 Attribute_any_ h (by rw[arm_eval_Attribute,F])
end
inductive aO(K:a')(f:eU)(x:V)(H1:Hp)(Q:VK):Prop
 |mk (a C dx:J) (fs:List (eU×V)) (v:V) (e:x=.ref a) (h:H1 a=g (.ins C dx fs)) (c:dD K C) (n:Bb K C f) (l:fs.lookup f=g v) (q:Q v H1)
def WP(K:a')(L:TE)(f:eU):TE:=λC H Q=>L C H λx B=>aO K f x B Q
def aP(K:a')(P Q:TE)(f:eU):TS:=λD B H=>Q B H λy O=>P B O λx N=>∃a C M L,x=.ref a/\N a=g (.ins C M L)/\dD K C/\Bb K C f/\L.length<1000 /\
 D.nx B (upd N a (.ins C M (By f y L)))
section
variable {X:Cx} {o e value:gK} {f:eU} {pos pos':nA} {ta tv:TE}
def Bd(L:PE X e ta)(M:iC e f X.env (gC e X.env)=gC e X.env):PE X (.Attribute e f pos) (WP X.K ta f):=by
 intro P s R H Q N h;refine Q3 M (Ct (L P s R H _ N h) λu E B=>?_);let[x,A,F,W,a,C,K,b,v,T,O,c,n,l,q]:=B;subst T;obtain rfl:u=fD a:=W;exact M1 F O c n l λd k j S=>[v,A,j,S,q]
def Cq(L:PE X o ta)(E:PE X value tv)(R:kY value (g (.Attribute o f pos')) pos.line X.env=pure eM):PS X (.Assign #[.Attribute o f pos'] value pos) (aP X.K ta tv f):=by
 intro P s Q H D B h;refine qJ (Ct (E P s Q H _ B h) λu K ⟨y,A,S,b,q⟩=>Ct (L P K Q A _ S q) λN v M=>?_) R;let[x,r,j,W,a,C,p,t,d,O,c,n,l,T]:=M;subst d;obtain rfl:N=fD a:=W;exact O0 j O c n l b λk F=>[Q,_,F,T]
def MR{pl:rV Bool}{m:eU}{pins:List (J×gS)}{s:eO}{Q:eJ->eO->Prop}(S:PE X e d)(O:Ak X pins b H s)
  (h:d b H λx T=>∃a C A R N,x=.ref a/\T a=g (.ins C A R)/\dD X.K C/\K6 X.K C m N/\R.lookup m=U /\
   ∀j,Ak X pins b T j->eV (fC X.prog X.w) X.A (kN pos (.ref N) #[.ref a] (gH pos (eX args X.env)) (jM pos (hX [] X.env))) Q X.xe j)
  (L:gC (.Call (.Attribute e m apos) args [] pos) X.env=(do
   let W <- gC e X.env
   kF apos.atName
   let (f,first) <- iY #[W] (jH W m pl)
   kN pos f first (gH pos (eX args X.env)) (jM pos (hX [] X.env)))) :
  eV (fC X.prog X.w) X.A (gC (.Call (.Attribute e m apos) args [] pos) X.env) Q X.xe s:=by
 refine tj (pl:=pl) (Ct (S pins s b H _ O h) λu j P=>?_) L;let[x,T,F,B,a,C,A,R,N,E,M,c,k,l,q]:=P;subst E;obtain rfl:u=fD a:=B;exact Gc F M c k l (q j F)
end
section
variable {X:Cx} {pins:List (J×gS)} {σ:St} {H:Hp} {s:eO} {A:fL} {E:eJ->eO->Prop} {Q:eJ->eO->Prop} {c:eJ} {b:Bool}
inductive TyOf(K:a')(H:Hp):V->eJ->Prop where
 |non:TyOf K H .non (.type "NoneType")
 |bl (x:Bool):TyOf K H (.bl x) (.type "bool")
 |int (i:Int):TyOf K H (.int i) (.type "int")
 |str (x:eU):TyOf K H (.str x) (.type "str")
 |flt (x:UInt64):TyOf K H (.flt x) (.type "float")
 |lst {a:J} {xs:List V} (e:H a=g (.lst xs)):TyOf K H (.ref a) (.type "list")
 |frz {a:J} {o:gS} {xs:List V} (e:H a=g (.frz o (.lst xs))):TyOf K H (.ref a) (.type "list")
 |tup {a:J} {xs:List V} (e:H a=g (.tup xs)):TyOf K H (.ref a) (.type "tuple")
 |dK {a:J} {kvs:List (Dm×V)} (e:H a=g (.dK kvs)):TyOf K H (.ref a) (.type "dict")
 |dT {a:J} {kvs:List (List Dm×V)} (e:H a=g (.dT kvs)):TyOf K H (.ref a) (.type "dict")
 |ins {a C dx:J} {fs:List (eU×V)} (e:H a=g (.ins C dx fs)) (cl:dD K C) (ha:ia K (.ref C) "__class__"=g (g (.builtin "object.__class__")))
   (hn:vl K (.builtin "object.__class__") "__get__"=g (g (.builtin "getset_descriptor.__get__"))) (htk:oV K (.builtin "object.__class__")=g eP)
   (hm:mK K C (.type "object")=g eP):TyOf K H (.ref a) (.ref C)
def AI{x}{u t}(B:Ak X pins σ H s)(N:Az x u)(f:TyOf X.K H x t)(e:hY X.K t c=g b)(h:∀tk,Q (.bool b) { s with toks:=tk }) :
  eV (fC X.prog X.w) A (call (.builtin "isinstance") #[u,c]) Q E s:=by
 cases f with
 |non=>cases (show u=fP from N);exact o_ PySem.W.kitx_none B.kIn hV e (λz=>nomatch z) h
 |bl y=>cases (show u=qD y from N);exact o_ PySem.W.kitx_bool B.kIn hV e (λz=>nomatch z) h
 |int i=>let[t,q]:=(show ∃t,u=jR i t from N);cases q;exact o_ PySem.W.kitx_int B.kIn hV e (λz=>nomatch z) h
 |str y=>let[t,q]:=(show ∃t,u=kB y t from N);cases q;exact o_ PySem.W.kitx_str B.kIn hV e (λz=>nomatch z) h
 |flt y=>let[t,q]:=(show ∃t,u=sY y t from N);cases q;exact o_ PySem.W.kitx_float B.kIn hV e (λz=>nomatch z) h
 |@lst a T M=>
  cases (show u=fD a from N)
  let[_,_,n,_,P]:=(show Cf X.prog X.w H s.heap a (.lst T) from B.hok a _ M);exact o_ tV B.kIn [_,P,I] e (λz=>nomatch z) h
 |@frz a l T M=>
  cases (show u=fD a from N)
  let[_,_,_,n,_,P]:=(show Cf X.prog X.w H s.heap a (.frz l (.lst T)) from B.hok a _ M);exact o_ tV B.kIn [_,P,I] e (λz=>nomatch z) h
 |@tup a T M=>
  cases (show u=fD a from N)
  let[_,_,_,p]:=(show Cf X.prog X.w H s.heap a (.tup T) from B.hok a _ M);let[o,P,W,_]:=p;exact o_ tG B.kIn [o,P,W] e (λz=>nomatch z) h
 |@dK a R M=>
  cases (show u=fD a from N)
  let[_,_,vs,_,p]:=(show Cf X.prog X.w H s.heap a (.dK R) from B.hok a _ M);let[o,j,r,P,W,_]:=p;exact o_ tW B.kIn [o,P,W.1] e (λz=>nomatch z) h
 |@dT a R M=>
  cases (show u=fD a from N)
  let[_,_,T,_,o,j,r,P,W,_]:=(show Cf X.prog X.w H s.heap a (.dT R) from B.hok a _ M);exact o_ tW B.kIn [o,P,W.1] e (λz=>nomatch z) h
 |@ins a C w m M K d S F k=>
  cases (show u=fD a from N)
  let[v,O,_]:=Qq B.hok M;let[od,L,_]:=O.look;exact o_ (PySem.W.kitx_own (K.get _) K.hd d S F k) B.kIn L e (λz=>nomatch z) h
end
structure Bv(k:Nat)(A:fL):Prop where
 hd:A.handled=U
 dp:A.depth+3*k+5<nV
 un:A.units+16*k+200<iM
def Bv.mono{j k:Nat}{A:fL}(r:Bv k A)(h:j<=k):Bv j A:=[r.hd,by let:=r.dp;lia,by let:=r.un;lia]
def Bv.deeper{k:Nat}{A:fL}(r:Bv (k+1) A)(env:mB):Bv k (A.deeper env):=
 [r.hd,by let:=r.dp;show A.depth+1+3*k+5<_;lia,by let:=r.un;show A.units+3+16*k+200<_;lia]
def Bv.in1{k:Nat}{A:fL}(r:Bv (k+1) A):Bv k A.in1:=
 [r.hd,by let:=r.dp;show A.depth+3*k+5<_;lia,by let:=r.un;show A.units+1+16*k+200<_;lia]
def M6{A:fL}{C:J}{us:List eJ}{j:List (eU×eJ)}:(A.under (.builtin "type.__call__" [.ref C::us,j])).depth=A.depth+1:=by
 first|rfl|simp[rM,Code.weight,Code.isCreation,Code.isGuard,Code.isCaller,Code.frames,sG,guardIds]
def L6{A:fL}{C:J}{us:List eJ}{j:List (eU×eJ)}:(A.under (.builtin "type.__call__" [.ref C::us,j])).units=A.units+1:=by
 first|rfl|simp[rM,Code.cUnits,Code.frames,sG]
def Bv.make{k:Nat}{A}(r:Bv (k+1) A)(C:J)(us:List eJ)(j:List (eU×eJ)):Bv k (A.under (.builtin "type.__call__" [.ref C::us,j])):=
 [r.hd,by let:=r.dp;rw[M6];lia,by let:=r.un;rw[L6];lia]
def Bv.depth{k:Nat}{A:fL}(r:Bv k A):A.depth<nV:=by let:=r.dp;lia
def Bv.units{k:Nat}{A:fL}(r:Bv k A):A.units+64<iM:=by let:=r.un;lia
def F8:TA:=λx H Q=>Q [] H
def Zh(N:TE)(O:TA):TA:=λB H Q=>N B H λx M=>O B M λL C=>Q (x::L) C
section
variable {X:Cx} {e:gK} {es:List gK} {te:TE} {t:TA} {pos:nA}
def Eg:PA X [] F8:=λx x x x H Q B h=>gU [[],H,B,.nil,h]
def Ai(F:PE X e te)(K:PA X es t)(R:eX (e::es) X.env=(eM,gC e X.env)::eX es X.env:=by rfl):PA X (e::es) (Zh te t):=by
 intro pos O s P H Q M h;rw[R];show eV _ _ (pV ((eM,gC e X.env)::gH pos (eX es X.env))) _ _ s;refine gJ (Ct (F O s P H _ M h) λu T B=>?_);let[x,b,S,N,W]:=B;exact Ct (K pos O T P b _ S W) λc d ⟨A,C,j,L,E⟩=>[x::A,C,j,.cons N L,E]
inductive ZS(xs:List V)(H:Hp)(Q:VK):Prop
 |mk (l:xs.length<=sizeLine) (q:∀p,H p=U->Q (.ref p) (upd H p (.tup xs)))
def VV(t:TA):TE:=λC H Q=>t C H λL B=>ZS L B Q
inductive aI(xs:List V)(H:Hp)(Q:VK):Prop
 |mk (l:xs.length<=sizeLine) (q:∀p,H p=U->Q (.ref p) (upd H p (.lst xs)))
def YK(t:TA):TE:=λC H Q=>t C H λL B=>aI L B Q
def Bl{B}(h:PA X es t):PE X (.Tuple es B pos) (VV t):=by
 intro M s P H Q C S;refine wpAny_Tuple_spliced (Ct (h pos M s P H _ C S) λR j ⟨O,N,F,r,z,q⟩=>[by rw[<- r.length];exact z,?_]);let L:N ⇑j=U:=F.hok.fresh (b' _);refine[.ref ⇑j,upd N ⇑j (.tup O),F.laid (t':=j.toks) (λb u e=>dv _ e) (b' _) ?_,I,q _ L];exact[z,R,r,[_,h_ _ I,I,_,I]]
def Bu(h:PA X es t):PE X (.List es pos) (YK t):=by
 intro C s O H Q B L;refine wpAny_List_spliced (Ct (h pos C s O H _ B L) λP j ⟨N,M,F,r,z,q⟩=>[by rw[<- r.length];exact z,?_]);let S:M ⇑j=U:=F.hok.fresh (b' _);refine[.ref ⇑j,upd M ⇑j (.lst N),F.laid (t':=j.toks) (λb u e=>dv _ e) (b' _) ?_,I,q _ S];exact[z,P,0,r,h_ _ I]
end
abbrev Sp:=List V->Hp->VK->XK->Prop
abbrev IF:=List mB->Hp->eO->XK->eJ->eO->Prop
structure dC(P:eY)(w:fF)(K:a')(mg:eU->Option eJ)(base:fK)(A:fL)(outer:List mB)(s:eO)(H:Hp):Prop where
 frames:A.frames=g outer
 mod:Mod K mg base
 bs:∀b o,base.get? b=g o->s.heap.get? b=g o/\H b=U
 bsz:base.objs.size<=⇑s
 funs:s.heap.FunFrames base outer
 frf:∀b∈Tj outer,H b=U
 hok:cJ P w H s.heap
 bare:kL s.gens
def CE(outer:List mB)(P:eY)(w:fF)(H:Hp)(s:eO)(Q:VK)(u:eJ)(s':eO):Prop:=
 ∃v B,s'.os=s.os/\kL s'.gens/\Un (Tj outer) [] H B s.heap s'.heap/\cJ P w B s'.heap/\Az v u/\Q v B
def CR(CX:IF)(outer:List mB)(P:eY)(w:fF)(H:Hp)(s:eO)(Q:VK)(E:XK)(r:sZ)(s':eO):Prop:=
 match r with
 |.ok (.ret u)=>CE outer P w H s Q u s'
 |.ok _=>False
 |.error e=>CX outer H s E e s'
structure Bp(P:eY)(w:fF)(K:a')(mg:eU->Option eJ)(base:fK)(CX:IF)(k:Nat)(f:J)(fd:m_)(ps:List eU)(sp:Sp):Prop where
 len:∀vs H Q E,sp vs H Q E->vs.length=ps.length
 run:∀(A:fL) (outer:List mB) (s:eO) (H:Hp) (args:Args) (us:List eJ) (vs:List V) (Q:VK) (E:XK),Bv k A->dC P w K mg base A outer s H->qI s fd args (ps.zip us)->Ap vs us->sp vs H Q E ->
  jI (fC P w) A (.call (.ref f) args) (CR CX outer P w H s Q E) s
def Bp.mono{P}{w}{K}{mg:eU->Option eJ}{B}{CX}{j k:Nat}{f}{M}{ps}{sp}(F:Bp P w K mg B CX j f M ps sp)(h:j<=k) :
  Bp P w K mg B CX k f M ps sp:=[F.len,λA C s H L N O Q E R=>F.run A C s H L N O Q E (R.mono h)]
def dC.make{P}{w}{K}{mg:eU->Option eJ}{B}{A}{outer}{s}{H}(e:dC P w K mg B A outer s H)(C:J)(us:List eJ)(j:List (eU×eJ)) :
  dC P w K mg B (A.under (.builtin "type.__call__" [.ref C::us,j])) outer s H:=[by first|exact e.frames|(simpa[rM,Code.envs,sG,pushEnvs]using e.frames),e.mod,e.bs,e.bsz,e.funs,e.frf,e.hok,e.bare]
section
variable {X:Cx} {pins:List (J×gS)} {σ:St} {H:Hp} {s s':eO}
def Ak.env0(B:Ak X pins σ H s):dC X.prog X.w X.K X.mg X.base X.A X.stack s H:=
 [B.ok.frames,B.ok.mod,B.bs,fO B.ok.bsz B.sz,B.stack,B.stkFree,B.hok,B.bare]
def Ak.after{Q:VK}{u:eJ}(C:Ak X pins σ H s)(h:CE X.stack X.prog X.w H s Q u s'):EP X pins σ Q u s':=by
 let[v,M,O,j,N,F,r,q]:=h;let[S,B,d,t,L]:=s';obtain rfl:L=s.os:=O;exact[v,M,C.call (h':=S) (g':=B) (d':=d) (t':=t) (ch:=[]) N F j (λb z=>fA z zZ),r,q]
end
def B1(sp:Sp)(B:List V)(E:XK)(t:TA):TE:=λL H Q=>t L H λM C=>sp (M++B) C Q E
inductive UM(C:J)(m:eU)(x:V)(H:Hp)(R:Prop):Prop
 |mk (a dx:J) (fs:List (eU×V)) (e:x=.ref a) (h:H a=g (.ins C dx fs)) (n:fs.lookup m=U) (q:R)
def U3(C:J)(m:eU)(sp:Sp)(B:List V)(E:XK)(O:TE)(t:TA):TE:=λL H Q=>O L H λx M=>UM C m x M (t L M λP N=>sp (x::(P++B)) N Q E)
def B0(C:J)(sp:Sp)(L:List V)(E:XK)(t:TA):TE:=λN H Q=>t N H λP M=>∀x B,M x=U->M B=U->B≠x ->
 sp (.ref x::(P++L)) (upd (upd M B (.own x)) x (.ins C B [])) (λv O=>v=.non/\Q (.ref x) O) E
def Hi(K:a')(C:m_)(ps:List eU)(ds:List eJ):Prop:=
 ∀(s:eO) (B:List eJ),K.In s.heap->(B++ds).length=ps.length->qI s C [B,[]] (ps.zip (B++ds))
def Hi.all{K}{B}{ps}(h:∀us:List eJ,us.length=ps.length->nY B [us,[]]=pure (ps.zip us)):Hi K B ps []:=λs us x C=>by
 rw[lq]at C⊢;exact .of_eq (h us C)
def Km(CX:IF)(X:Cx)(E:XK):Prop:=∀(B:List (J×gS)) (L:St) (H:Hp) (s:eO) (e:eJ) (C:eO),Ak X B L H s->CX X.stack H s E e C->X.xe e C
section
variable {X:Cx} {CX:IF} {k:Nat} {f C:J} {fd:m_} {ps:List eU} {sp:Sp} {dvs:List V} {ds:List eJ} {E:XK} {x m:eU} {p pos apos:nA} {e o:gK} {es:List gK} {ta:TE} {t:TA}
def Te{pins:List (J×gS)}{s:eO}{Q:VK}{us:List eJ}{vs:List V}(F:Bp X.prog X.w X.K X.mg X.base CX k f fd ps sp)(T:Bv k X.A)(O:Hi X.K fd ps ds)(S:Ap dvs ds)(N:Km CX X E)
  (B:Ak X pins b H s) (r:Ap vs us) (h:sp (vs++dvs) H Q E):eV (fC X.prog X.w) X.A (call (.ref f) us) (EP X pins b Q) X.xe s:=by
 let L:Ap (vs++dvs) (us++ds):=r.append S;let R:(us++ds).length=ps.length:=by rw[<- L.length];exact F.len _ _ _ _ h
 refine iE (hJ (F.run X.A X.stack s H [us,[]] (us++ds) (vs++dvs) Q E T B.env0 (O s us B.kIn R) L h) λr P j=>?_);cases r with
 |error e=>exact N pins b H s e P B j
 |ok M=>
  cases M with
  |ret u=>exact B.after j
  |next=>exact fS j
  |brk=>exact fS j
  |cont=>exact fS j
def JS(F:Bp X.prog X.w X.K X.mg X.base CX k f fd ps sp)(A:Bv k X.A)(B:Gl X x)(W:X.mg x=g (.ref f))(S:js X.K (.ref f)=eP)(b:Hi X.K fd ps ds)(M:Ap dvs ds)(T:Km CX X E)
  (O:PA X (e::es) t) (j:(x==("__debug__" : eU))=eM:=by lk) (c:eX (e::es) X.env=(eM,gC e X.env)::eX es X.env:=by rfl) (R:(gH pos (eX es X.env)).any (·.1)=eM:=by rfl) :
  PE X (.Call (.Name x p) (e::es) [] pos) (B1 sp dvs E t):=by
 intro P s K H Q N h;refine gB (Ev N B W ?_ j);refine pi (h₀:=X.base) N.ok.mod.kin S (Ct (O pos P s K H _ N h) λv d ⟨l,u,L,r,q⟩=>[L.kIn,?_]) c R;exact Te F A b M T L r q
def KF{pl:rV Bool}(he:PE X o ta)(c:dD X.K C)(N:K6 X.K C m f)(F:Bp X.prog X.w X.K X.mg X.base CX k f fd ps sp)(b:Bv k X.A)(w:Hi X.K fd ps ds)(O:Ap dvs ds)(y:Km CX X E)(M:PA X (e::es) t)
  (j:eX (e::es) X.env=(eM,gC e X.env)::eX es X.env:=by rfl) (R:(gH pos (eX es X.env)).any (·.1)=eM:=by rfl)
  (ht:gC (.Call (.Attribute o m apos) (e::es) [] pos) X.env=(do
   let T <- gC o X.env
   kF apos.atName
   let (f,first) <- iY #[T] (jH T m pl)
   kN pos f first (gH pos (eX (e::es) X.env)) (jM pos (hX [] X.env))):=by rfl) :
  PE X (.Call (.Attribute o m apos) (e::es) [] pos) (U3 C m sp dvs E ta t):=by
 intro P s W H Q B h;refine tj (pl:=pl) (Ct (he P s W H _ B h) λu z i=>?_) ht;let[x,v,S,d,a,dx,fs,n,K,l,q]:=i;subst n;obtain rfl:u=fD a:=d;refine Gc S K c N l ?_;refine pi (first:=#[.ref a]) (h₀:=X.base) B.ok.mod.kin N.kp (Ct (M pos P z W v _ S q) λus s2 ⟨vs,H2,L,r,A⟩=>[L.kIn,?_]) j R;exact Te (us:=.ref a::us) (vs:=.ref a::vs) F b w O y L (.cons I r) A
def FK{pl:rV Bool}(O:PE X o ta)(c:dD X.K C)(L:K6 X.K C m f)(F:Bp X.prog X.w X.K X.mg X.base CX k f fd ps sp)(A:Bv k X.A)(B:Hi X.K fd ps ds)(S:Ap dvs ds)(T:Km CX X E)
  (M:gC (.Call (.Attribute o m apos) [] [] pos) X.env=(do
   let R <- gC o X.env
   kF apos.atName
   let (f,first) <- iY #[R] (jH R m pl)
   kN pos f first (gH pos (eX [] X.env)) (jM pos (hX [] X.env))):=by rfl) :
  PE X (.Call (.Attribute o m apos) [] [] pos) (U3 C m sp dvs E ta F8):=by
 intro P s K H Q N h;refine tj (pl:=pl) (Ct (O P s K H _ N h) λu v r=>?_) M;let[x,z,j,d,a,w,y,b,W,l,q]:=r;subst b;obtain rfl:u=fD a:=d;refine Gc j W c L l ?_;exact mH (first:=#[.ref a]) j.kIn L.kp (Te (us:=#[.ref a]) (vs:=#[.ref a]) F A B S T j (.cons I .nil) q)
structure Mk(K:a')(C f:J):Prop where
 makes:vo K C=eP
 init:ia K (.ref C) "__init__"=g (g (.ref f))
 fn:pu K (.ref f)=eP
 kp:js K (.ref C)=eP
def Zg{pins:List (J×gS)}{s:eO}{Q:VK}{us:List eJ}{vs:List V}(M:Mk X.K C f)(F:Bp X.prog X.w X.K X.mg X.base CX k f fd ps sp)(c:Bv (k+1) X.A)(z:Hi X.K fd ps ds)(B:Ap dvs ds)
  (W:Km CX X E) (O:Ak X pins b H s) (r:Ap vs us)
  (h:∀x R,H x=U->H R=U->R≠x->sp (.ref x::(vs++dvs)) (upd (upd H R (.own x)) x (.ins C R [])) (λv q=>v=.non/\Q (.ref x) q) E) :
  eV (fC X.prog X.w) X.A (call (.ref C) us) (EP X pins b Q) X.xe s:=by
 let N:=h (⇑s+1) ⇑s (O.hok.fresh (nh _)) (O.hok.fresh (b' _)) (fj (vn _));let L:=Ak.made (C:=C) O;let S:Ap (V.ref (⇑s+1)::(vs++dvs)) (fD (⇑s+1)::(us++ds)):=.cons I (r.append B);let y:(fD (⇑s+1)::us++ds).length=ps.length:=by
  let e:=S.length;rw[F.len _ _ _ _ N]at e;exact e.symm
 refine iE (EB (f:=f) O.kIn M.makes M.init (beq_iff_eq.mp M.fn) (hJ (F.run _ X.stack _ _ [fD (⇑s+1)::us,[]] (fD (⇑s+1)::(us++ds)) _ _ E (c.make C us [])
  (L.env0.make C us []) (z _ (fD (⇑s+1)::us) L.kIn y) S N) λr w j=>?_))
 cases r with
 |error e=>exact W pins b _ _ e w L j
 |ok A=>
  cases A with
  |ret u=>
   let[v,K,P,T,l,d]:=L.after j;subst l;exact[T,[V.ref (⇑s+1),K,P,I,d]]
  |next=>exact fS j
  |brk=>exact fS j
  |cont=>exact fS j
def T7(M:Mk X.K C f)(F:Bp X.prog X.w X.K X.mg X.base CX k f fd ps sp)(K:Bv (k+1) X.A)(P:Gl X x)(A:X.mg x=g (.ref C))(B:Hi X.K fd ps ds)(S:Ap dvs ds)(W:Km CX X E)
  (N:PA X (e::es) t) (j:(x==("__debug__" : eU))=eM:=by lk) (c:eX (e::es) X.env=(eM,gC e X.env)::eX es X.env:=by rfl) (T:(gH pos (eX es X.env)).any (·.1)=eM:=by rfl) :
  PE X (.Call (.Name x p) (e::es) [] pos) (B0 C sp dvs E t):=by
 intro R s b H Q O h;refine gB (Ev O P A ?_ j);refine pi (h₀:=X.base) O.ok.mod.kin M.kp (Ct (N pos R s b H _ O h) λv d ⟨l,u,L,r,q⟩=>[L.kIn,?_]) c T;exact Zg M F K B S W L r q
def HV(M:Mk X.K C f)(F:Bp X.prog X.w X.K X.mg X.base CX k f fd ps sp)(T:Bv (k+1) X.A)(S:Gl X x)(N:X.mg x=g (.ref C))(P:Hi X.K fd ps ds)(L:Ap dvs ds)(O:Km CX X E)
  (j:(x==("__debug__" : eU))=eM:=by lk):PE X (.Call (.Name x p) [] [] pos) (B0 C sp dvs E F8):=by
 intro R s W H Q B h;refine gB (Ev B S N ?_ j);exact mH B.kIn M.kp (Zg (us:=[]) M F T P L O B .nil h)
end
structure Bg(N P:List eU)(sc:kU):Prop where
 kind:sc.kind=.function
 co:sc.isCoroutine=eM
 gen:sc.isGenerator=eM
 nd:N.Nodup
 pre:N.take P.length=P
 par:∀x∈P,sc.names.lookup x=g .local\/sc.names.lookup x=g .cell
 nofree:∀y∈sc.names,y.2≠.free
theorem Wg{j:eU->Option jE}{x:eU}:∀{B} {m:eU->Option eJ},(∀v,(x,v)∉B)->sV j B m x=m x
 |[],_,_=>rfl
 |(n,v)::r,m,h=>by
  unfold sV;rw[Wg λw F=>h w (e_ _ F)]
  split
  .have:x≠n:=by rintro rfl;exact h v fk
   simp[this]
  .rfl
theorem Wb{j:eU->Option jE}{x:eU}:∀{B} {m:eU->Option eJ},(∀v,(x,v)∉B)->sW j B m x=m x
 |[],_,_=>rfl
 |(n,v)::r,m,h=>by
  unfold sW;rw[Wb λw F=>h w (e_ _ F)]
  split
  .rfl
  .have:x≠n:=by rintro rfl;exact h v fk
   simp[this]
theorem Us{j:eU->Option jE}{x:eU}{v:eJ}:∀{P:List eU} {vs:List eJ} {i:Nat} {m:eU->Option eJ},P.Nodup->P[i]?=g x->vs[i]?=g v->j x=g .local ->
  sV j (P.zip vs) m x=g v
 |[],_,_,_,_,h,_,_=>by simp at h
 |_::_,[],_,_,_,_,h,_=>by simp at h
 |p::P,w::vs,0,m,S,C,F,L=>by
  simp at C F;subst C;subst F;show sV j ((p,w)::P.zip vs) m p=_;unfold sV;rw[Wg λv B=>(lj.mp S).1 (wj B).1,eR L];simp
 |p::P,w::vs,i+1,m,S,C,F,L=>by
  show sV j ((p,w)::P.zip vs) m x=_;unfold sV;exact Us (i:=i) (lj.mp S).2 (by simpa using C) (by simpa using F) L
theorem Vl{j:eU->Option jE}{x:eU}{v:eJ}:∀{P:List eU} {vs:List eJ} {i:Nat} {m:eU->Option eJ},P.Nodup->P[i]?=g x->vs[i]?=g v->j x≠g .local ->
  sW j (P.zip vs) m x=g v
 |[],_,_,_,_,h,_,_=>by simp at h
 |_::_,[],_,_,_,_,h,_=>by simp at h
 |p::P,w::vs,0,m,S,C,F,L=>by
  simp at C F;subst C;subst F;show sW j ((p,w)::P.zip vs) m p=_;unfold sW;rw[Wb λv B=>(lj.mp S).1 (wj B).1,eQ L];simp
 |p::P,w::vs,i+1,m,S,C,F,L=>by
  show sW j ((p,w)::P.zip vs) m x=_;unfold sW;exact Vl (i:=i) (lj.mp S).2 (by simpa using C) (by simpa using F) L
def Eh(N:List eU)(vs:List V):St:=vs.map g++kq (N.length-vs.length) U
def Hb(CX:IF)(P:eY)(w:fF)(K:a')(mg:eU->Option eJ)(base:fK)(N:List eU)(qual:eU)(scope:kU)(f:J)(C:eJ)(A:fL)(outer:List mB)(s:eO)(H:Hp)(E:XK):Cx where
 prog:=P
 w:=w
 K:=K
 mg:=mg
 base:=base
 A:=A.deeper (iI qual scope ⇑s f C)
 N:=N
 s₀:=s
 H₀:=H
 env:=iI qual scope ⇑s f C
 outer:=outer
 stack:=iI qual scope ⇑s f C::outer
 ex:=[]
 calm:=eP
 fn:=λx=>eP
 pn:=[]
 xe:=λe L=>eV (fC P w) (A.deeper (iI qual scope ⇑s f C)) (vH (iI qual scope ⇑s f C) e) (λx B=>CX outer H s E e B) (λM B=>CX outer H s E M B) L
def F7{B:kU}{n:Nat}{x:eU}(h:B.names.lookup x=g .cell):∃c,(oJ n B.names []).lookup x=g c:=by
 let q:=wR B.names n [] (.inl h);exact vg.mp q
def Ou{CX:IF}{P:eY}{w:fF}{K:a'}{mg:eU->Option eJ}{C:fK}{N ps:List eU}{qual:eU}{scope:kU}{f:J}{W:eJ}{A:fL}{outer:List mB}{s F:eO}{H:Hp}{E:XK}{us:List eJ}{vs:List V}
  (S:Bg N ps scope) (m:A.handled=U) (L:dC P w K mg C A outer s H) (hl:vs.length=ps.length) (r:Ap vs us)
  (x:InCallC s ⇑s (sV (iI qual scope ⇑s f W).kindOf (ps.zip us) λ_=>U) (oJ (⇑s+1) scope.names []) (sW (iI qual scope ⇑s f W).kindOf (ps.zip us) λ_=>U) F) :
  Ak (Hb CX P w K mg C N qual scope f W A outer s H E) [] (Eh N vs) H F:=by
 let t:ps.length<=N.length:=by let:=gF mL S.pre;rw[hQ]at this;lia
 let[T,tk,rfl,j]:=x.done;let M:∀b:J,b∉(Hb CX P w K mg C N qual scope f W A outer s H E).ex:=λb z=>fA (show b∈([]:List J) from z) zZ;refine[[L.mod,S.kind,I,I,b' _,λy z c T B=>?_,λy O=>?_,λy c _ h=>?_,λ_=>m,sI L.frames,.inr [I,I],λb z=>fA z (M b),L.bs,L.bsz,λb _ _=>M b,λb z=>fA z (M b),L.funs,L.frf],
  I,L.bare,Un.kept j,[_,x.toInCall.ns,λi y v T B h3=>?_],λy c h=>[_,x.cell y c h],L.hok.fresh (b' _),λy c h=>?_,λp Q=>fA (show p∈([]:List (J×gS)) from Q) zZ,L.hok.kept j,?_]
 .exact name_of_addr x.apart (gL T) (gL B)
 .have O:scope.names.lookup y=g .cell\/scope.names.lookup y=g .free:=O
  rcases O with O|O
  .exact F7 O
  .exact fA I (S.nofree _ (gL O))
 .exact uu (x.above y c (gL h))
 .have X:i<vs.length:=by
   unfold Eh at B;by_cases X:i<vs.length
   .exact X
   .rw[wU (by simpa using X)]at B
    rw[rX]at B
    split at B<;>cases B
  let o:vs[i]?=g v:=by
   unfold Eh at B;rw[rB (by simpa using X),jk]at B;cases e:vs[i]? with
   |none=>rw[e]at B;cases B
   |some a=>rw[e]at B;cases B;rfl
  let[u,d,l]:=r.get o;let Q:ps[i]?=g y:=by
   rw[<- S.pre,List.getElem?_take_of_lt Z];exact T
  let R:ps.Nodup:=by rw[<- S.pre];exact S.nd.sublist (oM _ _)
  refine[u,l,?_];rcases S.par y (kS Q)with k|k
  .exact .inl [k,Us R Q d k]
  .let[c,e]:=F7 (n:=⇑s+1) k
   refine .inr [.inl k,c,e,?_];let q:=x.cell y c e;rw[Vl R Q d (by show scope.names.lookup y≠_;rw[k];decide)]at q;exact q
 .exact L.hok.fresh (uu (x.above y c (gL h)))
 .unfold Eh
  show _=N.length;rw[fy,cn,vh]
  lia
def Yq{CX}{P}{w}{K}{mg:eU->Option eJ}{W}{k:Nat}{f}{name qual}{j}{X}{scope}{dV kV M h T ct oc}{a od}
  {ad} {N ps} {sp} (lk:K.lookup f=g [oc,od,.func (i' name qual j X scope dV kV M h a T ct),ad]) (ab:nN K T qual=eP) (S:Bg N ps scope)
  (l:∀vs H Q E,sp vs H Q E->vs.length=ps.length)
  (F:∀(A:fL) (outer:List mB) (s:eO) (H:Hp) (vs:List V) (Q:VK) (E:XK),Bv k (A.deeper (iI qual scope ⇑s f T))->sp vs H Q E ->
   ∃t,PSs (Hb CX P w K mg W N qual scope f T A outer s H E) X t/\t { nx:=λ_ H'=>Q .non H',rt:=Q } (Eh N vs) H) :
  Bp P w K mg W CX (k+1) f (i' name qual j X scope dV kV M h a T ct) ps sp:=by
 refine[l,λA outer s H ae us vs Q E p C hb r aa=>?_];let hl:=l _ _ _ _ aa;let KX:K.In s.heap:=C.mod.kin.keeps λb o e=>(C.bs b o e).1;let ac:s.heap.NoLimit:=C.mod.nolimit.keeps λb o e=>(C.bs b o e).1;let L:∀y∈ps.zip us,scope.names.lookup y.1=g .local\/(scope.names.lookup y.1=g .cell/\((oJ (⇑s+1) scope.names []).lookup y.1).isSome=eP):=λ⟨n,v⟩ hy=>by
  rcases S.par n (wj hy).1 with q|q
  .exact .inl q
  .exact .inr [q,wR _ _ _ (.inl q)]
 refine wC p.depth (KX _ _ lk) I S.co S.gen I (tH KX ab) (hb _ _ _ _ ?_);refine lE S.kind L λa0 he i x=>?_;subst he;refine[ac.keeps x.toInCall.keep,codeAny_func ?_];let[t,ht,hq]:=F A outer s H vs Q E (p.deeper _) aa;let B:Ak (Hb CX P w K mg W N qual scope f T A outer s H E) [] (Eh N vs) H i:=Ou S p.hd C hl r x;refine gI (ht [] i (Eh N vs) H _ B hq) (λfl z d=>?_) λe z d=>d;let O:∀{c:St} {H':Hp} {v:V} {u:eJ},Ak (Hb CX P w K mg W N qual scope f T A outer s H E) [] c H' z->Az v u->Q v H'->CE outer P w H s Q u z:=
  λ{c H' v u} R m q=>[v,H',R.os,R.bare,R.base,R.hok,m,q]
 cases fl with
 |ret u=>
  let[v,c,H',R,m,q]:=d;exact O R m q
 |next=>
  let[c,H',R,q]:=d;exact O (v:=V.non) (u:=fP) R I q
 |brk=>
  let[_,_,_,q]:=d;exact fS q
 |cont=>
  let[_,_,_,q]:=d;exact fS q
section
variable {X:Cx} {x:eU} {p pos:nA} {e:gK} {es:List gK} {t:TA} {id T:String} {r:List V->Hp->VK->Prop}
def aG(r:List V->Hp->VK->Prop)(t:TA):TE:=λC H Q=>t C H λL B=>r L B Q
def Cw(F:Fm X (.builtin id) r)(S:Gl X x)(B:X.mg x=U)(d:fz x=g (.builtin id))(j:PA X (e::es) t)(C:x ≠ "__name__":=by lk)(R:(x==("__debug__" : eU))=eM:=by lk)
  (f:eX (e::es) X.env=(eM,gC e X.env)::eX es X.env:=by rfl) (P:(gH pos (eX es X.env)).any (·.1)=eM:=by rfl):PE X (.Call (.Name x p) (e::es) [] pos) (aG r t):=by
 intro O s W H Q M h;refine gB (Fy M S B d ?_ C R);exact jS (Ct (j pos O s W H _ M h) λc A ⟨K,b,L,N,E⟩=>F O A W b K c Q L N E) f P
def Em(F:Fm X (.type T) r)(S:Gl X x)(B:X.mg x=U)(d:fz x=g (.type T))(j:PA X (e::es) t)(C:x ≠ "__name__":=by lk)(R:(x==("__debug__" : eU))=eM:=by lk)
  (f:eX (e::es) X.env=(eM,gC e X.env)::eX es X.env:=by rfl) (P:(gH pos (eX es X.env)).any (·.1)=eM:=by rfl):PE X (.Call (.Name x p) (e::es) [] pos) (aG r t):=by
 intro O s W H Q M h;refine gB (Fy M S B d ?_ C R);exact gG (Ct (j pos O s W H _ M h) λc A ⟨K,b,L,N,E⟩=>F O A W b K c Q L N E) f P
end
end L2
namespace HT
open PySem PyProof.Rows
def lexLt:List Int->List Int->Bool
 |[],[]=>eM
 |[],_::_=>eP
 |_::_,[]=>eM
 |x::C,y::B=>if x=y then lexLt C B else decide (x<y)
def lexLt_cons(x y:Int)(xs ys:List Int):lexLt (x::xs) (y::ys)=if x=y then lexLt xs ys else decide (x<y):=rfl
section
variable {prog:eY} {w:fF} {A:fL} {E:eJ->eO->Prop} {s:eO}
def cat_tup{t b:J}{vs j:List eJ}{Q:eJ->eO->Prop}(c:tO s.heap t vs.toArray)(d:tO s.heap b j.toArray)(W:vs≠[])
  (K:j=[]->Q (.ref t) s) (X:j≠[]->Q (.ref ⇑s) { s with heap:=s.heap.push { cls:=.type "tuple",data:=.seq (vs++j).toArray } })
  (hsz:vs.length+j.length<=sizeLine):eV (fC prog w) A (jD .Add (.ref t) (.ref b)) Q E s:=by
 let[[cls,O,data,P],M,T,n,R]:=id c;let[[k,S,f,L],F,C,N,H]:=id d;simp only at T R C H;subst T R C H;let e:vs.toArray++j.toArray=(vs++j).toArray:=by simp
 by_cases B:j=[]
 .exact vL [_,M,I] [_,F,I] qU uG lG kX (kR _ _)
   (tuple_addW1 t b vs.toArray j.toArray n N O S P L (by simpa using W) (by simp[B])) [M,F,K B]
 .refine vL [_,M,I] [_,F,I] qU uG lG kX (kR _ _)
   (tuple_addW2 t b vs.toArray j.toArray n N O S P L (by simpa using W) (by simpa using B) (by rw[dw,dw];exact hsz)) [M,F,?_]
  rw[e];exact X B
def sIx(n d:Nat):Option Int->Nat
 |none=>d
 |some v=>if v<0 then(v+(n:Int)).toNat else min v.toNat n
def sIx_none(n d:Nat):sIx n d U=d:=rfl
def sIx_nat(n d k:Nat):sIx n d (g (k:Int))=min k n:=by
 show(if (k:Int)<0 then((k:Int)+(n:Int)).toNat else min (k:Int).toNat n)=min k n;rw[eQ Z,wK]
def PL(n d:Nat)(F:d<=n)(o:Option Int):sIx n d o<=n:=by
 cases o with
 |none=>exact F
 |some v=>
  show(if v<0 then(v+(n:Int)).toNat else min v.toNat n)<=n;by_cases j:v<0
  .rw[eR j];lia
  .rw[eQ j];exact Nat.min_le_right _ _
def S0(v:Int)(n d:Nat):(if v<0 then max (v+(n:Int)) 0 else min v (n:Int))=((sIx n d (g v):Nat):Int):=by
 show(if v<0 then max (v+(n:Int)) 0 else min v (n:Int))=(((if v<0 then(v+(n:Int)).toNat else min v.toNat n):Nat):Int);by_cases j:v<0
 .simp only[eR j];lia
 .simp only[eQ j];lia
def P5(lo B:Option Int)(n:Nat):kH lo B 1 (n:Int)=(((sIx n 0 lo:Nat):Int),((sIx n n B:Nat):Int)):=by
 let C:¬((1:Int)<0):=by lia
 unfold kH;simp only[C,jP];refine Prod.ext ?_ ?_
 .cases lo with
  |none=>rfl
  |some v=>exact S0 v n 0
 .cases B with
  |none=>rfl
  |some v=>exact S0 v n n
def K5(i j:Nat):iV (i:Int) (j:Int) 1=j-i:=by
 unfold iV;let B:(1:Int)>0:=by lia
 simp only[B,lY,Int.ediv_one]
 split<;>lia
def Sy{v:eJ}{o:Option Int}{Q:Option Int->eO->Prop}(p:rC v o)(h:Q o s):eV (fC prog w) A (Builtin.Slice.slicePartIndex v) Q E s:=by
 cases p with
 |none=>exact slicePart_none h
 |int i t=>exact slicePart_int h
def On{lo B:Option Int}{n:Nat}{Q:Int×Int×Nat->eO->Prop}(C:s.heap.IsSliceOf d c b .none)(pl:rC c lo)(S:rC b B)
  (h:Q (((sIx n 0 lo:Nat):Int),1,sIx n n B-sIx n 0 lo) s):eV (fC prog w) A (nJ (.ref d) (pure (n:Int))) Q E s:=by
 let[H,F,L,j]:=id C;unfold nJ Builtin.Slice.sliceFields;refine a_ (a_ (gQ F j (x:=c) I (a_ (gQ F j (x:=b) I (a_ (gQ F j (x:=.none) I (b_ ?_)))))));refine a_ (slicePart_none ?_);show eV _ _ (if ((1:Int)==0)=eP then _ else _) _ _ s;rw[eQ Y];refine a_ (Sy pl (a_ (Sy S (a_ (b_ ?_)))));show eV _ _ (match kH lo B 1 (n:Int)with|(lo,B)=>pure (lo,(1:Int),iV lo B 1)) _ _ s;rw[P5 lo B n];show eV _ _ (pure (((sIx n 0 lo:Nat):Int),(1:Int),iV ((sIx n 0 lo:Nat):Int) ((sIx n n B:Nat):Int) 1)) _ _ s;rw[K5];exact b_ h
def FP(xs:Array eJ)(i k:Nat):((kw k).filterMap λ(m:Nat)=>xs[((i:Int)+(m:Int)*1).toNat]?).toArray=((xs.toList.drop i).take k).toArray:=by
 let e:(λ(m:Nat)=>xs[((i:Int)+(m:Int)*1).toNat]?)=λm=>xs[i+m]?:=by
  funext m
  let:((i:Int)+(m:Int)*1).toNat=i+m:=by lia
  rw[this]
 rw[e];let:=pick_run xs i k;rw[List.filterMap_map]at this;let j:((λx=>xs[x]?) ∘ λx=>i+x)=λm=>xs[i+m]?:=rfl;rw[j]at this;rw[this]
def getItem_tuple_cut{t P}{items}{W T}{lo C:Option Int}{Q:eJ->eO->Prop}(H:tO s.heap t items)(R:s.heap.IsSliceOf P W T .none)(pl:rC W lo)(X:rC T C)
  (F:¬(sIx items.size 0 lo=0/\sIx items.size items.size C=items.size))
  (h:Q (.ref ⇑s) { s with heap:=s.heap.push { cls:=.type "tuple",data:=.seq ((items.toList.drop (sIx items.size 0 lo)).take (sIx items.size items.size C-sIx items.size 0 lo)).toArray } })
  (hsz:items.size<=sizeLine):eV (fC prog w) A (oH (.ref t) (.ref P)) Q E s:=by
 let B:sizeOk (.seq ((items.toList.drop (sIx items.size 0 lo)).take (sIx items.size items.size C-sIx items.size 0 lo)).toArray):=by
  show((items.toList.drop (sIx items.size 0 lo)).take (sIx items.size items.size C-sIx items.size 0 lo)).toArray.size<=sizeLine;rw[dw,hQ,rx,hH]
  lia
 let b:sIx items.size items.size C<=items.size:=PL _ _ (b' _) C;let[K,N,O,S]:=id R;let M:s.TypeIs (.ref P) "slice":=[K,N,O];unfold oH
 try with_reducible refine fV ?_
 first|refine a_ (b_ ?_)|skip
 refine a_ (wpAny_sequenceKey H.typeIs Y ?_);refine a_ (iS (name:=fM "__getitem__") H.typeIs mI
  (gR mI H.typeIs entry_tuple_getitem ?_ (args_tuple_getitem _ _)))
 show eV _ _ (Builtin.Tuple.tupleItemsOf (.ref t) >>= _) _ _ s;refine a_ (tupleItemsOf_ H ?_);refine a_ (mM M ?_);rw[eR Y];refine a_ (On R pl X ?_);let L:¬((((sIx items.size 0 lo:Nat):Int)==0&&(1:Int)==1&&(sIx items.size items.size C-sIx items.size 0 lo)==items.size)=eP):=by
  intro q;rw[gd,gd]at q;let c:((sIx items.size 0 lo:Nat):Int)=0:=eq_of_beq q.1.1;let d:sIx items.size items.size C-sIx items.size 0 lo=items.size:=eq_of_beq q.2;exact F [Z,Z]
 show eV _ _ (if (((sIx items.size 0 lo:Nat):Int)==0&&(1:Int)==1&&(sIx items.size items.size C-sIx items.size 0 lo)==items.size)=eP then _ else _) _ _ s;rw[eQ L,FP]
 first
  |exact a_ (m:=jA _) (gM (b_ [_,I,b_ h]) B)
  |exact a_ (m:=jA _) (gM (a_ (b_ (b_ [_,I,b_ h]))) B)
  |exact a_ (a_ (m:=jA _) (gM (b_ (b_ [_,I,b_ h])) B))
  |exact a_ (a_ (m:=jA _) (gM (b_ [_,I,b_ h]) B))
end
end HT
namespace L2
open PySem PySem.Spec PyProof.Rows
abbrev TO:=St->Hp->(Option Int->Hp->Prop)->Prop
def PO(X:Cx)(e:Option gK)(t:TO):Prop:=
 ∀(B:List (J×gS)) (s:eO) (C:St) (H:Hp) (Q:Option Int->Hp->Prop),Ak X B C H s->t C H Q ->
  eV (fC X.prog X.w) X.A (evalPart e X.env) (λu M=>∃o L,Ak X B C L M/\rC u o/\Q o L) X.xe s
def Qm:TO:=λx H Q=>Q U H
inductive ZQ(x:V)(H:Hp)(Q:Option Int->Hp->Prop):Prop
 |mk (i:Int) (e:x=.int i) (q:Q (g i) H)
def W9(t:TE):TO:=λC H Q=>t C H λx B=>ZQ x B Q
def Sn{ns:List Int}:∀{us},Ap (ns.map V.int) us->iP us ns:=by
 induction ns with
 |nil=>intro us r;rw[sA]at r;cases r;exact .nil
 |cons n ns B=>
  intro us r;rw[iw]at r;cases r with
  |cons j F=>
   let[t,e]:=j;subst e;exact .cons n t (B F)
section
variable {X:Cx} {e:gK} {te:TE} {lo hi:Option gK} {tl th:TO} {pos p2:nA}
def Ey:PO X U Qm:=by
 intro C s L H Q B h;rw[evalPart_none];exact b_ [U,H,B,.none,h]
def Eu(h:PE X e te):PO X (g e) (W9 te):=by
 intro N s O H Q C F;rw[evalPart_some];refine Ct (h N s O H _ C F) λu M S=>?_;let[x,P,j,L,B]:=S;let[i,rfl,q]:=B;let[t,rfl]:=L;exact[g i,P,j,.int i t,q]
def SK(X:Cx)(r:V->Option Int->Option Int->Hp->VK->Prop):Prop:=
 ∀(B:List (J×gS)) (s:eO) (C:St) (H:Hp) (x:V) (v N L:eJ) (lo hi:Option Int) (M:J) (Q:VK),Ak X B C H s->Az x v->s.heap.IsSliceOf M N L .none->rC N lo->rC L hi->r x lo hi H Q ->
  ∃T O,mO (.type T) "__getitem__"=pure (g (.builtin O))/\s.TypeIs v T/\eV (fC X.prog X.w) X.A (oH v (.ref M)) (EP X B C Q) X.xe s
def YH(r:V->Option Int->Option Int->Hp->VK->Prop)(te:TE)(tl th:TO):TE:=λB H Q=>te B H λx L=>tl B L λl C=>th B C λu M=>r x l u M Q
def Ee{r:V->Option Int->Option Int->Hp->VK->Prop}(d:SK X r)(i:PE X e te)(w:PO X lo tl)(z:PO X hi th):PE X (.Subscript e (.Slice lo hi U p2) pos) (YH r te tl th):=by
 intro O s R H Q B h;refine Subscript_ (Ct (i O s R H _ B h) λv y L=>?_);let[x,k,o,m,N]:=L;refine wpAny_Slice (Ct (w O y R k _ o N) λF t ⟨l,M,p,A,K⟩=>Ct (z O t R M _ p K) λj P L=>?_);let[u,W,f,c,S]:=L;rw[evalPart_none];refine b_ ?_;let C:Ak X O R W { P with heap:=P.heap.push { cls:=.type "slice",data:=.fields #v[F,j,.none] } }:=f.kept (t':=P.toks) λb ob q=>dv _ q;let[T,a,hT,n,E]:=d O { P with heap:=P.heap.push { cls:=.type "slice",data:=.fields #v[F,j,.none] } } R W x v F j l u ⇑P Q C m (Heap.IsSliceOf.new ..) A c S;show eV (fC X.prog X.w) X.A (uF e (.Slice lo hi U p2) v (.ref ⇑P)) (EP X O R Q) X.xe { P with heap:=P.heap.push { cls:=.type "slice",data:=.fields #v[F,j,.none] } };exact tail_any (ops:=#[.ref ⇑P,v]) n hT E (by with_unfolding_all rfl)
def Mn(xs:List V)(lo hi:Option Int):List V:=(xs.drop (HT.sIx xs.length 0 lo)).take (HT.sIx xs.length xs.length hi-HT.sIx xs.length 0 lo)
def Ps(xs:List V)(lo hi:Option Int):(Mn xs lo hi).length<=xs.length:=by
 unfold Mn;rw[hQ,rx]
 lia
def FW(K:a'):V->Option Int->Option Int->Hp->VK->Prop:=λx lo hi H Q=>∃a B,x=.ref a/\Bh K H a B /\
 ¬(HT.sIx B.length 0 lo=0/\HT.sIx B.length B.length hi=B.length)/\∀p,H p=U->Q (.ref p) (upd H p (.tup (Mn B lo hi)))
def FM:SK X (FW X.K):=by
 intro P s c H x v K A lo hi d Q M W R N C h;let[a,O,rfl,B,T,q]:=h;cases W;let[F,r,L,S]:=M.tuple B;let j:F.toArray.size=O.length:=by rw[dw];exact r.length.symm
 refine["tuple",_,PyProof.Rows.slot_tuple_getitem.lookup,L.typeIs,?_];refine HT.getItem_tuple_cut L R N C (by rw[j];exact T) ?_ (by rw[j];exact S);rw[j];refine[.ref ⇑s,_,M.laid (t':=s.toks) (o:=.tup (Mn O lo hi)) (λb E q=>dv _ q) (b' _) ?_,I,q _ (M.hok.fresh (b' _))];exact[fO (Ps O lo hi) S,_,(r.drop (HT.sIx O.length 0 lo)).take (HT.sIx O.length O.length hi-HT.sIx O.length 0 lo),IsTup.new _ _]
def XD(K:a'):R2:=λx y H Q=>∃a b C B,x=.ref a/\y=.ref b/\Bh K H a C/\Bh K H b B/\C≠[]/\C.length+B.length<=sizeLine /\
 (B=[]->Q (.ref a) H)/\(B≠[]->∀p,H p=U->Q (.ref p) (upd H p (.tup (C++B))))
def Ap.nil_iff{xs:List V}{us:List eJ}(r:Ap xs us):us=[]↔xs=[]:=by
 cases r with
 |nil=>simp
 |cons _ _=>simp
def LD:Ko X (jD .Add) (XD X.K):=by
 intro O s f H x y v u Q B W C h;let[a,b,R,c,rfl,rfl,M,A,E,S,K,T]:=h;cases W;cases C;let[N,F,P,_]:=B.tuple M;let[L,j,p2,_]:=B.tuple A;refine HT.cat_tup P p2 (λz=>E (F.nil_iff.mp z)) (λz=>[.ref a,H,B,I,K (j.nil_iff.mp z)]) (λz=>?_) (by rw[<- F.length,<- j.length];exact S);refine[.ref ⇑s,_,B.laid (t':=s.toks) (o:=.tup (R++c)) (λb d q=>dv _ q) (b' _) ?_,I,T (λw=>z (j.nil_iff.mpr w)) _ (B.hok.fresh (b' _))];exact[by rw[fy];exact S,_,F.append j,IsTup.new _ _]
end
def GB(n:Nat)(i:Int):Option Nat:=if 0<=i then(if i<n then g i.toNat else U) else if -(n:Int)<=i then g (i+n).toNat else U
def Wv{B:Type}(xs:List B)(i:Int):Option B:=(GB xs.length i).bind λj=>xs[j]?
def V4{n:Nat}{i:Int}{j:Nat}(h:GB n i=g j):seqIndex? i n=g j/\j<n/\-(n:Int)<=i/\i<n:=by
 unfold GB at h;by_cases C:0<=i
 .rw[eR C]at h
  by_cases B:i<n
  .rw[eR B]at h
   let e:i.toNat=j:=gD h;exact[by rw[seqIndex_of C B,e],Z,Z,B]
  .rw[eQ B]at h;cases h
 .rw[eQ C]at h
  by_cases B : -(n:Int)<=i
  .rw[eR B]at h
   let e:(i+n).toNat=j:=gD h;exact[by rw[vE Z B,e],Z,B,Z]
  .rw[eQ B]at h;cases h
def Qi{B:Type}{xs:List B}{i:Int}{v:B}(h:Wv xs i=g v):∃j,seqIndex? i xs.length=g j/\xs[j]?=g v/\j<xs.length/\-(xs.length:Int)<=i/\i<xs.length:=by
 unfold Wv at h;cases e:GB xs.length i with
 |none=>rw[e]at h;cases h
 |some j=>
  rw[e]at h;let[C,L,F,S]:=V4 e;exact[j,C,h,L,F,S]
def Lh{B:Type}{xs:List B}{j:Nat}{v:B}(h:xs[j]?=g v):Wv xs (j:Int)=g v:=by
 let F:j<xs.length:=(hI.mp h).1;let e:GB xs.length (j:Int)=g j:=by
  unfold GB;rw[eR Z,eR Z];simp
 unfold Wv;rw[e];exact h
def FJ{B:Type}(xs:List B)(v:B):Wv (xs++#[v]) (-1)=g v:=by
 let C:(xs++#[v]).length=xs.length+1:=by simp
 let e:GB (xs++#[v]).length (-1)=g xs.length:=by
  unfold GB;rw[C,eQ Y,eR Z]
  congr 1
  lia
 unfold Wv;rw[e];show(xs++#[v])[xs.length]?=g v;simp
def Xb(b:gK):Prop:=∀o i,rD b eM o i=operate #[o,i] (oH o i)
def SE(X:Cx)(r:R2):Prop:=
 ∀(L B:gK) (C:List (J×gS)) (s:eO) (M:St) (H:Hp) (x y:V) (v u:eJ) (Q:VK),Ak X C M H s->Az x v->Az y u->r x y H Q ->
  rD B eM v u=operate #[v,u] (oH v u)->eV (fC X.prog X.w) X.A (uF L B v u) (EP X C M Q) X.xe s
def ZP(X:Cx)(N:String)(r:V->List V->Hp->VK->Prop):Prop:=
 ∀(B:List (J×gS)) (s:eO) (C:St) (H:Hp) (x:V) (L:List V) (v:eJ) (M:List eJ) (Q:VK),Ak X B C H s->Az x v->Ap L M->r x L H Q ->
  eV (fC X.prog X.w) X.A (call (.builtin N) (v::M)) (EP X B C Q) X.xe s
section
variable {X:Cx} {a b:gK} {ta tb:TE} {pos:nA}
def Zm{r:R2}(R:SE X r)(F:PE X a ta)(S:PE X b tb)(P:Xb b):PE X (.Subscript a b pos) (MU r ta tb):=by
 intro O s T H Q M h;exact Subscript_ (OR F S M h λv u C x y L j N B q=>R a b O C T L x y v u Q j N B q (P _ _))
inductive NU(K:a')(x y:V)(H:Hp)(Q:VK):Prop
 |mk (p:J) (xs:List V) (i:Int) (v:V) (e:x=.ref p) (e':y=.int i) (h:Am K H p xs) (a:Wv xs i=g v) (q:Q v H)
inductive OE(K:a')(x y:V)(H:Hp)(Q:VK):Prop
 |mk (p:J) (xs:List V) (i:Int) (v:V) (e:x=.ref p) (e':y=.int i) (h:Bh K H p xs) (a:Wv xs i=g v) (q:Q v H)
inductive aB(x y:V)(H:Hp)(Q:VK):Prop
 |mk (z:eU) (i:Int) (c:Nat) (e:x=.str z) (e':y=.int i) (l:z.length<=sizeLine) (a:Wv z.cps.toList i=g c) (q:Q (.str [#v[c]]) H)
def IL:SE X (NU X.K):=by
 intro R P C s E H x y v u Q B c o h A;let[p,xs,i,z,rfl,rfl,l,n,q]:=h;cases c;let[t,rfl]:=o;let[T,r,N,hz]:=B.list l;let[j,M,S,h3,f,m]:=Qi n;let[w,K,W]:=r.get S;let k:=r.length;let e:=Lr;let L:EP X C E Q w s:=[z,H,B,W,q];by_cases F:0<=i
 .have O:i.toNat=j:=by
   rw[seqIndex_of F m]at M;exact gD M
  exact item_listR N.isList F Z (by rw[O];simpa using K) L A
 .have O:(i+(T.toArray.size:Int)).toNat=j:=by
   rw[vE Z f]at M;rw[dw,<- k];exact gD M
  exact vD (x:=w) N.isList.typeIs slot_list_getitem.lookup
   (wpAny_getItem_list_neg (Q:=λr d=>r=w/\EP X C E Q r d) N.isList Z (by rw[dw]<;>lia) Z (by rw[O];simpa using K) [I,L]) A
def NX:SE X (OE X.K):=by
 intro M L C s R H x y v u Q B E c h W;let[p,o,i,z,rfl,rfl,S,k,q]:=h;cases E;let[t,rfl]:=c;let[A,r,P,n]:=B.tuple S;let[j,d,T,m,e,h5]:=Qi k;let[w,f,O]:=r.get T;let K:=r.length;let l:=Lr;let N:EP X C R Q w s:=[z,H,B,O,q];exact vD (x:=w) P.typeIs slot_tuple_getitem.lookup
  (getItem_tuple (j:=j) (Q:=λr F=>r=w/\EP X C R Q r F) P Z Z (by rw[dw,<- K];exact d) (by simpa using f) [I,N]) W
def L5:SE X aB:=by
 intro O F P s o H x y v u Q B A M h W;let[z,i,c,rfl,rfl,l,S,q]:=h;let[t,rfl]:=A;let[f,rfl]:=M;let[j,R,T,k,N,C]:=Qi S;let E:z.cps.toList.length=z.length:=by simp[Str.length]
 rw[E]at R N C;let d:=Lr;exact tail_any (mP s z t) slot_str_getitem.lookup (getItem_str (c:=c) (by
  let L:decide (i < -(2^63:Int))=eM:=eZ Z;let K:decide (i≥2^63)=eM:=eZ Z;rw[L,K,rK]) (by rw[R];simpa using T) [.str [#v[c]],H,B.tok _,[_,I],q]) W
def O7(its:List eJ)(n j:Nat)(u:eJ):fJ (·.setIfInBounds j u) { cls:=.type "list",data:=.seq its.toArray n }={ cls:=.type "list",data:=.seq (its.set j u).toArray n }:=by
 simp[fJ]
def Ak.lst{pins:List (J×gS)}{s:eO}{p:J}{xs:List V}(B:Ak X pins c H s)(h:H p=g (.lst xs)) :
  ∃(its:List eJ) (n:Nat),Ap xs its/\s.heap.get? p=g { cls:=.type "list",data:=.seq its.toArray n }/\xs.length<=sizeLine:=by
 let[z,its,n,r,e]:=B.hok p _ h;exact[its,n,r,e,z]
def Ak.lstUpd{pins:List (J×gS)}{C:St}{H:Hp}{s:eO}{p:J}{xs ys:List V}{its its':List eJ}{n j:Nat}{f:gS->gS}(B:Ak X pins C H s)(h:H p=g (.lst xs))
  (F:s.heap.get? p=g { cls:=.type "list",data:=.seq its.toArray n }) (M:f { cls:=.type "list",data:=.seq its.toArray n }={ cls:=.type "list",data:=.seq its'.toArray j }) (r:Ap ys its') (N:ys.length<=sizeLine) (t:Nat) :
  Ak X pins C (upd H p (.lst ys)) { s with heap:=s.heap.update p f,toks:=t }:=by
 let e:(s.heap.update p f).get? p=g { cls:=.type "list",data:=.seq its'.toArray j }:=by
  rw[p_ f F (by rw[M]<;>rfl),M]
 refine B.write (x:=p) (e:=p) (by rw[h];trivial) (.inl I) (λb u L q=>(n_ _ _ (fQ L)).trans q) [_,e] ?_;exact[N,its',j,r,e]
inductive WY(o i v:V)(H:Hp)(Q:Hp->Prop):Prop
 |mk (p:J) (xs:List V) (k:Int) (j:Nat) (e:o=.ref p) (e':i=.int k) (h:H p=g (.lst xs)) (a:GB xs.length k=g j) (q:Q (upd H p (.lst (xs.set j v))))
def E2:VX X WY:=by
 intro O s l H o i v m z u Q B d A f h;let[p,K,k,j,rfl,rfl,T,E,q]:=h;cases d;let[t,rfl]:=A;let[F,n,r,S,c]:=B.lst T;let[P,w,C,M]:=V4 E;let R:=r.length;let y:=Lr;let N:Ak X O l (upd H p (.lst (K.set j v))) { s with heap:=s.heap.update p (fJ (·.setIfInBounds j u)) }:=
  B.lstUpd T S (O7 F n j u) (r.set f j) (by rw[List.length_set];exact c) s.toks
 by_cases W:0<=k
 .have L:k.toNat=j:=by
   rw[seqIndex_of W M]at P;exact gD P
  exact PySem.W.ki_setAt S W Z (by rw[dw,<- R];exact M) (by rw[L];exact[_,N,q])
 .have L:(k+(F.toArray.size:Int)).toNat=j:=by
   rw[vE Z C]at P;rw[dw,<- R];exact gD P
  exact PySem.W.ki_setBack S Z (by rw[dw,<- R];exact C) Z (by rw[L];exact[_,N,q])
def Xr(lo B:Option Int)(n:Nat):(kM lo B U n).1=((HT.sIx n 0 lo:Nat):Int)/\(kM lo B U n).2.1=((HT.sIx n n B:Nat):Int)/\(kM lo B U n).2.2=1:=by
 refine[?_,?_,I]
 .cases lo with
  |none=>simp[kM,HT.sIx]
  |some i=>
   simp only[kM,HT.sIx,uX,show(1:Int)>0 by lk,lY];by_cases h:i<0
   .simp only[h,lY]<;>lia
   .simp only[h,jP]<;>lia
 .cases B with
  |none=>simp[kM,HT.sIx]
  |some i=>
   simp only[kM,HT.sIx,uX,show(1:Int)>0 by lk,lY];by_cases h:i<0
   .simp only[h,lY]<;>lia
   .simp only[h,jP]<;>lia
def Tn(its:List eJ)(lo B:Option Int):slicePick its.toArray lo B U=((its.drop (HT.sIx its.length 0 lo)).take (HT.sIx its.length its.length B-HT.sIx its.length 0 lo)).toArray:=by
 let[C,F,j]:=Xr lo B its.toArray.size;unfold slicePick;rw[C,F,j];simp only[sliceRange_one,pick_run,dw]<;>rfl
inductive TN(K:a')(x:V)(lo hi:Option Int)(H:Hp)(Q:VK):Prop
 |mk (a:J) (xs:List V) (e:x=.ref a) (h:Am K H a xs) (q:∀p,H p=U->Q (.ref p) (upd H p (.lst (Mn xs lo hi))))
def JZ:SK X (TN X.K):=by
 intro T s d H x v c E P R f Q M B W C L h;let[a,O,rfl,N,q]:=h;cases B;let[S,r,F,A]:=M.list N;let j:=r.length;refine["list",_,slot_list_getitem.lookup,F.isList.typeIs,?_];refine wpAny_getItem_list_slice F.isList W C L .none zZ ?_ (by rw[dw]<;>lia);rw[Tn,<- j];refine[.ref ⇑s,_,M.laid (t':=s.toks) (o:=.lst (Mn O P R)) (λb K q=>dv _ q) (b' _) ?_,I,q _ (M.hok.fresh (b' _))];exact[fO (Ps O P R) A,_,0,(r.drop (HT.sIx O.length 0 P)).take (HT.sIx O.length O.length R-HT.sIx O.length 0 P),h_ _ I]
def Fk:V->Bool
 |.non=>eP
 |.bl _=>eP
 |.int _=>eP
 |.str _=>eP
 |_=>eM
def O2:V->V->Bool
 |.non,.non=>eP
 |.bl a,.bl b=>a==b
 |.bl a,.int b=>(if a then 1 else 0)==b
 |.int a,.bl b=>a==(if b then 1 else 0)
 |.int a,.int b=>a==b
 |.str a,.str b=>a==b
 |_,_=>eM
def HU{A:fL}{s:eO}{y x:V}{u v:eJ}(S:Az y u)(j:Az x v)(B:Fk y=eP)(L:Fk x=eP):iG A s u v (O2 y x):=by
 cases y with
 |non=>
  cases S
  cases x with
  |non=>cases j;exact SeqAt.EqAt.same _
  |bl b=>cases j;exact SeqAt.EqAt.none_bool b
  |int b=>let[t,rfl]:=j;exact SeqAt.EqAt.none_int b t
  |str b=>let[t,rfl]:=j;exact SeqAt.EqAt.none_str b t
  |_=>exact fA (show eM=eP from L) f_
 |bl a=>
  cases S
  cases x with
  |non=>cases j;exact SeqAt.EqAt.bool_none a
  |bl b=>cases j;exact SeqAt.EqAt.bool_bool a b
  |int b=>let[t,rfl]:=j;exact SeqAt.EqAt.bool_int a b t
  |str b=>let[t,rfl]:=j;exact SeqAt.EqAt.bool_str a b t
  |_=>exact fA (show eM=eP from L) f_
 |int a=>
  let[F,rfl]:=S;cases x with
  |non=>cases j;exact SeqAt.EqAt.int_none a F
  |bl b=>cases j;exact SeqAt.EqAt.int_bool a F b
  |int b=>let[t,rfl]:=j;exact SeqAt.EqAt.int_int a F b t
  |str b=>let[t,rfl]:=j;exact rG a F b t
  |_=>exact fA (show eM=eP from L) f_
 |str a=>
  let[F,rfl]:=S;cases x with
  |non=>cases j;exact SeqAt.EqAt.str_none a F
  |bl b=>cases j;exact SeqAt.EqAt.str_bool a F b
  |int b=>let[t,rfl]:=j;exact rF a F b t
  |str b=>let[t,rfl]:=j;exact SeqAt.EqAt.str_str a F b t
  |_=>exact fA (show eM=eP from L) f_
 |_=>exact fA (show eM=eP from B) f_
def Ti(x:V)(u:eJ):Bool:=match u with
 |.none=>O2 .non x
 |.bool b=>O2 (.bl b) x
 |.int i _=>O2 (.int i) x
 |.str z _=>O2 (.str z) x
 |_=>eM
def Ye{x y:V}{u:eJ}(r:Az y u)(f:Fk y=eP):Ti x u=O2 y x:=by
 cases y with
 |non=>cases r;rfl
 |bl b=>cases r;rfl
 |int i=>let[t,rfl]:=r;rfl
 |str z=>let[t,rfl]:=r;rfl
 |_=>exact fA (show eM=eP from f) f_
theorem Ms{x:V}:∀{xs} {us},Ap xs us->xs.all Fk=eP->us.any (Ti x)=xs.any λy=>O2 y x
 |_,_,.nil,_=>rfl
 |y::xs,u::us,.cons r t,f=>by
  rw[v_,gd]at f;rw[vr,vr,Ye r f.1,Ms t f.2]
theorem Hm{A:fL}{s:eO}{x:V}{v:eJ}(F:Az x v)(L:Fk x=eP):∀{xs} {us},Ap xs us->xs.all Fk=eP->∀u∈us,iG A s u v (Ti x u)
 |_,_,.nil,_=>λu j=>by cases j
 |y::xs,u::us,.cons r t,f=>λS j=>by
  rw[v_,gd]at f;rcases cr.mp j with rfl|j
  .rw[Ye r f.1];exact HU r F f.1 L
  .exact Hm F L t f.2 S j
def YC(x:V)(xs:List V):Bool:=xs.any λy=>O2 y x
inductive aZ(K:a')(neg:Bool)(x y:V)(H:Hp)(Q:VK):Prop
 |mk (p:J) (xs:List V) (e:y=.ref p) (h:Am K H p xs\/Bh K H p xs) (f:Fk x=eP) (F:xs.all Fk=eP) (q:Q (.bl (if neg then !YC x xs else YC x xs)) H)
def Vf:Ko X (gN .In) (aZ X.K eM):=by
 intro P s W H x y v u Q M N B h;let[p,T,rfl,F,C,O,q]:=h;cases B;rcases F with F|F
 .let[j,r,L,R]:=M.list F
  refine SeqAt.in_listAt (Ti x) L.isList (λw S=>Hm N C r O w (by simpa using S)) [.bl _,H,M,I,?_];rw[show j.toArray.any (Ti x)=j.any (Ti x) by simp,Ms r O];exact q
 .let[j,r,L,R]:=M.tuple F
  refine SeqAt.in_tupleAt (Ti x) L (λw S=>Hm N C r O w (by simpa using S)) [.bl _,H,M,I,?_];rw[show j.toArray.any (Ti x)=j.any (Ti x) by simp,Ms r O];exact q
def Ws:Ko X (gN .NotIn) (aZ X.K eP):=by
 intro P s W H x y v u Q M N B h;let[p,T,rfl,F,C,O,q]:=h;cases B;rcases F with F|F
 .let[j,r,L,R]:=M.list F
  refine SeqAt.notIn_listAt (Ti x) L.isList (λw S=>Hm N C r O w (by simpa using S)) [.bl _,H,M,I,?_];rw[show j.toArray.any (Ti x)=j.any (Ti x) by simp,Ms r O];exact q
 .let[j,r,L,R]:=M.tuple F
  refine SeqAt.notIn_tupleAt (Ti x) L (λw S=>Hm N C r O w (by simpa using S)) [.bl _,H,M,I,?_];rw[show j.toArray.any (Ti x)=j.any (Ti x) by simp,Ms r O];exact q
def Xa:Ko X (gN .NotIn) (λx y H Q=>∃i j,x=.str i/\y=.str j/\Q (.bl (!(!(kO j i 0 j.length 1).isEmpty))) H):=by
 intro C s M H x y v u Q B F L h;let[i,j,rfl,rfl,q]:=h;let[t,rfl]:=F;let[S,rfl]:=L;exact notIn_str [.bl _,H,B,I,q]
inductive TF(K:a')(xs:List V)(H:Hp)(Q:VK):Prop
 |mk (p:J) (ys:List V) (e:xs=#[.ref p]) (h:Am K H p ys\/Bh K H p ys) (q:Q (.int ys.length) H)
def Xs:Fm X (.builtin "len") (TF X.K):=by
 intro O s W H T A Q M r h;let[p,P,rfl,F,q]:=h;let[u,rfl,N]:=Ku r;cases N;let R:=Lr;rcases F with F|F
 .let[S,L,C,B]:=M.list F
  let j:=L.length;exact Calls.call_len_list C.isList (by simp only[dw]<;>lia) [.int P.length,H,M.tok _,[s.toks+1,by rw[dw,j]],q]
 .let[S,L,C,B]:=M.tuple F
  let j:=L.length;exact len_tuple C (by simp only[dw]<;>lia) [.int P.length,H,M.tok _,[s.toks+1,by rw[dw,j]],q]
def Nf:Fm X (.builtin "len") (λxs H Q=>∃z,xs=#[.str z]/\z.length<=sizeLine/\Q (.int z.length) H):=by
 intro C s L H xs M Q B r h;let[z,rfl,j,q]:=h;let[u,rfl,t,rfl]:=Ku r;let F:=Lr;exact len_str Z [.int z.length,H,B.tok _,[_,I],q]
inductive R3(K:a')(xs:List V)(H:Hp)(Q:VK):Prop
 |mk (p:J) (ys:List V) (e:xs=#[.ref p]) (h:Am K H p ys\/Bh K H p ys) (q:∀p,H p=U->Q (.ref p) (upd H p (.lst ys)))
def Xz:Fm X (.type "list") (R3 X.K):=by
 intro P s f H k l Q B r h;let[p,A,rfl,M,q]:=h;let[u,rfl,d]:=Ku r;cases d;let C:∀(j:List eJ),Ap A j->A.length<=sizeLine->∀(O:fK) (L:Nat),(∀b c,s.heap.get? b=g c->O.get? b=g c) ->
   O.get? ⇑s=g { cls:=.type "list",dict:=U,data:=.seq j.toArray L,slots := #v[] }->EP X P f Q (.ref ⇑s) { s with heap:=O }:=λj F R O L S e=>
  [.ref ⇑s,_,B.laid (t':=s.toks) S (b' _) (show Cf X.prog X.w _ O _ (.lst A) from [R,j,L,F,e]),I,q _ (B.hok.fresh (b' _))]
 rcases M with M|M
 .let[j,F,T,R]:=B.list M
  let N:=F.length;let[o,E,K,n,W]:=T.isList;exact call_list_seq p (.inl I) E K W (λO L S e=>C j F R O L S e) (by simp only[dw]<;>lia)
 .let[j,F,T,R]:=B.tuple M
  let N:=F.length;let[o,E,K,n,W]:=T;exact call_list_seq p (.inr I) E K W (λO L S e=>C j F R O L S e) (by simp only[dw]<;>lia)
def ZM(K:a')(T:String)(x:V)(H:Hp):Prop:=match x with
 |.str _=>T="str"
 |.int _=>T="int"
 |.ref p=>(T="list"/\∃C,Am K H p C)\/(T="tuple"/\∃o,K.lookup p=g o/\o.cls=.type "tuple"/\o.dict=U) \/
   (T="dict"/\((∃B,H p=g (.dK B))\/∃B,H p=g (.dT B)))\/(T="set"/\∃S n,H p=g (.set S n))
 |_=>False
def HL{pins:List (J×gS)}{s:eO}{T:String}{x:V}{v:eJ}(M:Ak X pins d H s)(r:Az x v)(P:ZM X.K T x H) :
  s.TypeIs v T/\∀a,v=.ref a->∃N,s.heap.get? a=g N/\N.dict=U:=by
 cases x with
 |str z=>
  let[t,rfl]:=r;cases (show T="str" from P);exact[mP s z t,λy e=>nomatch e]
 |int i=>
  let[t,rfl]:=r;cases (show T="int" from P);exact[typeIs_int s i t,λy e=>nomatch e]
 |ref p=>
  cases r
  rcases P with ⟨rfl,W,R⟩|⟨rfl,o,j,B,F⟩|⟨rfl,j⟩|⟨rfl,S,n,j⟩
  .let[A,_,C,_]:=M.list R
   refine[C.isList.typeIs,λa e=>?_];cases e;let[o,n,e,c,F,_]:=C;exact[o,e,F]
  .refine[[o,M.kIn p o j,B],λa e=>?_]
   cases e
   exact[o,M.kIn _ o j,F]
  .have z:∃o,s.heap.get? p=g o/\o.ExactDict:=by
    rcases j with ⟨Q,j⟩|⟨Q,j⟩
    .let[_,_,_,_,o,_,_,e,O,_]:=M.hok p _ j
     exact[o,e,O]
    .let[_,_,_,_,o,_,_,e,O,_]:=M.hok p _ j
     exact[o,e,O]
   let[o,e,O]:=z;refine[[o,e,O.1],λa L=>?_];cases L;exact[o,e,O.2.1]
  .let[o,_,_,_,e,O,_]:=M.hok p _ j
   refine[[o,e,O.1],λa L=>?_];cases L;exact[o,e,O.2.1]
 |_=>exact fS P
def YX(K:a')(T:String)(r:V->List V->Hp->VK->Prop)(L:TE):TE:=λC H Q=>L C H λx B=>ZM K T x B/\r x [] B Q
def bH(K:a')(T:String)(r:V->List V->Hp->VK->Prop)(N:TE)(t:TA):TE:=λB H Q=>N B H λx C=>ZM K T x C/\t B C λM L=>r x M L Q
variable {o e:gK} {es:List gK} {to:TE} {t:TA} {name:eU} {apos cpos:nA} {T id:String} {r:V->List V->Hp->VK->Prop}
def NO(f:PlainAttrs T)(slot:Slot T name id)(F:sM (.builtin id)=pure (.type "method_descriptor"))(N:ZP X id r)(d:PE X o to)
  (j:iC o name X.env (gC o X.env)=gC o X.env:=by rfl) (P:(apos.endLine==cpos.line)=eP:=by rfl):PE X (.Call (.Attribute o name apos) [] [] cpos) (YX X.K T r to):=by
 intro O s R H Q M h;refine uT j P (Ct (d O s R H _ M h) λv A B=>?_);let[x,c,L,S,W,E]:=B;let[K,C]:=HL L S W;exact[T,id,f,slot,F,K,C,iO I (tS (N O A R c x [] v [] Q L S .nil E))]
def VN(d:PlainAttrs T)(slot:Slot T name id)(F:sM (.builtin id)=pure (.type "method_descriptor"))(w:ZP X id r)(ho:PE X o to)(C:PA X (e::es) t)
  (j:iC o name X.env (gC o X.env)=gC o X.env:=by rfl)
  (W:((gH cpos (eX (e::es) X.env)).all (λx => !x.1)&&(jM cpos (hX [] X.env)).all (λx=>x.1.isSome)
   && decide ((e::es).length+([]:List sE).length+(if ([]:List sE).isEmpty then 0 else 1)<30))=eP:=by rfl)
  (R:(apos.endLine==cpos.line)=eP:=by rfl) (K:eX (e::es) X.env=(eM,gC e X.env)::eX es X.env:=by rfl) (P:(gH cpos (eX es X.env)).any (·.1)=eM:=by rfl) :
  PE X (.Call (.Attribute o name apos) (e::es) [] cpos) (bH X.K T r to t):=by
 intro O s A H Q B h;refine wpAny_Call_method_late j W R I (Ct (ho O s A H _ B h) λv q m=>?_);let[x,k,L,M,p,u]:=m;let[z,E]:=HL L M p;refine[T,id,d,slot,F,z,E,?_];let S:=C cpos O q A k _ L u;rw[K]at S⊢;refine iO (by show(eM||(gH cpos (eX es X.env)).any (·.1))=eM;rw[P]<;>rfl) (kG ?_);exact Ct S λi l ⟨y,f,N,n,c⟩=>w O l A f x y v i Q N M n c
end
def MO(X:Cx)(N:String)(r:V->List V->Hp->VK->Prop):Prop:=
 ∀(B:List (J×gS)) (s:eO) (C:St) (H:Hp) (x:V) (L:List V) (v:eJ) (M:List eJ) (Q:VK),Ak X B C H s->Az x v->Ap L M->r x L H Q ->
  eV (fC X.prog X.w) X.A (call (.builtin N) (v::M)) (EP X B C Q) X.xe s
theorem Ap.one:∀{x} {us},Ap #[x] us->∃u,us=#[u]/\Az x u
 |_,_,.cons r .nil=>[_,I,r]
theorem Ap.zero:∀{us},Ap [] us->us=[]
 |_,.nil=>rfl
def Ap.dropLast{xs:List V}{us:List eJ}(h:Ap xs us):Ap xs.dropLast us.dropLast:=by
 induction h with
 |nil=>exact .nil
 |cons r t B=>
  cases t with
  |nil=>exact .nil
  |cons q j=>exact .cons r B
def M4{B:Type}(l:List B):l.eraseIdx (l.length-1)=l.dropLast:=by
 induction l with
 |nil=>rfl
 |cons a r C=>
  cases r with
  |nil=>rfl
  |cons b r=>
   let e:(a::b::r).length-1=((b::r).length-1)+1:=by
    let H:(a::b::r).length=r.length+2:=rfl;let j:(b::r).length=r.length+1:=rfl
    lia
   rw[e,List.eraseIdx_cons_succ,C]
   all_goals rfl
section
variable {X:Cx} {pins:List (J×gS)} {σ:St} {H:Hp} {s:eO} {l:J} {xs ys:List V}
def Ak.lset{its its':List eJ}{n:Nat}{f:Array eJ->Array eJ}{t':Nat}(B:Ak X pins σ H s)(F:H l=g (.lst xs))
  (e:s.heap.get? l=g { cls:=.type "list",data:=.seq its.toArray n }) (C:f its.toArray=its'.toArray) (N:Ap ys its') (M:ys.length<=sizeLine) :
  Ak X pins σ (upd H l (.lst ys)) { s with heap:=s.heap.update l (fJ f),toks:=t' }:=by
 let q:=PySem.IsL.update e f;rw[C]at q;refine B.write (x:=l) (e:=l) (by rw[F];exact trivial) (.inl I) (λS u L j=>(n_ s.heap (fJ f) (fQ L)).trans j) [_,q] ?_;exact[M,its',_,N,q]
def Ak.lnew{its:List eJ}{t':Nat}(B:Ak X pins σ H s)(j:Ap ys its)(F:ys.length<=sizeLine) :
  Ak X pins σ (upd H ⇑s (.lst ys)) { s with heap:=s.heap.push { cls:=.type "list",data:=.seq its.toArray },toks:=t' }:=
 B.laid (λx x q=>dv _ q) (b' _) [F,its,0,j,h_ _ I]
def Ak.fresh(B:Ak X pins σ H s):H ⇑s=U:=B.hok.fresh (b' _)
def Ak.lstM(B:Ak X pins σ H s)(j:H l=g (.lst xs)):xs.length<=sizeLine/\∃(its:List eJ) (n:Nat),Ap xs its/\xs.length=its.length/\s.heap.get? l=g { cls:=.type "list",data:=.seq its.toArray n }:=by
 let[z,its,n,r,e]:=B.hok l _ j;exact[z,its,n,r,r.length,e]
def Zq{n:Nat}(h:n<=sizeLine):jB n=eM:=by
 unfold jB;exact eZ Z
end
section
variable {X:Cx}
inductive JU(x:V)(vs:List V)(H:Hp)(Q:VK):Prop
 |mk (l:J) (xs:List V) (y:V) (e:x=.ref l) (e':vs=#[y]) (h:H l=g (.lst xs)) (s:xs.length<sizeLine) (q:Q .non (upd H l (.lst (xs++#[y]))))
def Dq:MO X "list.append" JU:=by
 intro O s T H x R v W Q M N C h;let[l,P,y,rfl,rfl,L,B,q]:=h;cases N;let[u,rfl,S]:=C.one;let[z,j,n,r,A,e]:=M.lstM L;refine kI F.slot_list_append [_,e,I] F.entry_list_append (F.args_list_append_2 _ _) (PySem.list_append l j.toArray n u (by rw[dw];lia)) [e,?_];refine[.non,_,M.lset (its':=j++#[u]) L e zZ (r.append (.cons S .nil)) ?_,I,q];rw[fy,o5]
 lia
inductive LI(x:V)(vs:List V)(H:Hp)(Q:VK):Prop
 |mk (l b:J) (xs zs:List V) (e:x=.ref l) (e':vs=#[.ref b]) (h:H l=g (.lst xs)) (h':H b=g (.lst zs)) (s:xs.length+zs.length<=sizeLine) (q:Q .non (upd H l (.lst (xs++zs))))
def Io:MO X "list.extend" LI:=by
 intro O s t H x o v w Q B R W h;let[l,b,K,k,rfl,rfl,N,E,c,q]:=h;cases R;let[u,rfl,A]:=W.one;cases A;let[z,L,n,r,d,e]:=B.lstM N;let[f,j,P,C,p,T]:=B.lstM E;let M:L.toArray.size+j.toArray.size<=sizeLine:=by rw[dw,dw];lia
 let S:¬(!L.toArray.isEmpty&&jB (L.toArray.size+j.toArray.size))=eP:=by
  rw[Zq M,mr];exact f_
 refine kI F.slot_list_extend [_,e,I] wM (vX _ _)
  (AutoSeq1.list_extend_list_list_0 l L.toArray n b j.toArray P S (by rw[dw];lia) Z) [e,T,?_]
 refine[.non,_,B.lset (its':=L++j) N e zZ (r.append C) ?_,I,q];rw[fy]
 lia
inductive aT(x:V)(vs:List V)(H:Hp)(Q:VK):Prop
 |mk (l:J) (xs:List V) (y:V) (e:x=.ref l) (e':vs=[]) (h:H l=g (.lst xs)) (a:xs[xs.length-1]?=g y) (q:Q y (upd H l (.lst xs.dropLast)))
def OJ:MO X "list.pop" aT:=by
 intro O s K H x E v b Q M N P h;let[l,A,y,rfl,rfl,C,R,q]:=h;cases N;let S:=P.zero;subst S;let[z,j,n,r,W,e]:=M.lstM C;let[u,T,B]:=r.get R;let L:j.toArray[j.toArray.size-1]?=g u:=by
  show j.toArray[j.length-1]?=g u;rw[<- rr,<- W];exact T
 refine kI F.slot_list_pop [_,e,I] F.entry_list_pop (F.args_list_pop_1 _) (MeetsSeq.list_pop_last l j.toArray n u L (by rw[dw];lia)) [e,?_];refine[y,_,M.lset (its':=j.dropLast) C e ?_ r.dropLast ?_,B,q]
 .show j.toArray.eraseIdxIfInBounds (j.toArray.size-1)=j.dropLast.toArray
  rw[dw,List.eraseIdxIfInBounds_toArray,M4]
 .rw[List.length_dropLast]
  lia
inductive YT(x y:V)(H:Hp)(Q:VK):Prop
 |mk (l b:J) (xs zs:List V) (e:x=.ref l) (e':y=.ref b) (h:H l=g (.lst xs)) (h':H b=g (.lst zs)) (s:xs.length+zs.length<=sizeLine) (q:∀p,H p=U->Q (.ref p) (upd H p (.lst (xs++zs))))
def Xo:Ko X (jD .Add) YT:=by
 intro O s f H x y v u Q B P T h;let[l,b,A,d,rfl,rfl,L,M,E,q]:=h;cases P;cases T;let[z,F,n,r,K,e]:=B.lstM L;let[c,j,W,S,N,R]:=B.lstM M;refine PySem.P.add_list e R ?_ (by rw[dw,dw];lia);let C:F.toArray++j.toArray=(F++j).toArray:=by simp
 rw[C];exact[.ref _,_,B.lnew (t':=s.toks) (r.append S) (by rw[fy];lia),I,q _ B.fresh]
def LX{B:Type}(xs:List B)(k:Nat):(kq k xs).flatten.length=k*xs.length:=by
 induction k with
 |zero=>simp
 |succ k C=>rw[wc,wh,fy,C,Nat.succ_mul,Nat.add_comm]
end
end L2
namespace Att
open PySem PySem.W PySem.Calls PyProof.Rows
def Qd{h:fK}:∀(ns:List Int) (vs:List eJ),WellAll P h vs (ns.map WData.int)->iP vs ns:=by
 intro ns
 induction ns with
 |nil=>
  intro vs w;rw[sA]at w;cases w;exact .nil
 |cons n ns B=>
  intro vs w;rw[iw]at w;cases w with
  |cons a b=>
   cases a
   exact .cons _ _ (B _ b)
def Z2{l:OpenLaw}{n:Nat}(R:l.most=g n){P:Params}{h:fK}{args:List WData}{M:List eJ}
  (F:l.row.toRowW.claim.pre args=eP) (X:WellAll P h M args) :
  ∃a vs ns,M=#[fD a]/\args=#[WData.list (ns.map WData.int)]/\h.get? a=g { cls:=.type "list",data:=.seq vs.toArray }/\iP vs ns/\ns.length<=n:=by
 let B:WShape.hasAll [] args #[.list .int]=eP:=(pre_splitW F).1;let N:l.pre.holds [] { args:=args }=eP:=(pre_splitW F).2;let[d,r,rfl,W,Q]:=hasAllW_cons B;obtain rfl:=hasAllW_nil Q;let[b,rfl,A]:=hasW_list W;let[ns,rfl]:=items_int A;let S:ns.length<=n:=by
  unfold OpenLaw.pre at N;let C:(WTm.not (.lt (.lit (.int (n:Int))) (.len (.arg 0)))).holds [] { args:=#[.list (ns.map .int)] }=eP:=by
   let C:=(holds_andW N).1;rw[R]at C;exact C
  let H:=condW_of C (w_not (w_lt w_lit (w_len_list (w_arg I))));rw[cn]at H;refine Nat.le_of_not_lt λq=>?_;let O:(n:Int)<((ns.length:Nat):Int):=by lia
  first
   |(rw[j O]at H;exact fA H Y)
   |(simp at H;lia)
 cases X with
 |cons T K=>
  cases K
  cases T with
  |list E L=>exact[_,_,ns,I,I,E,Qd ns _ L,S]
def BL(l:OpenLaw)(args:List WData):l.row.toRowW.claim.post args (.bool eP) args=eP:=
 postW_of (r:=l.row.toRowW) (X:=(eP==eP))
  (show WShape.has [] (.bool eP) .bool=eP by first|rfl|decide|simp[WShape.has,WShape.arms,WShape.armsAll])
  (show(WTm.eq .res (.lit (.bool eP))).value [] { args:=args,res:=g (.bool eP),after:=args }=g (.bool (eP==eP)) from w_eq_bool (w_res I) w_lit) I
def attach_call{l:OpenLaw}{n:Nat}{q:eY}{F:List eU}{W:(eU->Option eJ)->fK->Prop}{T:fF->fK->Prop}{d:DefRec}
  (E:l.most=g n) (z:d.params.defaults=[])
  (N:∀(w:fF) (s₀ j:eO) (mg P:eU->Option eJ) (B:J) (o:gS) (Q O L:eJ) (a:J) (vs:List eJ) (ns:List Int),
   Ground q F [] W w s₀ mg P j.heap->T w j.heap ->
   j.heap.get? B=g o->o.data=.func (docDef d.name d.params d.body d.scope Q O L)->j.heap.CodeRec O d.name->mg d.name=g (.ref B) ->
   j.heap.get? a=g { cls:=.type "list",data:=.seq vs.toArray }->iP vs ns->ns.length<=n->j.gens = #v[] ->
   jI (fC l.prog w) qB (.call (.ref B) [#[.ref a],[]]) (λr s'=>r=.ok (.ret (.bool eP))/\OldK j.heap s'.heap/\s'.os=j.os/\kL s'.gens) j) :
  WalkO q F W T l.row.toRowW d [] (λf vs=>uI f vs):=by
 intro w s₀ j mg P M H B o Q O L v kV e h s X b K x R as u ag aj m i;obtain rfl:v=.none:=Dflts.none X z;obtain rfl:kV=.none:=Dflts.noKw X;let[a,vs,ns,rfl,rfl,C,S,y]:=Z2 E u m;refine enter_call (hJ (N w s₀ j mg P B o Q O L a vs ns M H e (fd_plain h) s b C S y K) λr s' p=>?_);let[rfl,A,c,k]:=p;exact[.inl [.bool eP,.bool eP,[],I,λ_=>I,.bool eP,BL l _,λ_=>[qM,λ_ t=>(nomatch t)]],A,c,k]
end Att
namespace L2
open PySem PySem.Spec PyProof.Rows
theorem Uw:∀{vs} {ns:List Int},iP vs ns->Ap (ns.map V.int) vs
 |_,_,.nil=>.nil
 |_,_,.cons n t h=>.cons [t,I] (Uw h)
def Bs(s:gY)(j:Nat):gY:=match s with
 |.ClassDef _ _ _ B _ _ _ _ _ _ _=>B.getD j (.Pass [0,0,0,0])
 |_=>.Pass [0,0,0,0]
def Db(s:gY):Arguments:=match s with
 |.FunctionDef _ a _ _ _ _ _ _ _ _=>a
 |_=>{ posonlyargs:=[],args:=[],vararg:=U,kwonlyargs:=[],kw_defaults:=[],kwarg:=U,defaults:=[] }
def Bw(s:gY):List gY:=match s with
 |.FunctionDef _ _ b _ _ _ _ _ _ _=>b
 |_=>[]
def Ao(s:gY):kU:=match s with
 |.FunctionDef _ _ _ _ _ _ B _ _ _=>B
 |_=>{ kind:=.function,names:=[],isGenerator:=eM,isCoroutine:=eM }
abbrev Fv:IF:=λx x x x x x=>False
abbrev E0:XK:=λx x x=>False
def Mv{X:Cx}:Km Fv X E0:=λx x x x x x x h=>h.elim
structure cF(K:a')(x qual:eU)(st:gY)(f:J)(fd:m_):Prop where
 ex:∃(oc:eJ) (od:Option J) (kV doc pm:eJ) (an:Option J) (cdv ct:eJ) (osl:Array (Option eJ)),
  fd=i' x qual (Db st) (Bw st) (Ao st) .none kV doc pm an cdv ct/\K.lookup f=g [oc,od,.func fd,osl]/\nN K cdv qual=eP
 kp:js K (.ref f)=eP
section
variable {P:eY} {w:fF} {K:a'} {mg:eU->Option eJ} {base:fK}
def cF.ok{x qual}{st}{f}{T}{N ps}{k:Nat}{sp}(F:cF K x qual st f T)(S:Bg N ps (Ao st))(R:∀vs H Q E,sp vs H Q E->vs.length=ps.length)
  (j:∀(O:eJ) (A:fL) (outer:List mB) (s:eO) (H:Hp) (vs:List V) (Q:VK) (E:XK),Bv k (A.deeper (iI qual (Ao st) ⇑s f O))->sp vs H Q E ->
   ∃t,PSs (Hb Fv P w K mg base N qual (Ao st) f O A outer s H E).nox (Bw st) t/\t { nx:=λy H'=>Q .non H',rt:=Q } (Eh N vs) H):Bp P w K mg base Fv (k+1) f T ps sp:=by
 let[b,d,kV,M,X,c,O,l,B,rfl,lk,L]:=F.ex;refine Yq lk L S R λA outer s H vs Q E W C=>?_;let[t,h,q]:=j O A outer s H vs Q E W C;exact[t,h.nox,q]
def cF.binds{x qual}{st}{f}{N}{ps}(F:cF K x qual st f N)
  (h:∀(kV j S:eJ) (H:Option J) (M L:eJ) (us:List eJ),us.length=ps.length->nY (i' x qual (Db st) (Bw st) (Ao st) .none kV j S H M L) [us,[]]=pure (ps.zip us)):Hi K N ps []:=by
 let[Q,O,kV,j,S,H,M,L,C,rfl,lk,B]:=F.ex;exact .all (h kV j S H M L)
def Sg{x qual}{st}{f}{C}{od B}{F}{kV j S H L}(l:K.lookup f=g [C,od,.func (i' x qual (Db st) (Bw st) (Ao st) .none kV j S B H L),F])
  (c:nN K H qual=eP) (k:js K (.ref f)=eP):cF K x qual st f (i' x qual (Db st) (Bw st) (Ao st) .none kV j S B H L):=[[C,od,kV,j,S,B,H,L,F,I,l,c],k]
end
def Gq{A:fL}{k:Nat}(B:Bv k A):A.units+1<iM:=vz (Nat.add_le_add_left (by decide:1<=64) _) B.units
def BO{n:Nat}(h:n<=1000):n<sizeLine:=vz h Y
section
variable {X:Cx}
def pv(i:Nat){x:eU}(j:X.N[i]?=g x:=by rfl)(H:ZT X.env.scope x:=by first|exact Or.inl I|exact Or.inr (Or.inl I)|exact Or.inr (Or.inr I))(C:(x==("__debug__" : eU))=eM:=by lk)
  (B:(x==("__classdict__" : eU))=eM:=by lk):PE X (.Name x b) (GE i):=NY j H C B
end
def Cg{A B:Prop}(h:B):if eM=eP then A else B:=by
 rw[eQ f_];exact h
def En{A B:Prop}(h:A):if eP=eP then A else B:=by
 rw[eR I];exact h
def Rv{c A B:Prop}[Decidable c](C:c->A)(j:¬c->B):if c then A else B:=by
 by_cases h:c
 .rw[eR h]
  exact C h
 .rw[eQ h]
  exact j h
def Ag(H H':Hp):Prop:=∀b o,H b=g o->H' b=g o
def Ag.refl(H:Hp):Ag H H:=λx x h=>h
def Ag.trans(a:Ag H d)(b:Ag d f):Ag H f:=λc o h=>b c o (a c o h)
def Ag.free{H H':Hp}(e:Ag H H'){l:J}(h:H' l=Option.none):H l=Option.none:=by
 cases q:H l with
 |none=>rfl
 |some o=>
  rw[e l o q]at h;cases h
def Ag.seq{K}{H H'}{a}{xs}(e:Ag H H')(h:Am K H a xs):Am K H' a xs:=by
 rcases h with (h|⟨o,h⟩)|h
 .exact .inl (.inl (e _ _ h))
 .exact .inl (.inr [o,e _ _ h])
 .exact .inr h
section
variable {κ:Type} [DecidableEq κ]
def Cc(kvs:List (κ×V))(k:κ):Option V:=(kvs.find? λB=>decide (B.1=k)).map (·.2)
def Ck(kvs:List (κ×V))(k:κ)(v:V):List (κ×V):=
 if (kvs.any λB=>decide (B.1=k))=eP then kvs.map (λB=>if B.1=k then(B.1,v) else B) else kvs++#[(k,v)]
def Ek{p:κ×V}{r:List (κ×V)}{k:κ}(e:p.1=k):Cc (p::r) k=g p.2:=by simp[Cc,r_,e]
def El{p:κ×V}{r:List (κ×V)}{k:κ}(e:¬p.1=k):Cc (p::r) k=Cc r k:=by simp[Cc,r_,e]
theorem Hh(k:κ):∀kvs:List (κ×V),(kvs.any λj=>decide (j.1=k))=(Cc kvs k).isSome
 |[]=>rfl
 |p::r=>by
  rw[vr];by_cases e:p.1=k
  .simp only[Ek e,eT e,Bool.true_or,Option.isSome_some]
  .rw[El e,eZ e,rL];exact Hh k r
theorem Zu(k j:κ)(y:V):∀kvs:List (κ×V),Cc (kvs.map λF=>if F.1=k then(F.1,y) else F) j=(Cc kvs j).map λx=>if j=k then y else x
 |[]=>rfl
 |p::r=>by
  let B:=Zu k j y r;rw[iw];by_cases h:p.1=k
  .rw[eR h]
   by_cases e:p.1=j
   .rw[Ek (p:=(p.1,y)) e,Ek e,wp,eR (e.symm.trans h)]
   .rw[El (p:=(p.1,y)) e,El e,B]
  .rw[eQ h]
   by_cases e:p.1=j
   .rw[Ek (p:=p) e,Ek e,wp,eQ (λz=>h (e.trans z))]
   .rw[El (p:=p) e,El e,B]
theorem Vp(k j:κ)(y:V):∀kvs:List (κ×V),Cc kvs k=U->Cc (kvs++#[(k,y)]) j=if j=k then g y else Cc kvs j
 |[],_=>by
  by_cases e:k=j
  .rw[eR e.symm];exact Ek (p:=(k,y)) e
  .rw[eQ (λz=>e z.symm)];exact El (p:=(k,y)) e
 |p::r,F=>by
  rw[wO];let L:¬p.1=k:=λz=>by rw[Ek z]at F;cases F
  rw[El L]at F;let B:=Vp k j y r F;by_cases e:p.1=j
  .rw[Ek e,Ek e,eQ (λz=>L (e.trans z))]
  .rw[El e,El e,B]
def Ep(kvs:List (κ×V))(k j:κ)(y:V):Cc (Ck kvs k y) j=if j=k then g y else Cc kvs j:=by
 unfold Ck;by_cases a:(kvs.any λF=>decide (F.1=k))=eP
 .rw[eR a,Zu]
  rw[Hh]at a;by_cases e:j=k
  .let[x,L]:=vg.mp a
   rw[eR e,e,L,wp,eR I]
  .rw[eQ e]
   cases Cc kvs j with
   |none=>rfl
   |some x=>rw[wp,eQ e]
 .rw[eQ a]
  refine Vp k j y kvs ?_;rw[Hh]at a;cases q:Cc kvs k with
  |none=>rfl
  |some x=>rw[q]at a;exact(a I).elim
def Cu(kvs:List (κ×V))(k:κ)(v:V):(Ck kvs k v).length<=kvs.length+1:=by
 unfold Ck
 split
 .rw[cn];lia
 .rw[fy,c_,lW];lia
def Yu{kvs:List (κ×V)}{k:κ}(v:V)(h:Cc kvs k=U):Ck kvs k v=kvs++#[(k,v)]:=by
 unfold Ck;rw[Hh,h];exact eQ Y
def cE.isSome_eq{o:Option V}{u:Option eJ}(r:cE o u):o.isSome=u.isSome:=by
 cases o with
 |none=>cases u with
  |none=>rfl
  |some _=>exact(show False from r).elim
 |some _=>cases u with
  |none=>exact(show False from r).elim
  |some _=>rfl
def cE.getD{o:Option V}{u:Option eJ}{d:V}{d':eJ}(r:cE o u)(j:Az d d'):Az (o.getD d) (u.getD d'):=by
 cases o with
 |none=>cases u with
  |none=>exact j
  |some _=>exact(show False from r).elim
 |some _=>cases u with
  |none=>exact(show False from r).elim
  |some _=>exact r
def KV.val{kvs:List (κ×V)}{vs:List (κ×eJ)}(r:KV kvs vs)(k:κ):cE (Cc kvs k) (lM vs k):=by
 unfold KV at r
 induction r with
 |nil=>exact hV
 |@cons p q H F h t C=>
  let[B,L]:=h;by_cases e:p.1=k
  .have j:q.1=k:=B.symm.trans e
   let b:lM (q::F) k=g q.2:=by simp[lM,r_,j]
   rw[Ek e,b];exact L
  .have j:¬q.1=k:=λz=>e (B.trans z)
   let b:lM (q::F) k=lM F k:=by simp[lM,r_,j]
   rw[El e,b];exact C
def KV.any{kvs:List (κ×V)}{vs:List (κ×eJ)}(r:KV kvs vs)(k:κ):(kvs.any λj=>decide (j.1=k))=vs.any λj=>decide (j.1=k):=by
 unfold KV at r
 induction r with
 |nil=>rfl
 |cons h t B=>rw[vr,vr,B,h.1]
def KV.repl{kvs:List (κ×V)}{vs:List (κ×eJ)}(r:KV kvs vs)(k:κ){y:V}{u:eJ}(L:Az y u) :
  KV (kvs.map λj=>if j.1=k then(j.1,y) else j) (vs.map λj=>if j.1=k then(j.1,u) else j):=by
 unfold KV at r⊢
 induction r with
 |nil=>exact .nil
 |@cons p q H S h t C=>
  rw[iw,iw];refine .cons ?_ C;let[B,F]:=h;by_cases e:p.1=k
  .rw[eR e,eR (B.symm.trans e)];exact[B,L]
  .rw[eQ e,eQ (λz=>e (B.trans z))];exact[B,F]
def KV.put{kvs:List (κ×V)}{vs:List (κ×eJ)}(r:KV kvs vs)(k:κ){y:V}{u:eJ}(j:Az y u):KV (Ck kvs k y) (stored vs k u):=by
 unfold Ck stored;rw[r.any k];by_cases e:(vs.any λF=>decide (F.1=k))=eP
 .rw[eR e,eR e];exact r.repl k j
 .rw[eQ e,eQ e];exact Paired.snoc r [I,j]
def KV.length{kvs:List (κ×V)}{vs:List (κ×eJ)}(r:KV kvs vs):kvs.length=vs.length:=kC r
end
def Sh{w:fF}{k:Dm}{u:eJ}(r:Az (kV k) u):(Dh P w).is k u=eP:=by
 cases k with
 |inl i=>let[t,e]:=(show ∃t,u=jR i t from r);subst e;exact Zn P w i t
 |inr x=>let[t,e]:=(show ∃t,u=kB x t from r);subst e;exact E9 P w x t
theorem Va{w:fF}:∀{ks} {us},Ap (ks.map kV) us->ItemsAre (Dh P w) ks us
 |[],_,r=>by rw[sA]at r;cases r;exact .nil
 |k::ks,_,r=>by
  rw[iw]at r;cases r with
  |cons h t=>exact .cons (Sh h) (Va t)
abbrev KT(H:Hp):List (List Dm×V)->List (List Dm×J×eJ)->Prop:=jU λp q=>p.1=q.1/\H q.2.1=g (.tup (p.1.map kV))/\Az p.2 q.2.2
def KT.val{H:Hp}{kvs:List (List Dm×V)}{xs:List (List Dm×J×eJ)}(r:KT H kvs xs)(k:List Dm):cE (Cc kvs k) ((sX xs k).map (·.2)):=by
 induction r with
 |nil=>exact hV
 |@cons p q M F h t C=>
  let[B,_,L]:=h;by_cases e:p.1=k
  .have j:q.1=k:=B.symm.trans e
   let b:sX (q::F) k=g q.2:=by simp[sX,r_,j]
   rw[Ek e,b];exact L
  .have j:¬q.1=k:=λz=>e (B.trans z)
   let b:sX (q::F) k=sX F k:=by simp[sX,r_,j]
   rw[El e,b];exact C
def KT.repl{kvs:List (List Dm×V)}{xs:List (List Dm×J×eJ)}(r:KT H kvs xs)(k:List Dm){y:V}{u:eJ}(S:Az y u) :
  KT H (kvs.map λj=>if j.1=k then(j.1,y) else j) (xs.map (putAt k u)):=by
 induction r with
 |nil=>exact .nil
 |@cons p q N B h t M=>
  rw[iw,iw];refine .cons ?_ M;let[C,F,L]:=h;unfold putAt;by_cases e:p.1=k
  .rw[eR e,eR (C.symm.trans e)];exact[C,F,S]
  .rw[eQ e,eQ (λz=>e (C.trans z))];exact[C,F,L]
def KT.put{kvs:List (List Dm×V)}{xs:List (List Dm×J×eJ)}(r:KT H kvs xs)(k:List Dm){b:J}{y:V}{u:eJ}(L:H b=g (.tup (k.map kV)))(j:Az y u) :
  KT H (Ck kvs k y) (storedH xs k b u):=by
 let e:(kvs.any λF=>decide (F.1=k))=(sX xs k).isSome:=by
  rw[Hh,(r.val k).isSome_eq,nM]
 unfold Ck storedH;rw[e];by_cases q:(sX xs k).isSome=eP
 .rw[eR q,eR q];exact r.repl k j
 .rw[eQ q,eQ q];exact Paired.snoc r [I,L,j]
def KT.keeps{H H':Hp}{kvs:List (List Dm×V)}{xs:List (List Dm×J×eJ)}(r:KT H kvs xs)(j:∀b ys,H b=g (.tup ys)->H' b=g (.tup ys)):KT H' kvs xs:=
 Paired.mapP r λx x z=>[z.1,j _ _ z.2.1,z.2.2]
section
variable {P:eY} {w:fF} {H:Hp} {h:fK} {a:J}
def NA{u:HO}(B:cJ P w H h)(e:Rd H a u):Cf P w H h a u:=e.ok B
def Pu{kvs:List (Dm×V)}(B:cJ P w H h)(e:Rd H a (.dK kvs)):kvs.length<=sizeLine/\(a==iK)=eM/\∃vs,KV kvs vs/\h.DictOf (Dh P w) a vs:=
 show Cf P w H h a (.dK kvs) from NA B e
def ED{kvs:List (Dm×V)}(B:cJ P w H h)(e:H a=g (.dK kvs)):kvs.length<=sizeLine/\(a==iK)=eM/\∃vs,KV kvs vs/\h.DictOf (Dh P w) a vs:=Pu B (.inl e)
def Oi{ks:List Dm}(C:cJ P w H h)(e:H a=g (.tup (ks.map kV))):(oG (Dh P w)).is h ks a:=by
 let[_,j,r,o,B,L,n,F]:=(show Cf P w H h a (.tup (ks.map kV)) from C a _ e);exact[o,j.toArray,n,B,L,F,by simpa using Va r]
def Ro{kvs:List (List Dm×V)}(O:cJ P w H h)(e:Rd H a (.dT kvs)):kvs.length<=sizeLine/\(a==iK)=eM /\
  ∃xs,KT H kvs xs/\h.DictOfH (oG (Dh P w)) a xs:=by
 let[z,y,xs,r,o,Q,W,T,C,M,L,S]:=(show Cf P w H h a (.dT kvs) from NA O e);refine[z,y,xs,r,o,Q,W,T,C,M,L,λx j=>?_,S];let N:∀{l:List (List Dm×V)} {m:List (List Dm×J×eJ)},KT H l m->∀x∈m,(oG (Dh P w)).is h x.1 x.2.1:=by
  intro l m q
  induction q with
  |nil=>intro x j;exact nomatch j
  |@cons p q X B F t R=>
   intro x j;rcases cr.mp j with e|j
   .subst e
    exact Oi O (by rw[<- F.1];exact F.2.1)
   .exact R x j
 exact N r x j
def SV{kvs:List (List Dm×V)}(B:cJ P w H h)(e:H a=g (.dT kvs)):kvs.length<=sizeLine/\(a==iK)=eM /\
  ∃xs,KT H kvs xs/\h.DictOfH (oG (Dh P w)) a xs:=Ro B (.inl e)
end
def cD(H:Hp)(a:J)(y:V)(r:Option V):Prop:=
 (∃B k,Rd H a (.dK B)/\y=kV k/\r=Cc B k)\/∃B k b,Rd H a (.dT B)/\y=.ref b/\H b=g (.tup (k.map kV))/\r=Cc B k
def cM(H:Hp)(a:J)(y v:V)(H':Hp):Prop:=
 (∃B k,H a=g (.dK B)/\y=kV k/\B.length<sizeLine/\H'=upd H a (.dK (Ck B k v))) \/
 ∃B k b,H a=g (.dT B)/\y=.ref b/\H b=g (.tup (k.map kV))/\B.length<sizeLine/\H'=upd H a (.dT (Ck B k v))
def cD.k{H}{a}{kvs}{k}(e:H a=g (.dK kvs)):cD H a (kV k) (Cc kvs k):=.inl [kvs,k,.inl e,I,I]
def cD.t{H}{a b}{kvs}{k}(e:H a=g (.dT kvs))(j:H b=g (.tup (k.map kV))):cD H a (.ref b) (Cc kvs k):=.inr [kvs,k,b,.inl e,I,j,I]
def cM.k{H}{a}{kvs}{k}{v}(e:H a=g (.dK kvs))(B:kvs.length<sizeLine):cM H a (kV k) v (upd H a (.dK (Ck kvs k v))):=.inl [kvs,k,e,I,B,I]
def cM.t{H}{a b}{kvs}{k}{v}(e:H a=g (.dT kvs))(j:H b=g (.tup (k.map kV)))(B:kvs.length<sizeLine) :
  cM H a (.ref b) v (upd H a (.dT (Ck kvs k v))):=.inr [kvs,k,b,e,I,j,B,I]
section
variable {X:Cx} {pins:List (J×gS)} {σ:St} {H:Hp} {s:eO} {a:J} {y v:V} {u r:eJ} {o:Option V} {A:fL} {E:eJ->eO->Prop}
def Ak.big(B:Ak X pins σ H s):iK<⇑s:=by
 let h:fr<⇑s:=(B.mod.glob.keeps B.bk).lt;exact tK Y h
def AX{Q:eJ->eO->Prop}(T:A.units+1<iM)(N:Ak X pins σ H s)(C:cD H a y (g v))(B:Az y u)(h:∀L s',Ak X pins σ H s'->Az v L->Q L s') :
  eV (fC X.prog X.w) A (oH (.ref a) u) Q E s:=by
 rcases C with ⟨R,k,e,S,l⟩|⟨R,k,b,e,S,c,l⟩
 .subst S
  let[z,f,d,F,P]:=Pu N.hok e;let[L,O,j]:=cE.some_of (v:=v) (o:=lM d k) (by rw[l];exact F.val k);exact wpAny_getItem_of (Sh B) P.mapOf O (h L _ (N.tok _) j)
 .subst S
  cases (show u=fD b from B)
  let[z,f,W,F,P]:=Ro N.hok e;let[L,O,j]:=cE.some_of (v:=v) (o:=(sX W k).map (·.2)) (by rw[l];exact F.val k);let[p,K,M]:=pe.mp O;refine wpAny_getItem_heap (jY T) (Oi N.hok c) P K ?_;rw[M];exact h L _ (N.tok _) j
def aH{Q:eJ->eO->Prop}(N:A.units+1<iM)(M:Ak X pins σ H s)(C:cD H a y o)(S:Az y u)(h:∀s',Ak X pins σ H s'->Q (.bool o.isSome) s') :
  eV (fC X.prog X.w) A (gN .In u (.ref a)) Q E s:=by
 rcases C with ⟨P,k,e,L,l⟩|⟨P,k,b,e,L,B,l⟩
 .subst L
  let[z,F,T,j,O]:=Pu M.hok e;refine wpAny_in_of (Sh S) F O.mapOf ?_;rw[<- (j.val k).isSome_eq,<- l];exact h _ (M.tok _)
 .subst L
  cases (show u=fD b from S)
  let[z,F,R,j,O]:=Ro M.hok e;refine wpAny_in_heap (jY N) (Oi M.hok B) F O ?_;let q:=(j.val k).isSome_eq;rw[nM]at q;rw[<- q,<- l];exact h _ (M.tok _)
def JT{Q:eJ->eO->Prop}(N:A.units+1<iM)(M:Ak X pins σ H s)(C:cD H a y o)(S:Az y u)(h:∀s',Ak X pins σ H s'->Q (.bool (!o.isSome)) s') :
  eV (fC X.prog X.w) A (gN .NotIn u (.ref a)) Q E s:=by
 rcases C with ⟨P,k,e,L,l⟩|⟨P,k,b,e,L,B,l⟩
 .subst L
  let[z,F,T,j,O]:=Pu M.hok e;refine wpAny_notIn_of (Sh S) F O.mapOf ?_;rw[<- (j.val k).isSome_eq,<- l];exact h _ (M.tok _)
 .subst L
  cases (show u=fD b from S)
  let[z,F,R,j,O]:=Ro M.hok e;refine wpAny_notIn_heap (jY N) (Oi M.hok B) F O ?_;let q:=(j.val k).isSome_eq;rw[nM]at q;rw[<- q,<- l];exact h _ (M.tok _)
def Ww{h':fK}{t':Nat}(B:Ak X pins σ H s)(j:XA (H a))(M:i_ a s.heap h')(F:∃q,h'.get? a=g q)(C:Cf X.prog X.w (upd H a c) h' a c) :
  Ak X pins σ (upd H a c) { s with heap:=h',toks:=t' }:=
 B.write (x:=a) (e:=a) j (.inl I) (λb q L z=>(M.2 b L).trans z) F C
def L9{w:fF}{H':Hp}{h':fK}{kvs:List (Dm×V)}{vs:List (Dm×eJ)}(z:kvs.length<=sizeLine)(F:(a==iK)=eM)(j:KV kvs vs)(dd:h'.DictOf (Dh P w) a vs) :
  Cf P w H' h' a (.dK kvs):=[z,F,vs,j,dd]
def AU{H':Hp}{Q:Unit->eO->Prop}(hu:A.units+1<iM)(C:Ak X pins σ H s)(B:cM H a y v H')(p:Az y u)(f:Az v r)(h:∀s',Ak X pins σ H' s'->Q () s') :
  eV (fC X.prog X.w) A (setItem (.ref a) u r) Q E s:=by
 rcases B with ⟨P,k,e,N,l,O⟩|⟨P,k,b,e,N,d,l,O⟩
 .subst N O
  let[z,S,vs,j,T]:=ED C.hok e;let M:vs.length<=sizeLine:=by rw[<- j.length];exact z
  let W:(Ck P k v).length<=sizeLine:=by let:=Cu P k v;lia
  refine wpAny_setItem_pairs (hsz:=M) (Sh p) T λK F R=>h _ ?_;let he:∃q,K.get? a=g q:=let [q,_,_,L,_]:=F;[q,L]
  exact Ww C (by rw[e];exact hV) R he (L9 W S (j.put k f) F)
 .subst N O
  cases (show u=fD b from p)
  let[z,S,m,j,T]:=SV C.hok e;let M:m.length<=sizeLine:=by rw[<- kC j];exact z
  let W:(Ck P k v).length<=sizeLine:=by let:=Cu P k v;lia
  refine wpAny_setItem_heap (hsz:=M) (jY hu) (Oi C.hok d) T λK F R=>h _ ?_;let[q,x,ep,L,w,n,i,_,h5]:=F;refine Ww C (by rw[e];exact hV) R [q,L] [W,S,_,(j.put k d f).keeps λc ys t=>?_,q,x,ep,L,w,n,i,h5];rw[Aj (Br t e (λz=>nomatch z))];exact t
end
def TW(i:gK):Prop:=∀B C,rD i eM B C=operate #[B,C] (oH B C)
def KE{prog}{w}{A}{E:eJ->eO->Prop}{s}{env}{C B}{W}{T X}{Q:eJ->eO->Prop}
  (K:mO (.type T) "__getitem__"=pure (g (.builtin X))) (F:TW B)
  (h:eV (fC prog w) A (gC C env) (λo N=>eV (fC prog w) A (gC B env) (λi H=>H.TypeIs o T/\eV (fC prog w) A (oH o i) Q E H) E N) E s) :
  eV (fC prog w) A (gC (.Subscript C B W) env) Q E s:=by
 refine Subscript_ (gI h (λo N R=>gI R (λi H L=>?_) λy y x=>x) λy y x=>x);let[hT,L]:=L;unfold uF;refine a_ ?_;rw[getitemInPython_of_ne hT.not_modules];refine a_ (rN hT K ?_);let O:eV (fC prog w) A (rD B eM o i) (λr M=>eV (fC prog w) A (letTemporaryGo C o r >>= λy=>pure r) Q E M) E H:=by
  rw[F o i];exact wpAny_operating (gI L (λr M P=>a_ (wpAny_letTemporaryGo (b_ P))) λy y x=>x)
 first
  |exact b_ (a_ O)
  |exact a_ (b_ (a_ O))
  |exact a_ O
def Zv{X:Cx}{pins:List (J×gS)}{s:eO}{a:J}{y:V}{o:Option V}(B:Ak X pins c H s)(C:cD H a y o):s.TypeIs (.ref a) "dict":=by
 rcases C with ⟨M,k,e,_,_⟩|⟨M,k,b,e,_,_,_⟩
 .let[_,_,O,_,L]:=Pu B.hok e
  exact L.typeIs
 .let[_,_,N,_,L]:=Ro B.hok e
  exact L.typeIs
def TU(N L:TE):TE:=λB H Q=>N B H λx M=>L B M λy C=>∃a v,x=.ref a/\cD C a y (g v)/\Q v C
def ZE(L N:TE):TE:=λB H Q=>L B H λy M=>N B M λx C=>∃a o,x=.ref a/\cD C a y o/\Q (.bl o.isSome) C
def LM(L N:TE):TE:=λB H Q=>L B H λy M=>N B M λx C=>∃a o,x=.ref a/\cD C a y o/\Q (.bl (!o.isSome)) C
def XZ(P L Q:TE):TS:=λD B H=>Q B H λv N=>P B N λx M=>L B M λy O=>∃a C,x=.ref a/\cM O a y v C/\D.nx B C
section
variable {X:Cx} {o i value:gK} {pos pos':nA} {td ty tv:TE}
def Jr(M:X.A.units+1<iM)(O:PE X o td)(k:PE X i ty)(T:TW i):PE X (.Subscript o i pos) (TU td ty):=by
 intro P s R H Q C h;refine KE PySem.F.slot_dict_getitem.lookup T (Ct (O P s R H _ C h) λu K ⟨x,E,S,A,b⟩=>Ct (k P K R E _ S b) λl r f=>?_);let[y,N,F,c,a,v,d,B,W]:=f;subst d;obtain rfl:u=fD a:=A;exact[Zv F B,AX M F B c λp q L j=>[v,N,L,j,W]]
def NN(B:X.A.units+1<iM)(f:PE X i ty)(C:PE X o td):PC X .In i o (ZE ty td):=by
 intro P s R H Q N h;refine Ct (f P s R H _ N h) λk T ⟨y,d,L,E,W⟩=>Ct (C P T R d _ L W) λu p c=>?_;let[x,S,j,K,a,O,b,M,A]:=c;subst b;obtain rfl:u=fD a:=K;exact aH B j M E λl F=>[.bl O.isSome,S,F,I,A]
def Vn(B:X.A.units+1<iM)(f:PE X i ty)(C:PE X o td):PC X .NotIn i o (LM ty td):=by
 intro P s R H Q N h;refine Ct (f P s R H _ N h) λk T ⟨y,d,L,E,W⟩=>Ct (C P T R d _ L W) λu p c=>?_;let[x,S,j,K,a,O,b,M,A]:=c;subst b;obtain rfl:u=fD a:=K;exact JT B j M E λl F=>[.bl (!O.isSome),S,F,I,A]
def Fs(d:X.A.units+1<iM)(q:PE X o td)(t:PE X i ty)(b:PE X value tv)(R:kY value (g (.Subscript o i pos')) pos.line X.env=pure eM) :
  PS X (.Assign #[.Subscript o i pos'] value pos) (XZ td ty tv):=by
 intro P s Q H D C h;refine wpAny_Assign_Subscript (Ct (b P s Q H _ C h) λr O ⟨v,A,E,c,L⟩=>Ct (q P O Q A _ E L) λu N ⟨x,F,K,T,M⟩=>Ct (t P N Q F _ K M) λw z p=>?_) R;let[y,n,W,k,a,f,l,B,j]:=p;subst l;obtain rfl:u=fD a:=T;exact AU d W B k c λm S=>[Q,f,S,j]
end
def GI{w:fF}(h:fK)(j:iK<h.objs.size):Cf P w H (h.push { cls:=.type "dict",data:=.dict #v[] }) h.objs.size (.dK []):=
 [de _,beq_eq_false_iff_ne.mpr (fQ (fj j)),[],.nil,Heap.DictOf.new h]
def CF{w:fF}(h:fK)(j:iK<h.objs.size):Cf P w H (h.push { cls:=.type "dict",data:=.dict #v[] }) h.objs.size (.dT []):=
 [de _,beq_eq_false_iff_ne.mpr (fQ (fj j)),[],.nil,_,#v[],0,h_ _ I,[I,I,I],I,I,vi]
def RJ:TE:=λx H Q=>∀p,H p=U->Q (.ref p) (upd H p (.dK []))
def PB:TE:=λx H Q=>∀p,H p=U->Q (.ref p) (upd H p (.dT []))
section
variable {X:Cx} {pos:nA}
def Ff:PE X (.Dict [] [] pos) RJ:=λC s L H Q B h=>
 wpAny_Dict_empty [.ref ⇑s,_,B.laid (a:=⇑s) (o:=.dK []) (t':=s.toks) (λx x q=>dv _ q) (b' _) (GI s.heap B.big),I,h _ (B.hok.fresh (b' _))]
def HB:PE X (.Dict [] [] pos) PB:=λC s L H Q B h=>
 wpAny_Dict_empty [.ref ⇑s,_,B.laid (a:=⇑s) (o:=.dT []) (t':=s.toks) (λx x q=>dv _ q) (b' _) (CF s.heap B.big),I,h _ (B.hok.fresh (b' _))]
end
structure M2(X:Cx)(o:gK)(m:eU)(apos:nA)(e f:gK)(cpos:nA):Prop where
 base:iC o m X.env (gC o X.env)=gC o X.env
 few:((gH cpos (eX #[e,f] X.env)).all (λx => !x.1)&&(jM cpos (hX [] X.env)).all (λx=>x.1.isSome)
  && decide ((#[e,f]:List gK).length+([]:List sE).length+(if ([]:List sE).isEmpty then 0 else 1)<30))=eP
 line:(apos.endLine==cpos.line)=eP
 trees:gH cpos (eX #[e,f] X.env)=#[(eM,gC e X.env),(eM,gC f X.env)]
def YY(H:Hp)(a:J):Prop:=(∃B,Rd H a (.dK B))\/∃B,Rd H a (.dT B)
def P3{X:Cx}{pins:List (J×gS)}{s:eO}{a:J}(B:Ak X pins c H s)(d:YY H a) :
  s.TypeIs (.ref a) "dict"/\(∀b,fD a=.ref b->∃j,s.heap.get? b=g j/\j.dict=U)/\(a==iK)=eM:=by
 rcases d with ⟨N,e⟩|⟨N,e⟩
 .let[_,F,P,_,C]:=Pu B.hok e
  refine[C.typeIs,λb q=>?_,F];cases q;let[j,_,_,M,L,_]:=C;exact[j,M,L.2.1]
 .let[_,F,O,_,C]:=Ro B.hok e
  refine[C.typeIs,λb q=>?_,F];cases q;let[j,_,_,M,L,_]:=C;exact[j,M,L.2.1]
section
variable {X:Cx} {pins:List (J×gS)} {σ:St} {H:Hp} {s:eO} {a:J} {y d:V} {u r:eJ} {o:Option V} {A:fL} {E:eJ->eO->Prop}
def RL{Q:eJ->eO->Prop}(T:A.units+1<iM)(N:Ak X pins σ H s)(C:cD H a y o)(O:Az y u)(M:Az d r)(h:∀S s',Ak X pins σ H s'->Az (o.getD d) S->Q S s') :
  eV (fC X.prog X.w) A (call (.builtin "dict.get") #[.ref a,u,r]) Q E s:=by
 rcases C with ⟨R,k,e,L,l⟩|⟨R,k,b,e,L,B,l⟩
 .subst L
  let[z,F,K,j,P]:=Pu N.hok e;refine qC lL P.typeIs qZ (qL _ _ _) (meets_dict_get_default (Dh X.prog X.w) a (Sh O) F r) [_,P.mapOf,h _ _ (N.tok _) ?_];rw[l];exact(j.val k).getD M
 .subst L
  cases (show u=fD b from O)
  let[z,F,W,j,P]:=Ro N.hok e;refine qC lL P.typeIs qZ (qL _ _ _) (meetsH_dict_get_default (oG (Dh X.prog X.w)) a b F r) [jY T,k,W,Oi N.hok B,P,h _ _ (N.tok _) ?_];rw[l];exact(j.val k).getD M
end
def PQ(O M tx:TE):TE:=λB H Q=>O B H λx C=>∃a,x=.ref a/\YY C a/\M B C λy N=>tx B N λz L=>∃o,cD L a y o/\Q (o.getD z) L
section
variable {X:Cx} {o e f:gK} {apos cpos:nA} {td ty tx:TE}
def Mo(q:X.A.units+1<iM)(n:PE X o td)(i:PE X e ty)(A:PE X f tx)(m:M2 X o "get" apos e f cpos):PE X (.Call (.Attribute o "get" apos) #[e,f] [] cpos) (PQ td ty tx):=by
 intro P s R H Q C h;refine wpAny_Call_method m.base m.few m.line kW lL PySem.F.type_dict_get (Ct (n P s R H _ C h) λu p v=>?_);let[x,b,F,E,a,t,d,O]:=v;subst t;obtain rfl:u=fD a:=E;let[T,l,_]:=P3 F d;refine[T,l,?_];rw[m.trees];refine iO I (kG (gJ (Ct (i P p R b _ F O) λiv k ⟨y,S,c,r,W⟩=>
  gJ (Ct (A P k R S _ c W) λfv s3 ⟨z,w,K,N,ov,B,L⟩=>gU ?_))))
 exact RL q K B r N λw' s4 M j=>[_,w,M,j,L]
end
section
variable {X:Cx} {pins:List (J×gS)} {σ:St} {H:Hp} {s:eO} {a:J} {kvs:List (Dm×V)} {A:fL} {E:eJ->eO->Prop}
def FY{Q:eJ->eO->Prop}(B:Ak X pins σ H s)(e:Rd H a (.dK kvs))(h:∀p s',H p=U->Ak X pins σ (upd H p (.dK kvs)) s'->Q (.ref p) s'):eV (fC X.prog X.w) A (call (.type "dict") #[.ref a]) Q E s:=by
 let[z,S,O,j,C]:=Pu B.hok e;refine kt_call_dict S C (by rw[<- j.length];exact z) λN F M=>?_;refine h _ _ (B.hok.fresh (b' _)) (B.laid (a:=⇑s) (o:=.dK kvs) (t':=s.toks) (λb q L=>?_) (b' _) (L9 z (beq_eq_false_iff_ne.mpr (fQ (fj B.big))) j F));exact(M.2 b (fj (dn L))).trans (dv _ L)
end
section
variable {κ:Type} [DecidableEq κ]
def U7{kvs:List (κ×V)}{k:κ}{v:V}(h:Cc kvs k=g v):k∈kvs.map (·.1):=by
 let q:(kvs.any λj=>decide (j.1=k))=eP:=by
  rw[Hh,h]
  all_goals rfl
 let[p,B,e]:=List.any_eq_true.mp q;exact g_.mpr [p,B,fE e]
end
def F9(B:List (eU×J)):List (eU×jE)->List (eU×J)->List (eU×J)
 |[],cs=>cs
 |(n,k)::r,cs=>F9 B r (if k==iD then(match B.lookup n with|some a=>(n,a)::cs|none=>cs) else cs)
theorem E6{env:mB}:∀(names:List (eU×jE)) (cs:List (eU×J)),(∀y∈names,y.2=.free->∃c,env.cells.lookup y.1=g c) ->
  (forIn names cs λ(x:eU×jE) (r:List (eU×J))=>if (x.2==iD)=eP then(do let a <- cellOf env x.1;pure (jJ ((x.1,a)::r))) else(pure (jJ r):rV (ForInStep (List (eU×J)))))
   = (pure (F9 env.cells names cs):rV (List (eU×J)))
 |[],cs,_=>rfl
 |(n,k)::r,cs,h=>by
  let B:=E6 (env:=env) r;rw[List.forIn_cons];unfold F9;cases L:(k==iD)with
  |false=>
   simp only[pz,jP];show(forIn r cs _:rV _)=_;exact B cs λy F=>h y (e_ _ F)
  |true=>
   let[c,S]:=h (n,k) fk (by simpa using L);let j:env.cells.lookup n=g c:=S;let e:cellOf env n=pure c:=by unfold cellOf;rw[j]
   simp only[lY,e,j];show(forIn r ((n,c)::cs) _:rV _)=_;exact B _ λy F=>h y (e_ _ F)
def K1{env:mB}(h:∀y∈scope.names,y.2=.free->∃c,env.cells.lookup y.1=g c):sS scope env=pure (F9 env.cells scope.names []):=by
 unfold sS;let q:=E6 (env:=env) scope.names [] h;refine Eq.trans ?_ (gF (λz:rV (List (eU×J))=>z >>= λj=>pure j) q);rfl
set_option tactic.hygienic true in
theorem Y2:∀(names:List (eU×jE)) (cs:List (eU×J)),(∀p∈cs,j.lookup p.1=g p.2)->∀p∈F9 j names cs,j.lookup p.1=g p.2
 |[],cs,h,p,hp=>h p hp
 |(n,k)::r,cs,h,p,hp=>by
  unfold F9 at hp;refine Y2 r _ (λq F=>?_) p hp
  split at F
  .split at F
   .rename_i a e
    rcases cr.mp F with rfl|F
    .exact e
    .exact h q F
   .exact h q F
  .exact h q F
def Jh{names:List (eU×jE)}{x:eU}{c:J}(e:(F9 cells names []).lookup x=g c):cells.lookup x=g c:=
 Y2 names [] (λy z=>nomatch z) (x,c) (gL e)
theorem Vk:∀(names:List (eU×jE)) (cs:List (eU×J)) (p:eU×J),p∈cs->p∈F9 cells names cs
 |[],cs,p,hp=>hp
 |(n,k)::r,cs,p,hp=>by
  unfold F9;refine Vk r _ p ?_
  split
  .split
   .exact e_ _ hp
   .exact hp
  .exact hp
theorem Yj{x:eU}{c:J}(j:cells.lookup x=g c):∀(names:List (eU×jE)) (cs:List (eU×J)),(x,iD)∈names->(x,c)∈F9 cells names cs
 |[],_,h=>nomatch h
 |(n,k)::r,cs,h=>by
  unfold F9;rcases cr.mp h with e|h
  .cases e
   refine Vk r _ _ ?_;rw[j];simp
  .exact Yj j r _ h
theorem Fj{x:eU}{c:J}:∀{l:List (eU×J)},(x,c)∈l->∃d,l.lookup x=g d
 |[],h=>nomatch h
 |(y,d)::r,h=>by
  rw[u_];cases e:(x==y)with
  |true=>exact[d,I]
  |false=>
   rcases cr.mp h with z|z
   .cases z
    simp at e
   .exact Fj z
theorem Jb{env:mB}:∀{names:List (eU×jE)} {x:eU} {k:jE},
  (names.map λ(n,k)=>if (k==iD&&env.scope.kind == .function&&env.kindOf n==g .cell) then(n,pQ) else(n,k)).lookup x=g k ->
   names.lookup x=g k\/(k=.cell/\names.lookup x=g .free)
 |[],_,_,h=>by simp at h
 |(n,k0)::r,x,k,h=>by
  let C:=@Jb env r x k;rw[iw]at h;rw[u_];by_cases c:(k0==iD&&env.scope.kind == .function&&env.kindOf n==g .cell)=eP
  .have B:=h
   simp only[c,lY]at B;rw[u_]at B;cases e:(x==n)with
   |true=>
    rw[e]at B;let j:k0=.free:=by
     simp only[gd]at c
     simpa using c.1.1
    refine .inr [(gD B).symm,?_];rw[j]
   |false=>
    rw[e]at B;exact C B
  .have B:=h
   simp only[c,pz,jP]at B;rw[u_]at B;cases e:(x==n)with
   |true=>
    rw[e]at B;exact .inl B
   |false=>
    rw[e]at B;exact C B
theorem Mr{env:mB}:∀{names:List (eU×jE)} {x:eU},names.lookup x=g .free ->
  (names.map λ(n,k)=>if (k==iD&&env.scope.kind == .function&&env.kindOf n==g .cell) then(n,pQ) else(n,k)).lookup x=g .cell \/
  (names.map λ(n,k)=>if (k==iD&&env.scope.kind == .function&&env.kindOf n==g .cell) then(n,pQ) else(n,k)).lookup x=g .free
 |[],_,h=>by simp at h
 |(n,k0)::r,x,h=>by
  let B:=@Mr env r x;rw[iw];rw[u_]at h;by_cases c:(k0==iD&&env.scope.kind == .function&&env.kindOf n==g .cell)=eP
  .simp only[c,lY,u_]
   cases e:(x==n)with
   |true=>exact .inl I
   |false=>
    rw[e]at h;exact B h
  .simp only[c,pz,jP,u_]
   cases e:(x==n)with
   |true=>
    rw[e]at h;exact .inr h
   |false=>
    rw[e]at h;exact B h
def HM(B scope:kU):Bool:=
 scope.kind == .function&&scope.names.all λy=>y.2 != .cell&&(y.2 != .local||scope.names.lookup y.1==g .local)&&(y.2 != .free||(B.names.lookup y.1==g .cell||B.names.lookup y.1==g .free))
structure Au(sc scope:kU):Prop where
 kind:scope.kind=.function
 cell:∀y∈scope.names,y.2≠.cell
 own:∀y∈scope.names,y.2=.local->scope.names.lookup y.1=g .local
 free:∀y∈scope.names,y.2=.free->sc.names.lookup y.1=g .cell\/sc.names.lookup y.1=g .free
def Au.of(h:HM b scope=eP):Au b scope:=by
 unfold HM at h;rw[gd,List.all_eq_true]at h;let[B,L]:=h;let F:∀y∈scope.names,(y.2≠.cell/\(y.2≠.local\/scope.names.lookup y.1=g .local))/\(y.2≠.free\/(b.names.lookup y.1=g .cell\/b.names.lookup y.1=g .free)):=λy j=>by
  let q:=L y j
  simpa[gd,pS]using q
 refine[by simpa using B,λy j=>(F y j).1.1,λy j e=>?_,λy j e=>?_]
 .exact(F y j).1.2.resolve_left λn=>n e
 .exact(F y j).2.resolve_left λn=>n e
def Kw(X:Cx)(NC:List eU)(scope:kU)(B:eO)(C:Hp)(H:List J):Cx:=
 { X with N:=NC,s₀:=B,H₀:=C,env:=compEnvC scope (F9 X.env.cells scope.names []) ⇑B X.env,outer:=X.stack,ex:=H,fn:=λx=>eM,pn:=[],xe:=λx x=>False }
def AK(own:Nat)(ix:List Nat)(B:St):St:=kq own U++ix.map λj=>(B[j]?).getD U
def cV(X:Cx)(scope:kU):List eU->List Nat->Prop
 |[],[]=>True
 |x::C,j::B=>(X.N[j]?=g x/\(X.env.kindOf x=g .cell\/X.env.kindOf x=g .free)/\scope.names.lookup x=g .free)/\cV X scope C B
 |_,_=>False
theorem cV.len{X:Cx}:∀{cs} {j:List Nat},cV X scope cs j->cs.length=j.length
 |[],[],_=>rfl
 |_::_,_::_,h=>by rw[c_,c_,cV.len h.2]
 |[],_::_,h=>h.elim
 |_::_,[],h=>h.elim
theorem cV.at{X:Cx}:∀{cs} {F:List Nat} {i:Nat} {x},cV X scope cs F->cs[i]?=g x ->
  ∃j,F[i]?=g j/\X.N[j]?=g x/\(X.env.kindOf x=g .cell\/X.env.kindOf x=g .free)/\scope.names.lookup x=g .free
 |[],[],_,_,_,e=>by simp at e
 |x::_,j::_,0,_,h,e=>by simp at e;subst e;exact[j,I,h.1]
 |_::_,_::_,i+1,_,h,e=>by
  let[j,L,r]:=cV.at (i:=i) h.2 (by simpa using e);exact[j,by simpa using L,r]
 |[],_::_,_,_,h,_=>h.elim
 |_::_,[],_,_,h,_=>h.elim
def WF:TT:=λx H Q=>Q eP H
def NM(B:Cx)(M:List gK)(t:TT):Prop:=
 ∀(C:List (J×gS)) (s:eO) (L:St) (H:Hp) (Q:Bool->Hp->Prop),Ak B C L H s->t L H Q ->
  eV (fC B.prog B.w) B.A (forIn M eP λc r=>if r=eP then do let N <- vI c B.env (gC c B.env);pure (jJ N) else pure (jJ r)) (TP B C L Q) B.xe s
def Ez:NM b [] WF:=λx x x H x B h=>wpAny_tests_nil [H,B,h]
def Hu{c:gK}{t:TT}(h:PT b c t):NM b #[c] t:=λC s L H Q B q=>wpAny_tests_one (h C s L H Q B q)
def Pl(B:TG)(c:TT)(F:TE)(own:Nat)(ix:List Nat)(S:St)(C:It)(p:J)(d:Hp)(QQ:Hp->Prop):Prop:=
 ∃W:Nat->Nat->List V->St->Hp->Prop,(∃m,W 0 m [] (AK own ix S) (upd d p (.lst [])))/\∀i m L O M,W i m L O M->M p=g (.lst L) /\
  ((C.stop i M/\QQ M)\/(C.go i M/\L.length<sizeLine/\∀x X,C.yld i M x X->∃N:List V->St->Hp->Prop,(∀P Q R,N P Q R->∃T,T<m/\W (i+1) T P Q R) /\
   B x O X λH K=>c H K λb A=>if b=eP then F H A λy E=>E p=g (.lst L)/\N (L++#[y]) H (upd E p (.lst (L++#[y]))) else N L H A))
def DL(P:TI)(C:TG)(O:TT)(N:TE)(own:Nat)(ix:List Nat):TE:=λL H Q=>P L H λB M=>∀p,M p=U->Pl C O N own ix L B p M (Q (.ref p))
section
variable {X:Cx} {pins:List (J×gS)} {σ:St} {H H':Hp} {s s':eO}
def Yy{NC own cs:List eU}{ix:List Nat}{scope:kU}{T:List J}{F:fK}{t4:Nat}(B:Ak X pins σ H s)(S:Au X.env.scope scope)(hN:NC=own++cs)(hc:cV X scope cs ix)
  (Q:∀b∈T,Hs X pins H b) (hl:∀b∈T,b<⇑s) (f:F.Ns ⇑s λ_=>U) (R:∀b o,s.heap.get? b=g o->F.get? b=g o) :
  Ak (Kw X NC scope s H T) [] (AK own.length ix σ) H { s with heap:=F,toks:=t4 }:=by
 let L:∀y∈scope.names,y.2=.free->∃c,X.env.cells.lookup y.1=g c:=λy hy e=>B.ok.has y.1 (S.free y hy e);let W:=hc.len;refine[[B.ok.mod,S.kind,B.ok.glob,B.ok.blt,b' _,λx y c K M=>B.ok.inj x y c (Jh K) (Jh M),λx hx=>?_,λ_ _ z=>(nomatch z),B.ok.hd,B.ok.frames,.inl I,λb N=>[fj (hl b N),λx c e=>(Q b N).2.2.2.2.1 x c (Jh e)],
   B.bs,fO B.ok.bsz B.sz,λb o e N=>?_,λb N z=>?_,B.stack,B.stkFree],I,B.bare,Un.kept R,[_,f,λi x v K M e3=>?_],λx c e=>?_,B.hok.fresh (b' _),λx c e=>B.freeC x c (Jh e),λp hp=>?_,B.hok.kept R,?_]
 ·
  let t:(relabel scope X.env).names.lookup x=g .cell\/(relabel scope X.env).names.lookup x=g .free:=hx;let q:scope.names.lookup x=g .free:=by
   rcases t with h|h
   .rcases Jb h with h|⟨_,h⟩
    .exact fA I (S.cell _ (gL h))
    .exact h
   .rcases Jb h with h|⟨z,_⟩
    .exact h
    .cases z
  let[c,E]:=L (x,.free) (gL q) I;exact Fj (Yj E scope.names [] (gL q))
 .rcases (Q b N).2.2.2.1 with z|z
  .exact B.ok.noex b o e z
  .exact fA (k_ (dn e) (fO B.ok.bsz z)) (nS _)
 .rcases cr.mp (B.stkSub b z)with z|z
  .exact(Q b N).2.1 z
  .exact(Q b N).2.2.1 z
 ·
  let P:(own++cs)[i]?=g x:=hN▸K;let n:own.length<=i:=by
   by_cases n:own.length<=i
   .exact n
   .unfold AK at M
    rw[rB (by rw[vh];omega),rX,eR zY]at M;cases M
  rw[wU n]at P;let[j,ej,en,kx,fx]:=hc.at P;let C:(σ[j]?).getD U=g v:=by
   unfold AK at M;rw[wU (by rw[vh];omega),vh,jk,ej]at M;exact gD M
  let O:σ[j]?=g (g v):=by
   cases z:σ[j]? with
   |none=>rw[z]at C;cases C
   |some o=>rw[z]at C;exact gF g C
  let[m,_,a]:=B.loc;let[u,ru,l]:=a j x v en O (kx.elim (λz=>.inr (.inl z)) λz=>.inr (.inr z));refine[u,ru,.inr [Mr fx,?_]];rcases l with ⟨k,_⟩|⟨_,c,e,z⟩
  .rcases kx with r|r<;>rw[k]at r<;>cases r
  .let[d,hd]:=Fj (Yj e scope.names [] (gL fx))
   let e':=Jh hd;rw[e]at e';cases e';let[o,w,A]:=z;exact[c,hd,o,R c o w,A]
 .let[v,o,w,A]:=B.cell x c (Jh e)
  exact[v,o,R c o w,A]
 .exact fA (show p∈([]:List (J×gS)) from hp) zZ
 .show (AK own.length ix σ).length=NC.length
  rw[hN];unfold AK;rw[fy,fy,vh,cn,W]
def Ld{NC:List eU}{h':fK}(N:Ak X pins σ H s)(S:∀b∈f,Hs X pins H b)(P:Ak (Kw X NC scope s H f) [] k H' s')(T:i_ ⇑s s'.heap h'):Ak X pins σ H' { s' with heap:=h' }:=by
 let[A,M,d,t,K]:=s';let O:K=s.os:=P.os;subst O;let W:H' ⇑s=U:=P.free;let Q:Un (Tj X.stack) f H H' s.heap A:=P.base;let R:∀b o,s.heap.get? b=g o->b≠⇑s:=λb o e=>fj (dn e);let B:Un (Tj X.stack) f H H' s.heap h':=[λb o e n j F=>(T.2 b (R b o e)).trans (Q.keep b o e n j F),λb o e n j F=>let [l,q]:=Q.slot b o e n j F;[l,(T.2 b (R b o e)).trans q],Q.free,
  λb o e F=>let [E,q]:=Q.there b o e F;[E,(T.2 b (R b o e)).trans q],Q.tups,Q.frzs,Q.tbls]
 let C:cJ X.prog X.w H' h':=λb u e=>by
  refine(P.hok b u e).stay (λc v L q=>(T.2 c ?_).trans q) (λx q=>q) λx x q=>q;rintro rfl;rcases L with rfl|L
  .rw[W]at e;cases e
  .rw[W]at L;cases L
 let q:=Ak.call (s:=s) (h':=h') (g':=M) (d':=d) (t':=t) (ch:=f) N B C P.bare λb j=>[(S b j).2.2.2.1,(S b j).2.1,(S b j).2.2.2.2.1,(S b j).2.2.2.2.2];exact q
end
def TQ(X:Cx)(NC:List eU)(scope:kU)(C:eO)(B:Hp)(H:List J)(E:eJ->eO->Prop):Cx:={ Kw X NC scope C B H with xe:=E }
section
variable {X:Cx} {NC:List eU} {scope:kU} {s3:eO} {H3:Hp} {fp:List J} {E:eJ->eO->Prop} {pins:List (J×gS)} {σ:St} {H:Hp} {s:eO}
def Ak.toB(B:Ak (Kw X NC scope s3 H3 fp) pins σ H s):Ak (TQ X NC scope s3 H3 fp E) pins σ H s:=[[B.ok.mod,B.ok.kind,B.ok.glob,B.ok.blt,B.ok.above,B.ok.inj,B.ok.has,B.ok.cab,B.ok.hd,B.ok.frames,B.ok.stk,B.ok.exf,B.ok.bs,B.ok.bsz,B.ok.noex,B.ok.exfs,B.ok.funs,B.ok.frf],B.os,B.bare,B.base,B.loc,B.cell,B.free,B.freeC,B.pin,B.hok,B.len]
def Ak.ofB(B:Ak (TQ X NC scope s3 H3 fp E) pins σ H s):Ak (Kw X NC scope s3 H3 fp) pins σ H s:=[[B.ok.mod,B.ok.kind,B.ok.glob,B.ok.blt,B.ok.above,B.ok.inj,B.ok.has,B.ok.cab,B.ok.hd,B.ok.frames,B.ok.stk,B.ok.exf,B.ok.bs,B.ok.bsz,B.ok.noex,B.ok.exfs,B.ok.funs,B.ok.frf],B.os,B.bare,B.base,B.loc,B.cell,B.free,B.freeC,B.pin,B.hok,B.len]
end
def K0{prog:eY}{w:fF}{A:fL}{R:sZ->eO->Prop}{s:eO}{it j:eJ}{env:mB}{EE:eJ->eO->Prop}(o:∀e s',EE e s'->notedBy (fC prog w) A env (λe s'=>R (.error e) s') e s')(H:Nat->eO->Prop)
  (S:∀n s,H n s->eV (fC prog w) A (kQ it) (λr C=>(r=U/\R (.ok .next) C)\/∃v,r=g v /\
   eV (fC prog w) A (mX target it v) (λy O=>eV (fC prog w) A (lF target env v) (λy P =>
    eV (fC prog w) A (forIn d eP λc r=>if r=eP then do let K <- vI c env (gC c env);pure (jJ K) else pure (jJ r)) (λK M=>
     (K=eP/\eV (fC prog w) A (gC b env) (λx N=>eV (fC prog w) A (call (.builtin "list.append") #[j,x]) (λy B=>∃m,m<n/\H m B) (λy y=>False) N) EE M) \/
     (K=eM/\∃m,m<n/\H m M)) (λy y=>False) P) (λy y=>False) O) (λy y=>False) C) (λy y=>False) s)
  (n:Nat) (h:H n s):jI (fC prog w) A (.compLoop (.ListComp b #[[target,iter,d,0]] scope k) 0 it j env) R s:=by
 refine codeAny_loop I H (λn s l=>?_) n h;show eV _ A ((compTurn (.ListComp b #[[target,iter,d,0]] scope k) 0 it j env).onRaise (λx=>do mE x env;theTreesLotGoes x)) _ _ s;refine wpAny_noted ?_;rw[compTurn_list];let W:∀(e:eJ) (s':eO),False->notedBy (fC prog w) A env (λe s'=>R (.error e) s') e s':=λy y f=>f.elim;refine a_ (iB (a_ (gI (S n s l) (λr C F=>?_) W)));rcases F with ⟨rfl,F⟩|⟨v,rfl,F⟩
 .exact b_ F
 refine a_ (gI F (λy O E=>?_) W);refine a_ (gI E (λy P X=>?_) W);refine a_ (gI X (λK M L=>?_) W);rcases L with ⟨rfl,L⟩|⟨rfl,L⟩
 .refine a_ (a_ (gI L (λx N Q=>?_) o))
  exact a_ (gI Q (λy B T=>b_ (b_ [I,T])) W)
 .exact b_ [I,L]
def Qr{X:Cx}{NC own cs:List eU}{ix:List Nat}(hc:X.calm=eP)(S:Au X.env.scope scope)(hN:NC=own++cs)(ac:cV X scope cs ix)
  (hg:∀O P M,PG (Kw X NC scope O P M) tg f) (ht:∀O P M,NM (Kw X NC scope O P M) a6 tc)
  {pins:List (J×gS)} {it:J} {w:Nat->fK->Prop} (I2:Ak X pins σ q l) (T:Tq X.prog X.w X.K tg k M it w) (ao:w 0 l.heap) (f2:∀b∈M,Hs X pins q b) {QQ:J->Hp->Prop} {E:eJ->eO->Prop}
  {RR:eJ->J->sZ->eO->Prop} {EE:eO->Hp->eJ->eO->Prop} (he:∀O P,PE (TQ X NC scope O P M (EE O P)) a te)
  (hE:∀O P L e s',Ak X pins σ P O->(∀b∈M,Hs X pins P b)->EE O P e s'->notedBy (fC X.prog X.w) X.A (compEnvC scope (F9 X.env.cells scope.names []) ⇑O X.env) (λe s'=>RR L ⇑O (.error e) s') e s')
  (h2:∀p,q p=U->Pl f tc te own.length ix σ k p q (QQ p))
  (as:∀O P Q h s6,Ak X pins σ P O->(∀b∈M,Hs X pins P b)->Ak (Kw X NC scope O P M) [] Q h s6->QQ ⇑l h->RR (.ref ⇑l) ⇑O (.ok .next) s6) :
  eV (fC X.prog X.w) X.A (vG []) (λL O=>eV (fC X.prog X.w) X.A (newFunctionEnv scope X.env.globals (F9 X.env.cells scope.names []) [] X.env.qual U .none (g X.env)) (λH s4=>
   jI (fC X.prog X.w) X.A (.compStart (.ListComp a #[[tg,iter,a6,0]] scope a7) 0 (.ref it) L { H with scope:=relabel scope X.env }) (RR L H.locals) s4) E O) E l:=by
 let ah:∀b∈M,b<⇑l:=λb j=>let [_,e,_]:=T.obj _ _ ao b j;dn e
 let[W,[m0,w0],aj]:=h2 _ I2.fresh;refine gM ?_;let I3:Ak X pins σ (upd q ⇑l (.lst [])) { l with heap:=l.heap.push { cls:=.type "list",dict:=U,data:=.seq ([]:List eJ).toArray } }:=I2.lnew (t':=l.toks) .nil (de _);let C:∀b∈M,Hs X pins (upd q ⇑l (.lst [])) b:=λb j=>[by rw[Aj (fj (ah b j))];exact(f2 b j).1,(f2 b j).2];let ax:w 0 (l.heap.push { cls:=.type "list",dict:=U,data:=.seq ([]:List eJ).toArray }):=T.keep _ _ _ ao λb j o e=>dv _ e;let af:∀b∈M,b<(l.heap.push { cls:=.type "list",dict:=U,data:=.seq ([]:List eJ).toArray }).objs.size:=λb j=>by rw[rz];exact vu (ah b j)
 refine wpAny_newFunctionEnv S.cell (λ_ z=>nomatch z) (λh4 ap aq=>?_) S.kind
 dsimp only at ap aq⊢
 let am:∀b o,(l.heap.push { cls:=.type "list",dict:=U,data:=.seq ([]:List eJ).toArray }).get? b=g o->h4.get? b=g o:=λb o e=>
  aq.extBut b o (fj (dn e)) (dv _ e)
 let J0:=Yy (t4:=l.toks+([]:List (eU×eJ)).length) I3 S hN ac C af ap am;let an:w 0 h4:=T.keep _ _ _ ax λb j o e=>am b o e;let fB:∀{A:Hp},(∀b∈M,A b=U)->∀b∈M,Hs (Kw X NC scope { l with heap:=l.heap.push { cls:=.type "list",dict:=U,data:=.seq ([]:List eJ).toArray } } (upd q ⇑l (.lst [])) M) [] A b:=λhn b j=>by
  refine[hn b j,fj (af b j),λz=>?_,.inl j,λx c e=>(C b j).2.2.2.2.1 x c (Jh e),λp hp=>fA (show p∈([]:List (J×gS)) from hp) zZ];rcases cr.mp (I3.stkSub b z)with z|z
  .exact(C b j).2.1 z
  .exact(C b j).2.2.1 z
 let B:∀s4:eO,s4={ l with heap:=h4,toks:=l.toks+([]:List (eU×eJ)).length } ->
   jI (fC X.prog X.w) X.A (.compLoop (.ListComp a #[[tg,iter,a6,0]] scope a7) 0 (.ref it) (.ref ⇑l) (compEnvC scope (F9 X.env.cells scope.names []) (l.heap.push { cls:=.type "list",dict:=U,data:=.seq ([]:List eJ).toArray }).objs.size X.env))
    (RR (.ref ⇑l) (l.heap.push { cls:=.type "list",dict:=U,data:=.seq ([]:List eJ).toArray }).objs.size) s4:=by
  rintro s4 rfl;refine K0 (EE:=EE { l with heap:=l.heap.push { cls:=.type "list",dict:=U,data:=.seq ([]:List eJ).toArray } } (upd q ⇑l (.lst []))) (λe s' z=>hE _ _ _ e s' I3 C z) (λn s'=>∃i t R A,Ak (Kw X NC scope { l with heap:=l.heap.push { cls:=.type "list",dict:=U,data:=.seq ([]:List eJ).toArray } } (upd q ⇑l (.lst [])) M) [] R A s'/\w i s'.heap/\(∀b∈M,A b=U)/\W i n t R A) ?_ m0
   [0,[],_,_,J0,an,λb j=>(C b j).1,w0]
  rintro n s5 ⟨i,t,Q,h,J5,al,ai,w5⟩;let[a2,a1]:=aj i n t Q h w5;rcases a1 with ⟨ae,qn⟩|⟨go,hz,a5⟩
  .refine Ct (T.done (Kw X NC scope _ _ M) I I I hc i [] s5 Q h _ J5 (fB ai) al ae) λr s6 ⟨hr,J6⟩=>.inl [hr,?_]
   exact as _ _ _ _ _ I3 C J6 qn
  .refine Ct (T.item (Kw X NC scope _ _ M) I I I hc i [] s5 Q h _ J5 (fB ai) al go) λr s6 ⟨u,hr,h6⟩=>.inr [u,hr,?_]
   refine Ct h6 λ_ s7 v=>?_;let[x,H7,J7,r7,y7,aa,az]:=v;let aw:=J7.pinned (fB az) (T.obj _ _ aa);let[N,ak,q7]:=a5 x H7 y7;refine Ct (hg _ _ M _ s7 Q H7 x u _ aw r7 q7) λ_ s8 v=>?_;let[s,H8,J8,q8]:=v;refine Ct (ht _ _ M _ s8 s H8 _ J8 q8) λok s9 ⟨H9,J9,q9⟩=>?_;let F:∀{K:St} {Ha:Hp} {sa:eO} {ya:List V} {ma:Nat},Ak (Kw X NC scope { l with heap:=l.heap.push { cls:=.type "list",dict:=U,data:=.seq ([]:List eJ).toArray } } (upd q ⇑l (.lst [])) M) ([]++Rh M s7.heap) K Ha sa->ma<n->W (i+1) ma ya K Ha ->
     ∃m,m<n/\∃i t R A,Ak (Kw X NC scope { l with heap:=l.heap.push { cls:=.type "list",dict:=U,data:=.seq ([]:List eJ).toArray } } (upd q ⇑l (.lst [])) M) [] R A sa/\w i sa.heap/\(∀b∈M,A b=U)/\W i m t R A:=λ{K Ha sa ya ma} Ja hm wa=>by
    refine[ma,hm,i+1,ya,K,Ha,Ja.unpinned,T.keep _ _ _ aa λb j o e=>(Ja.pin (b,o) (mu _ (mu _ (Jq j e)))).1,λb j=>?_,wa];let[o,e,d]:=T.obj _ _ aa b j;exact(Ja.pin (b,o) (mu _ (mu _ (Jq j e)))).2.1
   cases ok with
   |false=>
    let[m',hm,w']:=ak _ _ _ (show N t s H9 from q9);exact .inr [I,F J9 hm w']
   |true=>
    refine .inl [I,Ct (he _ _ _ s9 s H9 _ J9.toB q9) λyv a0 v=>?_];let[y,ad,ab,ay,ag,av]:=v;let ab:=ab.ofB;let[m',hm,w']:=ak _ _ _ av;refine Ct (Dq _ a0 s ad (.ref ⇑l) #[y] (.ref ⇑l) #[yv] (λ_ Hz=>Hz=upd ad ⇑l (.lst (t++#[y]))) ab I (.cons ay .nil) [_,t,y,I,I,ag,hz,I]) λ_ a3 v=>?_;let[_,a4,au,_,ar]:=v;subst ar;exact F au hm w'
 exact codeAny_compStart_list (B _ I) (T.self X.A 0 _ _ _ an (B _ I))
def Wa{X:Cx}{NC own cs:List eU}{ix:List Nat}(m:X.calm=eP)(S:Au X.env.scope scope)(u:NC=own++cs)(F:cV X scope cs ix)
  (K:∀M N O,PG (Kw X NC scope M N O) q c) (y:∀M N O,NM (Kw X NC scope M N O) o w) (n:∀M N O,PE (Kw X NC scope M N O) k s)
  {pins:List (J×gS)} {it:J} {B:Nat->fK->Prop} (z:Ak X pins r l f) (T:Tq X.prog X.w X.K q d O it B) (C:B 0 f.heap) (v:∀b∈O,Hs X pins l b) {QQ:J->Hp->Prop} {E:eJ->eO->Prop}
  {RR:eJ->J->sZ->eO->Prop}
  (W:∀p,l p=U->Pl c w s own.length ix r d p l (QQ p))
  (H:∀M N P R Q,Ak X pins r N M->(∀b∈O,Hs X pins N b)->Ak (Kw X NC scope M N O) [] P R Q->QQ ⇑f R->RR (.ref ⇑f) ⇑M (.ok .next) Q) :
  eV (fC X.prog X.w) X.A (vG []) (λL M=>eV (fC X.prog X.w) X.A (newFunctionEnv scope X.env.globals (F9 X.env.cells scope.names []) [] X.env.qual U .none (g X.env)) (λj A=>
   jI (fC X.prog X.w) X.A (.compStart (.ListComp k #[[q,iter,o,0]] scope t) 0 (.ref it) L { j with scope:=relabel scope X.env }) (RR L j.locals) A) E M) E f:=
 Qr m S u F K y z T C v (EE:=λx x x x=>False) (λM N=>n M N O) (λx x x x x x x h=>h.elim) W H
def Fg{X:Cx}{NC own cs:List eU}{ix:List Nat}(hc:X.calm=eP)(S:Au X.env.scope scope)(u:NC=own++cs)(j:cV X scope cs ix)
  (hi:PI X k iter a) (t:∀A E W,PG (Kw X NC scope A E W) k b) (ht:∀A E W,NM (Kw X NC scope A E W) f tc) (he:∀A E W,PE (Kw X NC scope A E W) d o)
  (q:∀x,lN iter X.env x=pure x:=by intro _;rfl):PE X (.ListComp d #[[k,iter,f,0]] scope r) (DL a b tc o own.length ix):=by
 intro R s l H Q B h;rw[eval_ListComp];let F:∀y∈scope.names,y.2=.free->∃c,X.env.cells.lookup y.1=g c:=λy i e=>B.ok.has y.1 (S.free y i e);refine lT (use:=U) I q (K1 F) S.kind S.own (Ct (hi R s l H _ B h) λv s1 h1=>Ct h1 λab n L=>?_);let[it,W,tn,P,H2,e,m,T,O,f2,L]:=L;subst e;refine Wa hc S u j t ht he m T O f2 (QQ:=λp=>Q (.ref p)) (RR:=λaa C=>compPost (fC X.prog X.w) X.A X.xe U (EP X R l Q) aa C) L λA E w H5 s6 z f3 K qn=>?_;let[m6,N,_]:=K.loc;exact[m6,N,λh7 M=>[.ref ⇑n,H5,Ld z f3 K M,I,qn]]
def Ht{X:Cx}{NC own cs:List eU}{ix:List Nat}{y:eU}{j:Nat}(ag:X.N.Nodup)(hj:X.N[j]?=g y)(O:X.env.scope.names.lookup y=g .local)(hc:X.calm=eP)(S:Au X.env.scope scope)(hN:NC=own++cs)(L:cV X scope cs ix)
  (hi:PI X t iter wi) (hg:∀W A E,PG (Kw X NC scope W A E) t d) (ht:∀W A E,NM (Kw X NC scope W A E) k tc) (he:∀W A E,PE (Kw X NC scope W A E) f te)
  (ad:kY (.ListComp f #[[t,iter,k,0]] scope r) (g (.Name y l)) spos.line X.env=pure eP:=by rfl) (hs:∀x,lN iter X.env x=pure x:=by intro _;rfl) :
  PS X (.Assign #[.Name y l] (.ListComp f #[[t,iter,k,0]] scope r) spos) (P6 (DL wi d tc te own.length ix) (Dx j)):=by
 intro R s n H D B h;rw[wA _ _ _ _ ad];refine a_ (iB (a_ ?_));show eV _ X.A (comprehension (.ListComp f #[[t,iter,k,0]] scope r) scope X.env _ (vG []) eM (gC iter X.env) (g (lF (.Name y l) X.env)) >>= λ_=>_) _ _ s;let aa:∀y∈scope.names,y.2=.free->∃c,X.env.cells.lookup y.1=g c:=λy O e=>B.ok.has y.1 (S.free y O e);refine a_ (Ct (lT (use:=g (lF (.Name y l) X.env)) (Q:=λ_ K=>SP X R D .next K) I hs (K1 aa) S.kind S.own (Ct (hi R s n H _ B h) λv s1 h1=>Ct h1 λai w u=>?_)) λ_ K hq=>b_ (b_ hq));let[it,E,tn,P,H2,e,I2,T,ae,f2,u]:=u;subst e;refine Wa hc S hN L hg ht he I2 T ae f2 (QQ:=λp H'=>D.nx (n.set j (g (.ref p))) H') (RR:=λah C=>compPost (fC X.prog X.w) X.A X.xe (g (lF (.Name y l) X.env)) (λ_ K=>SP X R D .next K) ah C) u λW A a0 i s6 F f3 m qn=>?_;let[m6,ac,_]:=m.loc;let I6:=Ld F f3 m (i_.refl ..);show eV _ X.A (lF (.Name y l) X.env (.ref ⇑w)) _ _ s6;refine pU (Of (v:=.ref ⇑w) I6 ag hj (.inl O) I (λs7 I7 ⟨a,af,M⟩=>?_) (.inr O));let N:⇑W≠a:=by
  rcases M with M|M
  .rw[M];exact fQ (fj F.lt)
  .let[v,q]:=F.cell y a M
   exact fQ (fj q.lt)
 refine[m6,ac.sameBut af N,λh8 ab=>?_];let nC:i ⇑W=U:=m.free;let I8:Ak X R (n.set j (g (.ref ⇑w))) i { s7 with heap:=h8,toks:=s7.toks }:=by
  refine I7.turned (it:=⇑W) (λb o hb e=>(ab.2 b hb).trans e) nC (fQ (fj F.lt)) (.inr F.sz) (λx c e z=>?_) (λp hp z=>?_)
  .let[v,q]:=F.cell x c e
   exact fA (z▸q.lt) (nS _)
  .exact fA (z▸dn (F.pin p hp).1) (nS _)
 exact[_,i,I8,qn]
inductive YI(K:a')(xs:List V)(H:Hp)(Q:VK):Prop
 |mk (x c:V) (cv t:eJ) (b:Bool) (e:xs=#[x,c]) (r:∀u,Az c u->u=cv) (t':TyOf K H x t) (k:hY K t cv=g b) (q:Q (.bl b) H)
def Dv{X:Cx}:Fm X (.builtin "isinstance") (YI X.K):=by
 intro C s P H O R Q B r h;let[x,c,S,t,b,rfl,F,M,e,q]:=h;let[u,z,rfl,j,L]:=Ve r;cases F z L;exact AI B j M e λN=>[.bl b,H,B.tok N,I,q]
def Jv{n:String}:∀u,Az (.ty n) u->u=.type n:=λx h=>h
def Eo{a:J}:∀u,Az (.ref a) u->u=.ref a:=λx h=>h
inductive ZN(K:a')(xs:List V)(H:Hp)(Q:VK):Prop
 |mk (p:J) (ns:List Int) (e:xs=#[.ref p]) (h:Am K H p (ns.map V.int)) (q:Q (.int ns.sum) H)
def No{X:Cx}(N:X.calm=eP):Fm X (.builtin "sum") (ZN X.K):=by
 intro R s o H f t Q B r h;let[p,O,rfl,K,q]:=h;let[u,rfl,A]:=Ku r;cases A;let[j,b,C,k]:=B.list K;let T:iP j O:=Sn b;let[P,F]:=T.allInts.items;let E:s.heap.IsList p (nX P):=F▸C.isList;let c:preSum (rE P) P.size=O.sum:=by
  let M:=T.numsOf;let L:numsOf (nX P).toList=O:=by rw[<- F];exact M
  rw[nums_intItems]at L;rw[preSum_eq,vw zZ,L]
 refine sum_intListG (B.ok.hd N) E λd l W S=>?_;exact[.int O.sum,H,B.kept S,[W,by rw[c]],q]
def PR(K:a'):V->List V->Hp->VK->Prop:=λx C H Q=>∃l B y,x=.ref l/\C=#[y]/\Am K H l B/\Fk y=eP/\B.all Fk=eP/\Q (.int ((B.countP λz=>O2 z y:Nat):Int)) H
theorem Wj{x:V}:∀{xs} {us},Ap xs us->xs.all Fk=eP->us.countP (Ti x)=xs.countP λy=>O2 y x
 |_,_,.nil,_=>rfl
 |y::xs,u::us,.cons r t,f=>by
  rw[v_,gd]at f;rw[wJ,wJ,Ye r f.1,Wj t f.2]
def HY{X:Cx}:MO X "list.count" (PR X.K):=by
 intro P s o H x f v t Q B W K h;let[l,c,y,rfl,rfl,E,R,O,q]:=h;cases W;let[u,rfl,b]:=K.one;let[j,r,p,d]:=B.list E;let[[k,T,N,A],C,M,n,S]:=p.isList;simp only at M S;subst M S;refine kI F.slot_list_count [_,C,I] F.entry_list_count (F.args_list_count_2 _ _) (SeqAt.list_countAt l j.toArray n T A u (Ti y)) [C,?_,?_]
 .intro z L
  exact Hm b R r O z (by simpa using L)
 .refine[.int _,H,B.tok _,[s.toks,?_],q]
  show jR ((j.toArray.toList.countP (Ti y):Nat):Int) s.toks=_;rw[show j.toArray.toList=j from rfl,Wj r O]
abbrev Fa(ix:List Nat)(B:St):St:=ix.map λj=>(B[j]?).getD U
def O5{lo:Int}{n:Nat}{ix:List Nat}{QQ:Hp->Prop}{p:J}(j:Nat->List V->Hp->Prop)(T:j 0 [] (upd k p (.lst [])))
  (R:∀i ys H,i<=n->j i ys H->H p=g (.lst ys)/\ys.length<=i) (A:n<=sizeLine)
  (Q:∀i ys H,i<n->j i ys H->f (g (.int (lo+i))::Fa ix c) H λb P=>if b=eP then d (g (.int (lo+i))::Fa ix c) P λy M=>M p=g (.lst ys) /\
   (g (.int (lo+i))::Fa ix c)=(g (.int (lo+i))::Fa ix c)/\j (i+1) (ys++#[y]) (upd M p (.lst (ys++#[y]))) else(g (.int (lo+i))::Fa ix c)=(g (.int (lo+i))::Fa ix c)/\j (i+1) ys P)
  (W:∀ys H,j n ys H->QQ H) :
  Pl (Dx 0) f d 1 ix c (IH lo n) p k QQ:=by
 refine[λi m ys N S=>m=n-i/\i<=n/\(∃o,N=o::Fa ix c)/\j i ys S,[n,zZ,de _,[U,I],T],?_];rintro i m ys N S ⟨rfl,X,⟨o,rfl⟩,pv⟩;let[C,E]:=R i ys S X pv;refine[C,?_];by_cases F:i<n
 .refine .inr [F,Z,λx K y=>?_]
  let[e,y]:=y;subst e y;exact[λL B O=>B=(g (.int (lo+i))::Fa ix c)/\j (i+1) L O,λL B O ⟨e,q⟩=>[n-(i+1),Z,I,F,[_,e],q],Q i ys _ F pv]
 .have e:i=n:=by lia
  subst e;exact .inl [b' _,W ys S pv]
def Cz{K}{a}{xs}{T}{Q}{N}{ix:List Nat}{QQ:Hp->Prop}{W}{p}(j:Nat->List V->Hp->Prop)(c:j 0 [] (upd W p (.lst [])))
  (E:∀i ys H,i<=xs.length->j i ys H->H p=g (.lst ys)/\ys.length<=i/\Am K H a xs) (k:xs.length<=sizeLine)
  (A:∀i x ys H,xs[i]?=g x->j i ys H->T (g x::Fa ix N) H λb X=>if b=eP then Q (g x::Fa ix N) X λy B=>B p=g (.lst ys) /\
   (g x::Fa ix N)=(g x::Fa ix N)/\j (i+1) (ys++#[y]) (upd B p (.lst (ys++#[y]))) else(g x::Fa ix N)=(g x::Fa ix N)/\j (i+1) ys X)
  (d:∀ys H,j xs.length ys H->QQ H) :
  Pl (Dx 0) T Q 1 ix N (GT K a) p W QQ:=by
 refine[λi m ys O C=>m=xs.length-i/\i<=xs.length/\(∃o,O=o::Fa ix N)/\j i ys C,[xs.length,zZ,de _,[U,I],c],?_];rintro i m ys O C ⟨rfl,f,⟨o,rfl⟩,pv⟩;let[M,l,F]:=E i ys C f pv;refine[M,?_];by_cases S:i<xs.length
 .refine .inr [[xs,xs[i],F,by simp[S]],Z,λx r y=>?_]
  let[e,y]:=y;subst e;exact[λL P R=>P=(g x::Fa ix N)/\j (i+1) L R,λL P R ⟨e,q⟩=>[xs.length-(i+1),Z,I,S,[_,e],q],A i x ys _ (y xs F) pv]
 .have e:i=xs.length:=by lia
  subst e;exact .inl [[xs,F,b' _],d ys C pv]
structure SJ(P:eY)(w:fF)(K:a')(mg:eU->Option eJ)(base:fK)(k:Nat)(x:eU)(ps:List eU)(sp:Sp):Prop where
 ex:∃f fd,Bp P w K mg base Fv k f fd ps sp/\Hi K fd ps []/\js K (.ref f)=eP/\mg x=g (.ref f)
def DU{X:Cx}{k:Nat}{x:eU}{ps:List eU}{sp:Sp}{e:gK}{es:List gK}{p M:nA}{t:TA}(C:SJ X.prog X.w X.K X.mg X.base k x ps sp)(P:Bv k X.A)(S:Gl X x)(L:PA X (e::es) t)
  (j:(x==("__debug__" : eU))=eM:=by lk) (O:eX (e::es) X.env=(eM,gC e X.env)::eX es X.env:=by rfl) (N:(gH M (eX es X.env)).any (·.1)=eM:=by rfl) :
  PE X (.Call (.Name x p) (e::es) [] M) (B1 sp [] E0 t):=by
 let[f,Q,F,b,H,B]:=C.ex;exact JS F P S B H b .nil Mv L j O N
structure eE(K:a')(mg:eU->Option eJ)(x:eU)(st:gY)(ps:List eU):Prop where
 ex:∃f fd,cF K x x st f fd/\Hi K fd ps []/\mg x=g (.ref f)
def eE.cal{P}{w}{K}{mg:eU->Option eJ}{B}{k:Nat}{x}{st}{ps}{sp}(D:eE K mg x st ps)(h:∀f C,cF K x x st f C->Bp P w K mg B Fv k f C ps sp):SJ P w K mg B k x ps sp:=by
 let[f,C,F,b,m]:=D.ex;exact[f,C,h f C F,b,F.kp,m]
def UZ(mg:eU->Option eJ)(x:eU)(i:Int):Prop:=∃t,mg x=g (.int i t)
def TY(mg:eU->Option eJ)(x:eU)(z:eU):Prop:=∃t,mg x=g (.str z t)
def JK{X:Cx}{x:eU}{i:Int}(h:UZ X.mg x i)(j:Gl X x)(F:(x==("__debug__" : eU))=eM:=by lk):PE X (.Name x b) (tC (.int i)):=by
 let[t,e]:=h;exact Xk j e [t,I] F
def T9{X:Cx}{x:eU}{i:eU}(h:TY X.mg x i)(j:Gl X x)(F:(x==("__debug__" : eU))=eM:=by lk):PE X (.Name x b) (tC (.str i)):=by
 let[t,e]:=h;exact Xk j e [t,I] F
def Kq{X:Cx}{x:eU}(T:String)(j:Gl X x)(F:X.mg x=U)(L:fz x=g (.type T))(S:x ≠ "__name__":=by lk)(B:(x==("__debug__" : eU))=eM:=by lk):PE X (.Name x b) (tC (.ty T)):=
 KW (v:=.ty T) j F L I S B
def GY{X}{K}(h:X.K=K):SE X (NU K):=h▸IL
def Dr{X}{K}(h:X.K=K):Fm X (.builtin "len") (TF K):=h▸Xs
def Aa{p:J}(h:H p=U)(o:HO):Ag H (upd H p o):=λb u q=>by rw[Aj (Af q h)];exact q
def Ax{n:Nat}(h:n<=1000):n<=sizeLine:=uu (BO h)
def RX{ns:List Int}{i:Nat}{n:Int}(h:ns[i]?=g n):Wv (ns.map V.int) (i:Int)=g (.int n):=Lh (by rw[jk,h];rfl)
def W1{ns:List Int}{i:Int}(B:0<=i)(h:i<ns.length):Wv (ns.map V.int) i=g (.int (ns.getD i.toNat 0)):=by
 let e:((i.toNat:Nat):Int)=i:=by lia
 let q:=RX (ns:=ns) (i:=i.toNat) (n:=ns.getD i.toNat 0) (by rw[hD Z,l_,hD Z];rfl);rw[e]at q;exact q
example:fz "int"=g (.type "int"):=by rfl
def LY(K:a')(a:J):It:=
 [λi H=>∃B x,Am K H a B/\B[i]?=g x,
   λi H x C=>∃t y,x=.ref t/\H t=U/\(∀B,Am K H a B->B[i]?=g y)/\C=upd H t (.tup #[.int i,y]),
   λi H=>∃B,Am K H a B/\B.length<=i]
def AD{P}{w}{K}{ag}{k:Nat}{tp}(a e it:J)(af:e≠it) :
  Tq P w K (.Tuple ag k tp) (LY K a) #[e,it] e (λi h=>(∃F,IsEnum h e it i F)/\h.IsListIter it a i) where
 mem:=by simp
 obj:=λi h O b j=>by
  let[[F,M],o,ho,c,d]:=O;rcases cr.mp j with rfl|j
  .exact[_,M,λv z=>by
    let z':uD _=pJ v:=z;cases z']
  .have T:b=it:=by simpa using j
   subst T;exact[o,ho,λv z=>by rw[d]at z;cases z]
 keep:=λi h h' O kk=>by
  let[[F,M],L]:=O;exact[[F,kk e zZ _ M],L.at λo x=>kk it zZ o x]
 item:=by
  intro X hP hw hK hc i R s σ H E B A O hg;subst hP hw hK;let[[F,M],L]:=O;let[xs,x,l,hx]:=hg;let[aj,rv,p,hz]:=B.list l;let[u,hu,ru]:=rv.get hx;let[e0,e1,e2,e3,e4,e5]:=A e zZ;let[i0,t,i2,i3,i4,i5]:=A it zZ;refine wpAny_pyNext_enum_item M L p.isList (x:=u) (by simpa using hu) af λh1 ho ae hT am hk=>[_,I,?_];refine wpAny_letOwnedTupleGo_enum ho λf al ai=>?_;let N:i_ e h1 f:=ai;let ac:e<⇑s:=dn M;let S:H ⇑s=U:=B.hok.fresh (b' _);let W:∀b o,b≠e->b≠it->s.heap.get? b=g o->f.get? b=g o:=λb o h3 h4 q=>(N.2 b h3).trans (hk b o h3 h4 q);let C:∀b,b∉#[e,it]->b≠e/\b≠it:=λb j=>[λz=>j (by simp[z]),λz=>j (by simp[z])];let y:∀b o,H b=g o->b≠e/\b≠it:=λb o q=>[λz=>by(rw[z,e0]at q;cases q),λz=>by(rw[z,i0]at q;cases q)];let ad:f.get? ⇑s=g { cls:=.type "tuple",data:=.seq #v[.int i s.toks,u] }:=(N.2 _ (ny ac)).trans hT;let I1:Ak X R σ (upd H ⇑s (.tup #[.int i,x])) { s with heap:=f,gens:=s.gens,drawn:=s.drawn,toks:=s.toks+1 }:=by
   refine B.step (ch:=#[e,it]) (λb j=>?_) (λb o _ _ j q _=>W b o (C b j).1 (C b j).2 q) (λb o _ _ j q _=>[o.slots,W b o (C b j).1 (C b j).2 q]) (λb o _ q n=>by rw[Aj (fj (dn q))];exact n)
    (λb o j q=>[o,W b o (C b j).1 (C b j).2 q]) (λb xs q=>by rw[Aj (Af q S)];exact q) (λb o u q=>by rw[Aj (Af q S)];exact q) (λb ps q=>[#v[],by rw[Aj (Af q S),q];simp])
    (λm hm=>?_) (λb o q=>?_) B.bare
   .rcases cr.mp j with rfl|j
    .exact[e3,e1,e4,e5]
    .have T:b=it:=by simpa using j
     subst T;exact[i3,t,i4,i5]
   .let[o,es,ep,ah,r]:=hm
    exact[o,es,ep,W _ o (fQ e1) (fQ t) ah,r]
   .by_cases j:b=⇑s
    .subst j
     rw[Ab]at q;cases q;exact[Ax (by show 2<=1000;decide),#[.int i s.toks,u],.cons [_,I] (.cons ru .nil),_,ad,I,_,I]
    .rw[Aj j]at q
     refine(B.hok b o q).stay (λc v aa Q=>?_) (λc Q=>by rw[Aj (Af Q S)];exact Q) (λc xs Q=>by rw[Aj (Af Q S)];exact Q);rcases aa with rfl|aa
     .exact W _ v (y _ _ q).1 (y _ _ q).2 Q
     .exact W _ v (y _ _ aa).1 (y _ _ aa).2 Q
  refine[.ref ⇑s,_,I1,I,[_,x,I,S,λys hy=>by rw[B.list_inj hy l];exact hx,I],[[u,?_],?_],λb j=>?_]
  .have ei:((i+1:Nat):Int)=(i:Int)+1:=by lia
   rw[ei];exact al
  .exact ae.at λo q=>(N.2 it af.symm).trans q
  .have ak:b<⇑s:=by
    rcases cr.mp j with rfl|j
    .exact ac
    .have T:b=it:=by simpa using j
     subst T;let[o,q,_]:=L;exact dn q
   rw[Aj (fj ak)];exact(A b j).1
 done:=by
  intro X hP hw hK hc i R s σ H E B A O hg;subst hP hw hK;let[[F,M],L]:=O;let[xs,l,hx]:=hg;let[aj,rv,p,hz]:=B.list l;let[i0,t,i2,i3,i4,i5]:=A it zZ;let hl:=rv.length;exact wpAny_pyNext_enum_end (B.ok.hd hc) M L p.isList (by simp;lia) λh' T=>[I,B.turned (t':=s.toks) (λb o j q=>T b o j q) i0 t i3 i4 i5]
 self:=λ_ _ _ _ _ O h=>by
  let[[F,M],_]:=O;exact wpAny_pyIter_enum M h
def XC(K:a')(M:TA):TI:=λC H R=>M C H λN B=>∃a,N=#[.ref a]/\(∃L,Am K B a L)/\R (LY K a) B
def Ji{X}{a}{Q}{p P z}{L}{k:Nat}(c:Gl X "enumerate")(v:X.mg "enumerate"=U)(r:PA X #[a] Q)(K:eX #[a] X.env=#[(eM,gC a X.env)]:=by rfl) :
  PI X (.Tuple L k z) (.Call (.Name "enumerate" p) #[a] [] P) (XC X.K Q):=by
 intro O s W H R B h;refine Call_ (Fy B c v (show fz "enumerate"=g (.type "enumerate") from rfl) (gG (Ct (r P O s W H _ B h) λus F w=>?_) K I));let[x,T,j,y,t]:=w;let[a,f,[n,o],q]:=t;subst f;let[u,rfl,d]:=Ku y;cases d;let[aa,i,A,e]:=j.list o;refine call_enumerate_list A.isList λE N S ab m=>?_;refine wpAny_pyIter_enum N ?_;let l:Ak X O W T { F with heap:=E }:=j.kept (t':=F.toks) m;refine[_,#[⇑F+1,⇑F],_,_,T,I,l,AD a _ _ (Nat.succ_ne_self _),[[_,N],S],λb M=>?_,q];rcases cr.mp M with rfl|M
 .exact j.fpOk (nh _) (j.hok.fresh (nh _))
 .have C:b=⇑F:=by simpa using M
  subst C;exact j.fpOk (b' _) (j.hok.fresh (b' _))
def Eb{X}{K}{es}{k:Nat}{t}{n:Nat}{B}(j:X.K=K)(F:X.calm=eP)(h:SL X es t)
  (L:(jN es X.env).length=n:=by rfl) (C:(jN es X.env).findIdx? (·.1)=U:=by rfl):PG X (.Tuple es k B) (O9 K n t):=j▸GJ F h L C
def Ob{K K'}{a}{xs}{X}{Q}{N}{ix:List Nat}{QQ:Hp->Prop}{T}{p}(j:Nat->List V->Hp->Prop)(l:j 0 [] (upd T p (.lst [])))
  (d:∀i ys H,i<=xs.length->j i ys H->H p=g (.lst ys)/\ys.length<=i/\Am K H a xs) (v:xs.length<=sizeLine)
  (E:∀i x ys H t,xs[i]?=g x->j i ys H->H t=U->X (g (.int i)::g x::Fa ix N) (upd H t (.tup #[.int i,x])) λb A=>if b=eP then Q (g (.int i)::g x::Fa ix N) A λy B=>B p=g (.lst ys) /\
   (g (.int i)::g x::Fa ix N)=(g (.int i)::g x::Fa ix N)/\j (i+1) (ys++#[y]) (upd B p (.lst (ys++#[y]))) else(g (.int i)::g x::Fa ix N)=(g (.int i)::g x::Fa ix N)/\j (i+1) ys A)
  (s:∀ys H,j xs.length ys H->QQ H) :
  Pl (O9 K' 2 (Im (Dx 0) (Im (Dx 1) Z7))) X Q 2 ix N (LY K a) p T QQ:=by
 refine[λi m ys O L=>m=xs.length-i/\i<=xs.length/\(∃o W,O=o::W::Fa ix N)/\j i ys L,[xs.length,zZ,de _,[U,U,I],l],?_];rintro i m ys O L ⟨rfl,u,⟨o,W,rfl⟩,pv⟩;let[M,w,F]:=d i ys L u pv;refine[M,?_];by_cases C:i<xs.length
 .refine .inr [[xs,xs[i],F,by simp[C]],Z,λx h y=>?_]
  let[t,z,k,r,f,c]:=y;subst k c;refine[λS P R=>P=(g (.int i)::g z::Fa ix N)/\j (i+1) S R,λS P R ⟨e,q⟩=>[xs.length-(i+1),Z,I,C,[_,_,e],q],?_];exact[t,_,I,Bh.of Ab,I,_,_,I,_,_,I,I,E i z ys L t (f xs F) pv r]
 .have e:i=xs.length:=by lia
  subst e;exact .inl [[xs,F,b' _],s ys L pv]
structure F6(P:eY)(w:fF)(K:a')(mg:eU->Option eJ)(base:fK)(k:Nat)(C:J)(m:eU)(ps:List eU)(sp:Sp):Prop where
 ex:∃f fd,Bp P w K mg base Fv k f fd ps sp/\Hi K fd ps []/\K6 K C m f
 cl:dD K C
def Cn{X:Cx}{k:Nat}{C:J}{m:eU}{ps:List eU}{sp:Sp}{e o:gK}{es:List gK}{t:TA}{pl:rV Bool}(M:F6 X.prog X.w X.K X.mg X.base k C m ps sp)(P:Bv k X.A)(S:PE X o d)(L:PA X (e::es) t)
  (j:eX (e::es) X.env=(eM,gC e X.env)::eX es X.env:=by rfl) (H:(gH c (eX es X.env)).any (·.1)=eM:=by rfl)
  (O:gC (.Call (.Attribute o m apos) (e::es) [] c) X.env=(do
   let N <- gC o X.env
   kF apos.atName
   let (f,first) <- iY #[N] (jH N m pl)
   kN c f first (gH c (eX (e::es) X.env)) (jM c (hX [] X.env))):=by rfl) :
  PE X (.Call (.Attribute o m apos) (e::es) [] c) (U3 C m sp [] E0 d t):=by
 let[f,Q,F,b,B]:=M.ex;exact KF S M.cl B F P b .nil Mv L j H O
structure FQ(P:eY)(w:fF)(K:a')(mg:eU->Option eJ)(base:fK)(k:Nat)(x:eU)(C:J)(ps:List eU)(sp:Sp):Prop where
 ex:∃f fd,Mk K C f/\Bp P w K mg base Fv k f fd ps sp/\Hi K fd ps []/\mg x=g (.ref C)
def Mm{X:Cx}{k:Nat}{x:eU}{C:J}{ps:List eU}{sp:Sp}{e:gK}{es:List gK}{p H:nA}{t:TA}(M:FQ X.prog X.w X.K X.mg X.base k x C ps sp)(Q:Bv (k+1) X.A)(L:Gl X x)(S:PA X (e::es) t)
  (j:(x==("__debug__" : eU))=eM:=by lk) (O:eX (e::es) X.env=(eM,gC e X.env)::eX es X.env:=by rfl) (N:(gH H (eX es X.env)).any (·.1)=eM:=by rfl) :
  PE X (.Call (.Name x p) (e::es) [] H) (B0 C sp [] E0 t):=by
 let[f,R,P,F,b,B]:=M.ex;exact T7 P F Q L B b .nil Mv S j O N
def Ed{X}{K}{o e}{es}{W}{t}{name}{O M}{T R}{r:V->List V->Hp->VK->Prop}(S:X.K=K)(C:PlainAttrs T)(slot:Slot T name R)(F:sM (.builtin R)=pure (.type "method_descriptor"))(H:ZP X R r)(B:PE X o W)(L:PA X (e::es) t)
  (j:iC o name X.env (gC o X.env)=gC o X.env:=by rfl)
  (Q:((gH M (eX (e::es) X.env)).all (λx => !x.1)&&(jM M (hX [] X.env)).all (λx=>x.1.isSome)
   && decide ((e::es).length+([]:List sE).length+(if ([]:List sE).isEmpty then 0 else 1)<30))=eP:=by rfl)
  (P:(O.endLine==M.line)=eP:=by rfl) (A:eX (e::es) X.env=(eM,gC e X.env)::eX es X.env:=by rfl) (N:(gH M (eX es X.env)).any (·.1)=eM:=by rfl) :
  PE X (.Call (.Attribute o name O) (e::es) [] M) (bH K T r W t):=S▸VN C slot F H B L j Q P A N
def Cf.is{w:fF}{h:fK}{a:J}{o:HO}(x:Cf P w H h a o):∃L,h.get? a=g L:=by
 cases o with
 |lst M=>let[_,_,_,_,e]:=x;exact[_,e]
 |tup M=>let[_,_,_,_,e,_]:=x;exact[_,e]
 |dK B=>let[_,_,_,_,_,_,_,e,_]:=x;exact[_,e]
 |dT B=>let[_,_,_,_,_,_,_,e,_]:=x;exact[_,e]
 |set S n=>let[_,_,_,_,e,_]:=x;exact[_,e]
 |ins C Q N=>let[_,_,_,e,_]:=x;exact[_,e]
 |own y=>exact x
 |xd N=>let[_,[_,_,_,e,_],_]:=x;exact[_,e]
 |rng W R=>let[_,_,_,e]:=x;exact[_,e]
 |frz L u=>exact[_,x.1]
 |tbl T=>exact[_,x]
 |met f y=>exact[_,x]
 |ext O=>exact x.2.1
def dN(h:fK)(e:J)(c:eJ)(d:Option J)(H:eJ)(L:J->Prop):Prop:=
 ∃C B,h.get? e=g C/\C.cls=c/\C.dict=d/\C.data=.fields B/\1<B.size/\B[2]?=g H/\L e /\
  (B[1]?=g .none\/∃T oT M,B[1]?=g (.ref T)/\T≠e/\h.get? T=g oT/\oT.data=.fields M/\M[3]?=g .none/\L T)
def dN.imp{h:fK}{e:J}{c:eJ}{d:Option J}{S N:J->Prop}(x:dN h e c d k S)(f:∀b,S b->N b):dN h e c d k N:=by
 let[B,P,E,H,j,C,X,O,R,A]:=x;refine[B,P,E,H,j,C,X,O,f _ R,?_];rcases A with M|⟨T,oT,K,M,L,hT,F,W,Q⟩
 .exact .inl M
 .exact .inr [T,oT,K,M,L,hT,F,W,f _ Q]
def cA(X:Cx)(pins:List (J×gS))(H:Hp)(b:J):Prop:=
 H b=U/\b≠X.env.locals/\b∉X.fs/\(b∈X.ex\/X.s₀.heap.get? b=U)/\(∀x c,X.env.cells.lookup x=g c->c≠b)/\∀p∈X.pn++pins,p.1≠b
section
variable {X:Cx} {pins:List (J×gS)} {σ:St} {H H':Hp} {s:eO} {h':fK}
def Ak.fxOk{b:J}(C:Ak X pins σ H s)(S:s.heap.get? b=U)(M:H' b=U):cA X pins H' b:=by
 let N:∀{a:J} {o:gS},s.heap.get? a=g o->a≠b:=λ{a o} q z=>by rw[z,S]at q;cases q
 refine[M,λz=>?_,λz=>?_,?_,λx c e=>?_,λp O=>N (C.pin p O).1]
 .let[m,[o,Q,R,j,_],_]:=C.loc
  exact N j z.symm
 .let[_,o,j,_]:=C.ok.funs.mem z
  let B:b∉X.ex:=λy=>C.ok.exfs b y z;let[P,F]:=C.base.there b o j B;exact N F I
 .by_cases L:b∈X.ex
  .exact .inl L
  .refine .inr ?_
   cases q:X.s₀.heap.get? b with
   |none=>rfl
   |some o=>
    let[P,F]:=C.base.there b o q L;exact fA I (N F)
 .let[v,o,j,_]:=C.cell x c e
  exact N j
def Ak.stepN{g':Array lH}{t':Nat}{d':Drawn}{ch:List J}(B:Ak X pins σ H s)
  (L:∀b∈ch,(b∈X.ex\/X.s₀.heap.get? b=U)/\b≠X.env.locals/\(∀x c,X.env.cells.lookup x=g c->c≠b)/\∀p∈X.pn++pins,p.1≠b)
  (P:∀b o,b≠X.env.locals->b∉X.fs->b∉ch->s.heap.get? b=g o->H b=U->h'.get? b=g o)
  (slot:∀b o,b≠X.env.locals->b∈X.fs->b∉ch->s.heap.get? b=g o->H b=U->∃t,h'.get? b=g { o with slots:=t }) (O:∀b o,b∉ch->s.heap.get? b=g o->H b=U->H' b=U)
  (Q:∀b o,b∉ch->s.heap.get? b=g o->∃f,h'.get? b=g f)
  (A:∀b xs,H b=g (.tup xs)->H' b=g (.tup xs)) (K:∀b o u,H b=g (.frz o u)->H' b=g (.frz o u)) (T:∀b ps,H b=g (.tbl ps)->∃W,H' b=g (.tbl (ps++W)))
  (ns:∀m,s.heap.Ns X.env.locals m->h'.Ns X.env.locals m) (y:cJ X.prog X.w H' h') (hg:kL g') :
  Ak X pins σ H' { s with heap:=h',gens:=g',drawn:=d',toks:=t' }:=by
 let aa:∀b o,X.s₀.heap.get? b=g o->b≠X.env.locals:=λb o e=>fj (k_ (dn e) B.ok.above);let M:∀b o,X.s₀.heap.get? b=g o->b∉X.ex->b∉ch:=λb o e j C=>by
  rcases (L b C).1 with z|z
  .exact j z
  .rw[e]at z;cases z
 let S:∀x c,X.env.cells.lookup x=g c->∀v,s.heap.IsCell c v->h'.IsCell c v:=λx c e v ⟨o,R,w⟩=>by
  let F:c∉ch:=λz=>(L c z).2.2.1 x c e I;by_cases hc:c∈X.fs
  .let[t,q]:=slot c o (B.cne x c e) hc F R (B.freeC x c e)
   exact[_,q,w]
  .exact[o,P c o (B.cne x c e) hc F R (B.freeC x c e),w]
 refine[B.ok,B.os,hg,[λb o e n C j=>?_,λb o e n C j=>?_,λb o e n j=>?_,λb o e j=>?_,λb xs e=>A b xs (B.base.tups b xs e),λb o xs e=>K b o xs (B.base.frzs b o xs e),λb ps e=>?_],?_,λx c e=>?_,?_,λx c e=>?_,λp h=>?_,y,B.len]
 .exact P b o (aa b o e) C (M b o e j) (B.base.keep b o e n C j) (B.base.free b o e n j)
 .let[t,N]:=B.base.slot b o e n C j
  let[ab,E]:=slot b _ (aa b o e) C (M b o e j) N (B.base.free b o e n j);exact[ab,E]
 .let[f,N]:=B.base.there b o e j
  exact O b f (M b o e j) N (B.base.free b o e n j)
 .let[f,N]:=B.base.there b o e j
  exact Q b f (M b o e j) N
 .let[m1,N]:=B.base.tbls b ps e
  let[m2,E]:=T b _ N;exact[m1++m2,by rw[E,uS]]
 .let[m,hn,hl]:=B.loc
  refine[m,ns m hn,λi x v N E e3=>?_];let[u,r,l]:=hl i x v N E e3;refine[u,r,?_];rcases l with l|⟨k,c,e,z⟩
  .exact .inl l
  .exact .inr [k,c,e,S x c e _ z]
 .let[v,z]:=B.cell x c e
  exact[v,S x c e v z]
 .let[m,[o,_,_,R,_],_]:=B.loc
  exact O _ o (λz=>(L _ z).2.1 I) R B.free
 .let[v,o,R,w]:=B.cell x c e
  exact O c o (λz=>(L c z).2.2.1 x c e I) R (B.freeC x c e)
 .let[e,n,ne,a,d]:=B.pin p h
  let F:p.1∉ch:=λz=>(L p.1 z).2.2.2 p h I;exact[P p.1 p.2 ne a F e n,O p.1 p.2 F e n,ne,a,d]
def Ak.callN{g':Array lH}{t':Nat}{d':Drawn}{ch:List J}(M:Ak X pins σ H s)(u:Un (Tj X.stack) ch H H' s.heap h')(S:cJ X.prog X.w H' h')(Q:kL g')
  (F:∀b∈ch,(b∈X.ex\/X.s₀.heap.get? b=U)/\b≠X.env.locals/\(∀x c,X.env.cells.lookup x=g c->c≠b)/\∀p∈X.pn++pins,p.1≠b) :
  Ak X pins σ H' { s with heap:=h',gens:=g',drawn:=d',toks:=t' }:=by
 let[m,[o,W,A,B,r],_]:=id M.loc;let[d,N]:=u.any B M.free λz=>(F _ z).2.1 I;exact M.stepN (ch:=ch) F (λb o N T j e n=>u.keep b o e n (λz=>(cr.mp (M.stkSub b z)).elim N T) j) (λb o y y j e n=>u.any e n j) (λb o j e n=>u.free b o e n j) (λb o j e=>u.there b o e j) u.tups u.frzs u.tbls (λK P=>by
  let[E,O,C,L,R]:=P;rw[B]at L;cases L;exact[_,O,C,N,R]) S Q
def Uy{M:pH}{e:J}{vs:Array eJ}{T ae:eJ}{j:Bool}{E E':eJ->eO->Prop}{K:Unit->eO->Prop}(B:Ak X pins σ H s)(F:X.stack=X.env::X.outer)(aq:X.env.frame=g X.env.locals)
  (he:s.heap.get? e=g d) (hd:d.data=.fields vs) (k:1<vs.size) (h2:vs[2]?=g ae) (S:cA X pins H e)
  (h:∀h',Ak X pins σ H { s with heap:=h' }->dN h' e d.cls d.dict ae (cA X pins H)->K () { s with heap:=h' }) :
  eV M X.A (do let a <- frameOf X.env;let pl <- entryPlaceOf X.env.locals j;let b <- kD T a .none (fY X.env.locals) .none pl;setField (.ref e) 1 b)
   (λ_ s2=>eV M A' (kZ (.ref e) U) K E' s2) E s:=by
 let hl:s.heap.FunFrames X.base (X.env::X.outer):=by rw[<- F];exact B.stack
 let ap:X.A.frames=g (X.env::X.outer):=by rw[<- F];exact B.ok.frames
 let ao:e∉(X.env::X.outer).filterMap (·.frame):=λL=>by
  let aj:e∈Tj X.stack:=by rw[F];exact L
  rcases cr.mp (B.stkSub e aj)with z|z
  .exact S.2.1 z
  .exact S.2.2.1 z
 refine a_ (wpAny_frameOf_fun ap hl aq λQ P=>?_);refine a_ (wpAny_entryPlaceOf λpl aa=>?_);unfold kD;unfold newFields;refine a_ (gM ?_ (aa.sizeOk5 _ _ _ _ _));let ai:Q.get? e=g d:=(P.2.1 e ao).trans he;generalize hO:({ cls:=.type "traceback",dict:=U,data:=.fields (#[T,.ref X.env.locals,.none,fY X.env.locals,.none]++(if pl.isEmpty then kq 6 fP else pl)).toArray }:gS)=O;let dO:∃p,O.data=.fields p/\3<p.size:=by
  refine[_,by rw[<- hO],?_];rw[dw,fy,c_,c_,c_,c_,c_]
  lia
 let[p,ad,N]:=dO;let ah:=dv (h:=Q) O ai;refine iR ah hd k ?_;let i:Q.objs.size≠e:=ny (dn ai);let C:=jV hd (λz=>z.setIfInBounds 1 (fD Q.objs.size));let af:=p_ (gE λz=>z.setIfInBounds 1 (fD Q.objs.size)) ah (iZ C);let ag:((Q.push O).update e (gE λz=>z.setIfInBounds 1 (fD Q.objs.size))).get? Q.objs.size=g O:=
  (n_ _ _ (fQ i)).trans (h_ Q (by rw[<- hO];rfl))
 unfold kZ;refine a_ (gQ af C (x:=.ref Q.objs.size) (by simp[k]) ?_);rw[eR (show(fD Q.objs.size != .none)=eP by simp)];refine iR ag ad N ?_;generalize m:((Q.push O).update e (gE λz=>z.setIfInBounds 1 (fD Q.objs.size))).update Q.objs.size (gE λz=>z.setIfInBounds 3 ((U:Option J).elim fP λf=>fY f))=W;let R:∀b o,b≠e->Q.get? b=g o->W.get? b=g o:=λb o ar L=>by
  let am:Q.objs.size≠b:=ny (dn L);rw[<- m,n_ _ _ am,n_ _ _ (fQ ar)];exact dv _ L
 let ak:W.get? e=g (gE (λz=>z.setIfInBounds 1 (fD Q.objs.size)) d):=by
  rw[<- m,n_ _ _ i];exact af
 let ac:=jV ad (λz=>z.setIfInBounds 3 ((U:Option J).elim fP λf=>fY f));let al:W.get? Q.objs.size=g (gE (λz=>z.setIfInBounds 3 ((U:Option J).elim fP λf=>fY f)) O):=by
  rw[<- m];exact p_ _ ag (iZ ac)
 let u:Un (Tj X.stack) #[e] H H s.heap W:=by
  refine[λb o q _ L A=>R b o (by simpa using A) ((P.2.1 b ?_).trans q),λb o q _ _ A=>?_,λ_ _ _ n _=>n,λb o q A=>?_,λ_ _ q=>q,λ_ _ _ q=>q,λb ps q=>[#v[],by rw[q];simp]]
  .rw[F]at L
   exact L
  .let[l,z]:=P.2.2 b o q
   exact[l,R b _ (by simpa using A) z]
  .let[l,z]:=P.2.2 b o q
   exact[_,R b _ (by simpa using A) z]
 let an:cJ X.prog X.w H W:=λb o z=>(B.hok b o z).stay (λc v hc q=>by
  let hs:∃w,H c=g w:=by
   rcases hc with r|r
   .exact[o,by rw[r];exact z]
   .exact[_,r]
  let[w,t]:=hs;refine R c v (λy=>?_) ((P.2.1 c λy=>?_).trans q)
  .rw[y,S.1]at t;cases t
  .have n:=B.stkFree c (by rw[F];exact y)
   rw[t]at n;cases n) (λ_ q=>q) λ_ _ q=>q
 let I4:Ak X pins σ H { s with heap:=W }:=B.callN (g':=s.gens) (d':=s.drawn) (t':=s.toks) (ch:=#[e]) u an B.bare λb L=>by
  let z:b=e:=by simpa using L
  subst z;exact[S.2.2.2.1,S.2.1,S.2.2.2.2.1,S.2.2.2.2.2]
 let gT:s.heap.get? Q.objs.size=U:=sD (by rw[P.1];exact b' _);let nT:H Q.objs.size=U:=B.hok.fresh (by rw[P.1];exact b' _);refine h W I4 [_,_,ak,wF _ _,?_,C,by simpa using k,?_,S,.inr [Q.objs.size,_,_,by simp[k],i,al,ac,?_,B.fxOk gT nT]]
 .let[c0,d0,dt,l]:=d
  cases dt<;>rfl
 .rw[oQ Y]
  exact h2
 .rw[mC N]
  rfl
def Wm{M:pH}{e:J}{c S:eJ}{d:Option J}{E b:eJ->eO->Prop}{K:Unit->eO->Prop}(N:Ak X pins σ H s)(L:X.stack=X.env::X.outer)(j:X.env.frame=g X.env.locals)
  (x:dN s.heap e c d S (cA X pins H)) (h:∀h',Ak X pins σ H { s with heap:=h' }->dN h' e c d S (cA X pins H)->K () { s with heap:=h' }) :
  eV M X.A (mE (.ref e) X.env) (λy l=>eV M q (kZ (.ref e) U) K b l) E s:=by
 let[p,r,O,k,B,C,A,R,W,f]:=x;subst k B;unfold mE;simp only[j];rcases f with P|⟨T,oT,o,P,u,hT,F,Q,t⟩
 .refine a_ (gQ O C P ?_)
  rw[eQ (show ¬(fP != .none)=eP by lk)];exact Uy N L j O C A R W h
 .refine a_ (gQ O C P ?_)
  rw[eR (show(fD T != .none)=eP by simp)];refine a_ (gQ hT F Q ?_);rw[eQ (show ¬(fP==fY X.env.locals)=eP by simp[fY])];refine a_ (iR hT F (wf.mp Q).1 ?_);rw[wV s.heap T oT o 3 .none hT F Q];exact Uy N L j O C A R W h
def N6{M:pH}{e:J}{c F:eJ}{d:Option J}{Q:eJ->eO->Prop}{K:Unit->eO->Prop}{P:J->Prop}(x:dN s.heap e c d F P)(h:K () s):eV M b (kZ (.ref e) U) K Q s:=by
 let[A,E,S,p,N,L,o,W,l,B]:=x;unfold kZ;rcases B with O|⟨T,oT,R,O,k,hT,j,C,f⟩
 .refine a_ (gQ S L O ?_)
  rw[eQ (show ¬(fP != .none)=eP by lk)];exact b_ h
 .refine a_ (gQ S L O ?_)
  rw[eR (show(fD T != .none)=eP by simp)];refine iR hT j (wf.mp C).1 ?_;show K () { s with heap:=s.heap.update T (gE λz=>z.setIfInBounds 3 .none) };rw[wV s.heap T oT R 3 .none hT j C];exact h
end
def Tg(P:eY)(w:fF):IF:=λB H s E v C=>∃e c d L,v=.ref e/\C.os=s.os/\kL C.gens/\Un (Tj B) [] H L s.heap C.heap/\cJ P w L C.heap /\
 dN C.heap e c d fP (λb=>s.heap.get? b=U/\L b=U)/\E c d L
def cW(X:Cx)(W:St->XK):Prop:=∀(B:List (J×gS)) (C:St) (H:Hp) (s:eO) (e:J) (c:eJ) (d:Option J),Ak X B C H s->dN s.heap e c d fP (cA X B H)->W C c d H->X.xe (.ref e) s
def cW.pass{X:Cx}{W:St->XK}{pins:List (J×gS)}{s s':eO}{v:eJ}(L:cW X W)(B:Ak X pins f H s)(h:Tg X.prog X.w X.stack H s (W f) v s'):X.xe v s':=by
 let[e,c,d,M,rfl,C,j,N,F,x,S]:=h;exact L pins f M s' e c d (B.call' C N F j λb z=>fA z zZ) (x.imp λb q=>B.fxOk q.1 q.2) S
def Ce{P}{w}{K}{mg:eU->Option eJ}{Q}{N}{qual}{scope}{f}{B}{A}{outer}{C}{L}{E} :
  cW (Hb (Tg P w) P w K mg Q N qual scope f B A outer C L E) (λy=>E):=by
 intro R W H s e c d M x S;show eV _ _ (vH _ (.ref e)) _ _ s;unfold vH;refine a_ (Wm M I I x λT j O=>?_);refine[e,c,d,H,I,j.os,j.bare,j.base,j.hok,O.imp λb F=>[?_,F.1],S];rcases F.2.2.2.1 with z|z
 .exact nomatch (show b∈([]:List J) from z)
 .exact z
def dW(X:Cx)(W:St->XK):Prop:=∀(B:List (J×gS)) (L:St) (H:Hp) (s:eO) (e:J) (c:eJ) (d:Option J) (C:eJ),Ak X B L H s->dN s.heap e c d C (cA X B H)->W L c d H->X.xe (.ref e) s
def dW.n{X:Cx}{W:St->XK}(h:dW X W):cW X W:=λC L H s e c d B x j=>h C L H s e c d _ B x j
def QW(sp:Sp)(W:St->XK)(t:TA):TE:=λB H Q=>t B H λL C=>sp L C Q (W B)
structure Pw(P:eY)(w:fF)(K:a')(mg:eU->Option eJ)(base:fK)(k:Nat)(x:eU)(ps:List eU)(sp:Sp):Prop where
 ex:∃f fd,Bp P w K mg base (Tg P w) k f fd ps sp/\Hi K fd ps []/\js K (.ref f)=eP/\mg x=g (.ref f)
def eE.calX{P}{w}{K}{mg:eU->Option eJ}{B}{k:Nat}{x}{st}{ps}{sp}(D:eE K mg x st ps)(h:∀f C,cF K x x st f C->Bp P w K mg B (Tg P w) k f C ps sp):Pw P w K mg B k x ps sp:=by
 let[f,C,F,b,m]:=D.ex;exact[f,C,h f C F,b,F.kp,m]
section
variable {X:Cx} {k:Nat} {f:J} {fd:m_} {ps:List eU} {sp:Sp} {x:eU} {p pos:nA} {e:gK} {es:List gK} {t:TA} {W:St->XK}
def T6{pins:List (J×gS)}{s:eO}{Q:VK}{us:List eJ}{vs:List V}(F:Bp X.prog X.w X.K X.mg X.base (Tg X.prog X.w) k f fd ps sp)(N:Bv k X.A)(C:Hi X.K fd ps [])(S:cW X W)
  (B:Ak X pins c H s) (r:Ap vs us) (h:sp vs H Q (W c)):eV (fC X.prog X.w) X.A (call (.ref f) us) (EP X pins c Q) X.xe s:=by
 let M:(us++[]).length=ps.length:=by rw[lq,<- r.length];exact F.len _ _ _ _ h
 let b:=C s us B.kIn M;rw[lq]at b;refine iE (hJ (F.run X.A X.stack s H [us,[]] us vs Q (W c) N B.env0 b r h) λq O j=>?_);cases q with
 |error v=>exact S.pass B j
 |ok L=>
  cases L with
  |ret u=>exact B.after j
  |next=>exact fS j
  |brk=>exact fS j
  |cont=>exact fS j
def Df(C:Pw X.prog X.w X.K X.mg X.base k x ps sp)(A:Bv k X.A)(O:cW X W)(B:Gl X x)(S:PA X (e::es) t)
  (j:(x==("__debug__" : eU))=eM:=by lk) (K:eX (e::es) X.env=(eM,gC e X.env)::eX es X.env:=by rfl) (R:(gH pos (eX es X.env)).any (·.1)=eM:=by rfl) :
  PE X (.Call (.Name x p) (e::es) [] pos) (QW sp W t):=by
 intro P s E H Q N h;let[f,fd,F,b,M,T]:=C.ex;refine gB (Ev N B T ?_ j);refine pi (h₀:=X.base) N.ok.mod.kin M (Ct (S pos P s E H _ N h) λo c ⟨d,l,L,r,q⟩=>[L.kIn,?_]) K R;exact T6 F A b O L r q
end
def cF.okX{P}{w}{K}{mg:eU->Option eJ}{R}{x qual}{st}{f}{W}{N ps}{k:Nat}{sp}(F:cF K x qual st f W)(S:Bg N ps (Ao st))(T:∀vs H Q E,sp vs H Q E->vs.length=ps.length)
  (j:∀(O:eJ) (A:fL) (outer:List mB) (s:eO) (H:Hp) (vs:List V) (Q:VK) (E:XK),Bv k (A.deeper (iI qual (Ao st) ⇑s f O))->sp vs H Q E ->
   ∃t,PSs (Hb (Tg P w) P w K mg R N qual (Ao st) f O A outer s H E) (Bw st) t/\t { nx:=λy H'=>Q .non H',rt:=Q } (Eh N vs) H):Bp P w K mg R (Tg P w) (k+1) f W ps sp:=by
 let[c,l,kV,M,b,d,O,o,B,rfl,lk,L]:=F.ex;exact Yq lk L S T λA outer s H vs Q E X C=>j O A outer s H vs Q E X C
structure VA(K:a')(x:eU)(mg:eU->Option eJ)(C:J):Prop where
 at_:mg x=g (.ref C)
 ex:∃bm newId initId B,vb K C bm newId=eP/\qG B newId initId bm
set_option tactic.hygienic true in
def IR{K}{h}{C}{P}{O}(X:K.In h)(q:vb K C P O=eP) :
  ∃bm N nm S bs hdct sn sub ab col dd k0 k1 k2 k3 k5 mN,h.get? C=g (lO nm S C N bs bm hdct sn sub ab col dd k0 k1 k2 k3 k5 O)/\h.Ns N mN/\mN "__init__"=U/\OwnTail h P bm:=by
 unfold vb at q
 split at q
 .rename_i dd W A lk
  split at q
  .rename_i d bm k0 k1 k2 k3 n k5 R Q
   simp only[gd,beq_iff_eq,ql]at q;let[[[[[b,c],j],E],F],L]:=q;subst b c;let[nm,bs,H,T,S,B,sn,sub,ab,col,M]:=W;simp only at R j F L;subst R j;obtain⟨l⟩:=A;simp only at Q;subst Q;exact[bm,T,nm,S,bs,B,sn,sub,ab,col,dd,k0,k1,k2,k3,k5,_,X _ _ lk,.of_isNs (mT X F),PySem.W.nsMap_none_of_in X F L,tD X E]
  .cases q
 .cases q
def PK(C:J)(W:St->XK)(t:TA):TS:=λx B H=>t B H λM L=>M.length<=sizeLine/\W B (.ref C) U L
def Es{X}{x}{C}{W:St->XK}{t}{e}{es}{np R b}(y:cW X W)(hc:X.calm=eP)(O:VA X.K x X.mg C)(m:Gl X x)(a:PA X (e::es) t)
  (P:(x==("__debug__" : eU))=eM:=by lk) (p:eX (e::es) X.env=(eM,gC e X.env)::eX es X.env:=by rfl) (f:(gH R (eX es X.env)).any (·.1)=eM:=by rfl) :
  PS X (.Raise (g (.Call (.Name x np) (e::es) [] R)) U b) (PK C W t):=by
 intro A s u H D M h;let[v,c,E,B,q,k]:=O.ex;let[bm,N,nm,qn,bs,hdct,sn,sub,ab,col,dd,k0,k1,k2,k3,k5,mN,hC,n,S,T]:=IR M.mod.kin q;refine wpAny_Raise_call_subT (C:=C) (nm:=nm) (q:=qn) (N:=N) (bs:=bs) (bm:=bm) (hdct:=hdct) (sn:=sn) (sub:=sub) (ab:=ab) (col:=col) (dd:=dd) (k0:=k0) (k1:=k1) (k2:=k2) (k3:=k3) (k5:=k5) k (mN:=mN)
  (T.hasType k.hasBase) (M.ok.hd hc) ?_ S (Ev M m O.at_ [I,?_] P)
 .rw[p]
  show(eM||(gH R (eX es X.env)).any (·.1))=eM;rw[f];rfl
 let F:=a R A s u H _ M h;rw[p]at F⊢;refine kG (Ct F λus Q ⟨vs,d,j,r,i,hw⟩=>[I,by rw[<- r.length];exact i,j.bk _ _ hC,n.keeps j.bk,T.keeps j.bk,λw K L=>?_]);let[t0,ht,aa,_]:=L.there;let nH:d K=U:=by
  cases z:d K with
  |none=>rfl
  |some o=>
   let[ob,l]:=(j.hok K o z).is;rw[L.new]at l;cases l
 exact y A u d { Q with heap:=w } K (.ref C) U (j.kept (t':=Q.toks) L.keeps) [_,_,ht,rfl,rfl,rfl,(show(1:Nat)<6 from by lk),rfl,j.fxOk L.new nH,.inl rfl] hw
abbrev Cx.tr(X:Cx)(pn:List (J×gS))(E:eJ->eO->Prop):Cx:={ X with pn:=pn,xe:=E }
abbrev Cx.sup(X:Cx)(e:J):Cx:={ X with A:=X.A.mark (g (.ref e)),calm:=eM,xe:=λx x=>False }
section
variable {X:Cx} {pins pins' pn:List (J×gS)} {σ:St} {H:Hp} {s:eO} {E:eJ->eO->Prop} {e:J}
def Cx.Ok.tr(B:X.Ok):(X.tr pn E).Ok:=[B.mod,B.kind,B.glob,B.blt,B.above,B.inj,B.has,B.cab,B.hd,B.frames,B.stk,B.exf,B.bs,B.bsz,B.noex,B.exfs,B.funs,B.frf]
def Cx.Ok.untr(B:(X.tr pn E).Ok):X.Ok:=[B.mod,B.kind,B.glob,B.blt,B.above,B.inj,B.has,B.cab,B.hd,B.frames,B.stk,B.exf,B.bs,B.bsz,B.noex,B.exfs,B.funs,B.frf]
def Ak.tr(B:Ak X pins σ H s):Ak (X.tr (X.pn++pins) E) [] σ H s:=[B.ok.tr,B.os,B.bare,B.base,B.loc,B.cell,B.free,B.freeC,λp C=>B.pin p (by simpa using C),B.hok,B.len]
def Ak.untr(B:Ak (X.tr (X.pn++pins) E) pins' σ H s):Ak X pins σ H s:=[B.ok.untr,B.os,B.bare,B.base,B.loc,B.cell,B.free,B.freeC,λp C=>B.pin p (vv _ C),B.hok,B.len]
def cA.untr{b:J}(f:cA (X.tr (X.pn++pins) E) pins' H b):cA X pins H b:=[f.1,f.2.1,f.2.2.1,f.2.2.2.1,f.2.2.2.2.1,λp B=>f.2.2.2.2.2 p (vv _ B)]
def SP.untr{D:Jy}{f:Flow}(h:SP (X.tr (X.pn++pins) E) pins' D f s):SP X pins D f s:=by
 cases f with
 |next=>let[j,C,B,q]:=h;exact[j,C,B.untr,q]
 |brk=>let[j,C,B,q]:=h;exact[j,C,B.untr,q]
 |cont=>let[j,C,B,q]:=h;exact[j,C,B.untr,q]
 |ret u=>let[v,j,C,B,r,q]:=h;exact[v,j,C,B.untr,r,q]
def Cx.Ok.sup(B:X.Ok):(X.sup e).Ok:=[B.mod,B.kind,B.glob,B.blt,B.above,B.inj,B.has,B.cab,(λz=>nomatch z),B.frames,B.stk,B.exf,B.bs,B.bsz,B.noex,B.exfs,B.funs,B.frf]
def Ak.sup(B:Ak X pins σ H s):Ak (X.sup e) pins σ H s:=[B.ok.sup,B.os,B.bare,B.base,B.loc,B.cell,B.free,B.freeC,B.pin,B.hok,B.len]
def Ak.unsup(B:Ak (X.sup e) pins σ H s)(C:X.Ok):Ak X pins σ H s:=[C,B.os,B.bare,B.base,B.loc,B.cell,B.free,B.freeC,B.pin,B.hok,B.len]
def BS(e:J)(c:eJ)(d:Option J):HO:=.ext λh=>∃B C,h.get? e=g B/\B.cls=c/\B.dict=d/\B.data=.fields C
def Ak.track{c:eJ}{d:Option J}{vs:Array eJ}(B:Ak X pins σ H s)(j:cA X pins H e)(L:s.heap.get? e=g f)(N:f.cls=c)(F:f.dict=d)(M:f.data=.fields vs) :
  Ak X pins σ (upd H e (BS e c d)) s:=by
 let O:∀b u,H b=g u->b≠e:=λb u q=>Af q j.1;refine[B.ok,B.os,B.bare,[B.base.keep,B.base.slot,λb o q n S=>?_,B.base.there,λb P q=>?_,λb o u q=>?_,λb t q=>?_],B.loc,B.cell,?_,λx c q=>?_,λp Q=>?_,λb u q=>?_,B.len]
 .rw[Aj]
  .exact B.base.free b o q n S
  .rintro rfl
   rcases j.2.2.2.1 with z|z
   .exact S z
   .rw[q]at z;cases z
 .have z:=B.base.tups b P q
  rw[Aj (O _ _ z)];exact z
 .have z:=B.base.frzs b o u q
  rw[Aj (O _ _ z)];exact z
 .let[m,z]:=B.base.tbls b t q
  exact[m,by rw[Aj (O _ _ z)];exact z]
 .rw[Aj (fQ j.2.1)];exact B.free
 .rw[Aj (j.2.2.2.2.1 x c q)];exact B.freeC x c q
 .let[r,W,C,l,A]:=B.pin p Q
  exact[r,by rw[Aj (j.2.2.2.2.2 p Q)];exact W,C,l,A]
 .by_cases z:b=e
  .subst z
   rw[Ab]at q;cases q;refine[[f,vs,L,N,F,M],[f,L],λh w p k=>?_];let[v,K,R,T]:=p;exact[v,K,k _ R,T]
  .rw[Aj z]at q
   exact(B.hok b u q).stay (λa a a y=>y) (λc y=>by rw[Aj (O _ _ y)];exact y) λc P y=>by rw[Aj (O _ _ y)];exact y
def Ak.forget{h':fK}{C:eU->Option eJ}{t':Nat}(M:Ak X pins σ H s)(P:h'.Ns X.env.locals C)(O:i_ X.env.locals s.heap h'):Ak X pins (σ.map λa=>U) H { s with heap:=h',toks:=t' }:=by
 let j:∀b o,X.s₀.heap.get? b=g o->b≠X.env.locals:=λb o q=>fj (k_ (dn q) M.ok.above);refine[M.ok,M.os,M.bare,[λb o q n S F=>?_,λb o q n S F=>?_,M.base.free,λb o q F=>?_,M.base.tups,M.base.frzs,M.base.tbls],[C,P,λi x v a L a=>?_],λx c q=>?_,M.free,M.freeC,λp Q=>?_,λb u q=>?_,by simpa using M.len]
 .exact(O.2 b (j b o q)).trans (M.base.keep b o q n S F)
 .let[T,z]:=M.base.slot b o q n S F
  exact[T,(O.2 b (j b o q)).trans z]
 .let[R,z]:=M.base.there b o q F
  exact[R,(O.2 b (j b o q)).trans z]
 .rw[jk]at L
  cases z:σ[i]? with
  |none=>rw[z]at L;cases L
  |some y=>rw[z]at L;cases L
 .let[v,z]:=M.cell x c q
  exact[v,z.sameBut O (M.cne x c q)]
 .let[W,A,N,B,d]:=M.pin p Q
  exact[(O.2 p.1 N).trans W,A,N,B,d]
 .refine(M.hok b u q).stay (λc v K y=>(O.2 c λz=>?_).trans y) (λa y=>y) λa a y=>y
  rcases K with r|r
  .rw[<- r,z,M.free]at q;cases q
  .rw[z,M.free]at r;cases r
end
section
def Tc{M:pH}{h:fK}{e:J}{c:eJ}(j:h.get? e=g b)(F:b.cls=c):q3 M h (sM (.ref e)) c:=F▸(q3.ld j).andThen .now
end
structure cY(k:Nat)(A:fL):Prop where
 dp:A.depth+3*k+5<nV
 un:A.units+16*k+200<iM
def Bv.sup{k:Nat}{A:fL}(r:Bv k A)(v:Option eJ):cY k (A.mark v):=[r.dp,r.un]
def cY.deeper{k:Nat}{A:fL}(r:cY (k+1) A)(env:mB):cY k (A.deeper env):=
 [by let:=r.dp;show A.depth+1+3*k+5<_;lia,by let:=r.un;show A.units+3+16*k+200<_;lia]
structure Zc(P:eY)(w:fF)(K:a')(mg:eU->Option eJ)(base:fK)(k:Nat)(f:J)(fd:m_)(ps:List eU)(sp:Sp):Prop where
 len:∀vs H Q E,sp vs H Q E->vs.length=ps.length
 run:∀(A:fL) (outer:List mB) (s:eO) (H:Hp) (args:Args) (us:List eJ) (vs:List V) (Q:VK) (E:XK),cY k A->dC P w K mg base A outer s H->qI s fd args (ps.zip us)->Ap vs us->sp vs H Q E ->
  jI (fC P w) A (.call (.ref f) args) (CR Fv outer P w H s Q E) s
abbrev WJ(P:eY)(w:fF)(K:a')(mg:eU->Option eJ)(B:fK)(N:List eU)(qual:eU)(scope:kU)(f:J)(C:eJ)(A:fL)(outer:List mB)(s:eO)(H:Hp):Cx:=
 { Hb Fv P w K mg B N qual scope f C A outer s H E0 with calm:=eM,xe:=λx x=>False }
def L8{P}{w}{K}{mg:eU->Option eJ}{C}{N ps}{qual}{scope}{f}{F}{A}{outer}{s M}{H}{us}{vs}
  (S:Bg N ps scope) (j:dC P w K mg C A outer s H) (O:vs.length=ps.length) (r:Ap vs us)
  (x:InCallC s ⇑s (sV (iI qual scope ⇑s f F).kindOf (ps.zip us) λy=>U) (oJ (⇑s+1) scope.names []) (sW (iI qual scope ⇑s f F).kindOf (ps.zip us) λy=>U) M) :
  Ak (WJ P w K mg C N qual scope f F A outer s H) [] (Eh N vs) H M:=by
 let L:dC P w K mg C { A with handled:=U } outer s H:=[j.frames,j.mod,j.bs,j.bsz,j.funs,j.frf,j.hok,j.bare];let B:=Ou (CX:=Fv) (E:=E0) (A:={ A with handled:=U }) S rfl L O r x;exact[[B.ok.mod,B.ok.kind,B.ok.glob,B.ok.blt,B.ok.above,B.ok.inj,B.ok.has,B.ok.cab,(λz=>nomatch z),sI j.frames,B.ok.stk,B.ok.exf,B.ok.bs,B.ok.bsz,B.ok.noex,B.ok.exfs,B.ok.funs,B.ok.frf],B.os,B.bare,B.base,B.loc,B.cell,B.free,B.freeC,B.pin,B.hok,B.len]
def NZ{P}{w}{K}{mg:eU->Option eJ}{W}{k:Nat}{f}{name qual}{j}{X}{scope}{dV kV M m T ct oc}{a od}
  {ae} {N ps} {sp} (lk:K.lookup f=g [oc,od,.func (i' name qual j X scope dV kV M m a T ct),ae]) (ac:nN K T qual=eP) (S:Bg N ps scope)
  (l:∀vs H Q E,sp vs H Q E->vs.length=ps.length)
  (F:∀(A:fL) (outer:List mB) (s:eO) (H:Hp) (vs:List V) (Q:VK) (E:XK),cY k (A.deeper (iI qual scope ⇑s f T))->sp vs H Q E ->
   ∃t,PSs (WJ P w K mg W N qual scope f T A outer s H) X t/\t { nx:=λ_ H'=>Q .non H',rt:=Q } (Eh N vs) H) :
  Zc P w K mg W (k+1) f (i' name qual j X scope dV kV M m a T ct) ps sp:=by
 refine[l,λA outer s H af us vs Q E h C hb r aa=>?_];let hl:=l _ _ _ _ aa;let KX:K.In s.heap:=C.mod.kin.keeps λb o e=>(C.bs b o e).1;let ad:s.heap.NoLimit:=C.mod.nolimit.keeps λb o e=>(C.bs b o e).1;let L:∀y∈ps.zip us,scope.names.lookup y.1=g .local\/(scope.names.lookup y.1=g .cell/\((oJ (⇑s+1) scope.names []).lookup y.1).isSome=eP):=λ⟨n,v⟩ hy=>by
  rcases S.par n (wj hy).1 with q|q
  .exact .inl q
  .exact .inr [q,wR _ _ _ (.inl q)]
 let ab:A.depth<nV:=by let:=h.dp;lia
 refine wC ab (KX _ _ lk) I S.co S.gen I (tH KX ac) (hb _ _ _ _ ?_);refine lE S.kind L λa0 he i x=>?_;subst he;refine[ad.keeps x.toInCall.keep,codeAny_func ?_];let[t,ht,hq]:=F A outer s H vs Q E (h.deeper _) aa;let B:Ak (WJ P w K mg W N qual scope f T A outer s H) [] (Eh N vs) H i:=L8 S C hl r x;refine gI (ht [] i (Eh N vs) H _ B hq) (λfl p d=>?_) λe p d=>fS d;let O:∀{c:St} {H':Hp} {v:V} {u:eJ},Ak (WJ P w K mg W N qual scope f T A outer s H) [] c H' p->Az v u->Q v H'->CE outer P w H s Q u p:=
  λ{c H' v u} R z q=>[v,H',R.os,R.bare,R.base,R.hok,z,q]
 cases fl with
 |ret u=>
  let[v,c,H',R,z,q]:=d;exact O R z q
 |next=>
  let[c,H',R,q]:=d;exact O (v:=V.non) (u:=fP) R I q
 |brk=>
  let[_,_,_,q]:=d;exact fS q
 |cont=>
  let[_,_,_,q]:=d;exact fS q
def cF.okH{P}{w}{K}{mg:eU->Option eJ}{R}{x qual}{st}{f}{W}{N ps}{k:Nat}{sp}(F:cF K x qual st f W)(S:Bg N ps (Ao st))(T:∀vs H Q E,sp vs H Q E->vs.length=ps.length)
  (j:∀(O:eJ) (A:fL) (outer:List mB) (s:eO) (H:Hp) (vs:List V) (Q:VK) (E:XK),cY k (A.deeper (iI qual (Ao st) ⇑s f O))->sp vs H Q E ->
   ∃t,PSs (WJ P w K mg R N qual (Ao st) f O A outer s H) (Bw st) t/\t { nx:=λy H'=>Q .non H',rt:=Q } (Eh N vs) H):Zc P w K mg R (k+1) f W ps sp:=by
 let[c,l,kV,M,b,d,O,o,B,rfl,lk,L]:=F.ex;exact NZ lk L S T λA outer s H vs Q E X C=>j O A outer s H vs Q E X C
structure OH(P:eY)(w:fF)(K:a')(mg:eU->Option eJ)(base:fK)(k:Nat)(x:eU)(ps:List eU)(sp:Sp):Prop where
 ex:∃f fd,Zc P w K mg base k f fd ps sp/\Hi K fd ps []/\js K (.ref f)=eP/\mg x=g (.ref f)
def eE.calH{P}{w}{K}{mg:eU->Option eJ}{B}{k:Nat}{x}{st}{ps}{sp}(D:eE K mg x st ps)(h:∀f C,cF K x x st f C->Zc P w K mg B k f C ps sp):OH P w K mg B k x ps sp:=by
 let[f,C,F,b,m]:=D.ex;exact[f,C,h f C F,b,F.kp,m]
section
variable {X:Cx} {k:Nat} {f:J} {fd:m_} {ps:List eU} {sp:Sp} {x:eU} {p pos:nA} {e:gK} {es:List gK} {t:TA}
def Re(C:OH X.prog X.w X.K X.mg X.base k x ps sp)(c:cY k X.A)(K:Gl X x)(o:PA X (e::es) t)
  (S:(x==("__debug__" : eU))=eM:=by lk) (m:eX (e::es) X.env=(eM,gC e X.env)::eX es X.env:=by rfl) (W:(gH pos (eX es X.env)).any (·.1)=eM:=by rfl) :
  PE X (.Call (.Name x p) (e::es) [] pos) (B1 sp [] E0 t):=by
 intro P s z H Q B h;let[f,fd,F,b,d,w]:=C.ex;refine gB (Ev B K w ?_ S);refine pi (h₀:=X.base) B.ok.mod.kin d (Ct (o pos P s z H _ B h) λR O ⟨A,T,L,r,q⟩=>[L.kIn,?_]) m W;let q:sp A T Q E0:=by
  let N:sp (A++[]) T Q E0:=q;rw[lq]at N;exact N
 let l:(R++[]).length=ps.length:=by rw[lq,<- r.length];exact F.len _ _ _ _ q
 let M:=b O R L.kIn l;rw[lq]at M;refine iE (hJ (F.run X.A X.stack O T [R,[]] R A Q E0 c L.env0 M r q) λy n j=>?_);cases y with
 |error v=>exact fS j
 |ok E=>
  cases E with
  |ret u=>exact L.after j
  |next=>exact fS j
  |brk=>exact fS j
  |cont=>exact fS j
end
def tx(l:List Nat):eU:=[l.toArray]
def DI(l:List Nat):(tx l).cps.toList=l:=rfl
def Gm(l:List Nat):(tx l).length=l.length:=by simp[tx,Str.length]
def HX(x:eU):tx x.cps.toList=x:=by cases x;rfl
def RS{l m:List Nat}(h:tx l=tx m):l=m:=by
 let e:=gF (λz:eU=>z.cps.toList) h;exact e
def G7(l m:List Nat):tx l++tx m=tx (l++m):=by
 show([l.toArray++m.toArray]:eU)=[(l++m).toArray];rw[List.append_toArray]
def Dg(c:Nat):List Nat->List (List Nat)
 |[]=>#[[]]
 |x::l=>if x=c then []::Dg c l else match Dg c l with
  |[]=>#[#[x]]
  |p::r=>(x::p)::r
theorem Lo{c:Nat}:∀{l:List Nat},c∉l->Dg c l=#[l]
 |[],_=>rfl
 |x::l,h=>by
  let B:x≠c:=λe=>h (by rw[e];exact fk);unfold Dg;rw[eQ B,Lo λz=>h (e_ _ z)]
theorem Ow{c:Nat}:∀{p:List Nat} (l:List Nat),c∉p->Dg c (p++c::l)=p::Dg c l
 |[],l,_=>by
  show Dg c (c::l)=_;rw[Dg,eR I]
 |x::p,l,h=>by
  let B:x≠c:=λe=>h (by rw[e];exact fk);show Dg c (x::(p++c::l))=_;rw[Dg,eQ B,Ow l λz=>h (e_ _ z)]
theorem B8{c:Nat}:∀{ps},ps≠[]->(∀p∈ps,c∉p.cps.toList)->Dg c (qX (tx #[c]) ps).cps.toList=ps.map λp=>p.cps.toList
 |[],h,_=>fA I h
 |#[p],_,h=>Lo (h p fk)
 |p::q::r,_,h=>by
  let B:=B8 (ps:=q::r) zZ λz j=>h z (e_ _ j);let e:(qX (tx #[c]) (p::q::r)).cps.toList=p.cps.toList++c::(qX (tx #[c]) (q::r)).cps.toList:=by
   show(p++tx #[c]++qX (tx #[c]) (q::r)).cps.toList=_;show(p.cps++(tx #[c]).cps++(qX (tx #[c]) (q::r)).cps).toList=_;simp[tx]
  rw[e,Ow _ (h p fk),B];rfl
def Y4(l:List Nat)(c:Nat):pL (tx l) (tx #[c])=(Dg c l).map tx:=by
 let C:=StrLaws.join_split (tx l) (tx #[c]);let L:=StrLaws.split_free (tx l) c;let F:pL (tx l) (tx #[c])≠[]:=λz=>by
  let:=split_pos (tx l) (tx #[c]);rw[z]at this;simp at this
 let j:=B8 F L;rw[C,DI]at j;rw[j,rb]
 symm
 let:∀B:List eU,B.map (tx ∘ λp=>p.cps.toList)=B:=λB=>by
  induction B with
  |nil=>rfl
  |cons p r H=>rw[iw,H];show tx p.cps.toList::r=_;rw[HX]
 exact this _
section
variable {X:Cx}
theorem Wd:∀(ps:List eU) (n:Nat),Ap (ps.map V.str) (strsFrom n ps)
 |[],_=>.nil
 |p::r,n=>.cons [n,I] (Wd r (n+1))
inductive OS(x:V)(vs:List V)(H:Hp)(Q:VK):Prop
 |mk (z y:eU) (e:x=.str z) (e':vs=#[.str y]) (n:(y.length==0)=eM) (l:z.length+2<=sizeLine) (q:∀p,H p=U->Q (.ref p) (upd H p (.lst ((pL z y).map V.str))))
def EY:MO X "str.split" OS:=by
 intro P s W H x T v E Q M N R h;let[z,y,rfl,rfl,C,A,q]:=h;let[t,rfl]:=N;let[w,rfl,B]:=R.one;let[u,rfl]:=B;let L:=split_le z y;let j:=q ⇑s M.fresh;unfold pL at j L;cases O:(decide (z.length<y.length)||decide (qO z<qO y))with
 |false=>
  rw[O]at j L;cases S:(kO z y 0 z.length (z.length+1)).isEmpty with
  |false=>
   rw[S]at j L;simp only[pz,jP]at j L;refine kI qF (mP _ _ _) pP (pE _ _) (meets_str_split_sep z y t u O C S Z Z) ?_;exact[.ref _,_,M.lnew (Wd _ _) (by rw[cn];lia),I,j]
  |true=>
   rw[S]at j;simp only[pz,jP,lY]at j;refine kI qF (mP _ _ _) pP (pE _ _) (meets_str_split_not_found z y t u O C S) ?_;exact[.ref _,_,M.lnew (t':=s.toks) (ys:=#[V.str z]) (.cons [t,I] .nil) (by show 1<=sizeLine;exact Ax Y),I,j]
 |true=>
  rw[O]at j;simp only[lY]at j;refine kI qF (mP _ _ _) pP (pE _ _) (meets_str_split_cannot_occur z y t u O) ?_;exact[.ref _,_,M.lnew (t':=s.toks) (ys:=#[V.str z]) (.cons [t,I] .nil) (by show 1<=sizeLine;exact Ax Y),I,j]
inductive JN(x y:V)(H:Hp)(Q:VK):Prop
 |mk (c:Nat) (z:eU) (e:x=.str (tx #[c])) (e':y=.str z) (q:Q (.bl (!decide (c∈z.cps.toList))) H)
def BG:Ko X (gN .NotIn) JN:=by
 intro C s L H x y v u Q B j F h;let[c,z,rfl,rfl,q]:=h;refine Xa C s L H _ _ v u Q B j F [tx #[c],z,I,I,?_];rw[show(!(kO z (tx #[c]) 0 z.length 1).isEmpty)=decide (c∈z.cps.toList) from StrLaws.found_one z c];exact q
def SO(x:eU):It:=[λi y=>i<x.cps.size,λi H v B=>B=H/\∃c,x.cps[i]?=g c/\v=.str (tx #[c]),λi y=>x.cps.size<=i]
def AY{P}{w}{K}{y}(x:eU)(t:vN)(it:J):Tq P w K y (SO x) #[it] it (λi h=>h.IsStrIter it "str_ascii_iterator" x t i) where
 mem:=by simp
 obj:=λi h O b j=>by
  let e:b=it:=by simpa using j
  subst e;let[o,e,c,d]:=O;exact[o,e,λv z=>by rw[d]at z;cases z]
 keep:=λi h R O k=>by
  let[o,e,c,d]:=O;exact[o,k it zZ o e,c,d]
 item:=by
  intro X A C M p i Q s l H E B L O N;subst A C M;let[f0,f1,m,W,T,S]:=L it zZ;let f:i<x.cps.size:=N;refine wpAny_pyNext_ascii_item O (c:=x.cps[i]) (by simp[f]) λR F u=>?_;let r:Ak X Q l H { s with heap:=R,toks:=s.toks+1 }:=B.turned (λb o j e=>(u.2 b j).trans e) f0 f1 W T S;let[o,e,c,d]:=id F;exact[_,I,Yv (s:={ s with heap:=R,toks:=s.toks+1 }) e c d Y [.str (tx #[x.cps[i]]),H,r,[_,rfl],[rfl,_,by simp[f],rfl],F,λb j=>(L b j).1]]
 done:=by
  intro X A C M p i Q s l H E B L O N;subst A C M;let[f0,f1,m,W,T,S]:=L it zZ;let f:x.cps.size<=i:=N;exact wpAny_pyNext_ascii_end (B.ok.hd p) O (by simp;lia) λR q=>[I,B.turned (t':=s.toks) (λb o j e=>q b o j e) f0 f1 W T S]
 self:=λa a a a a O h=>wpAny_pyIter_striter_ascii O h
def BJ{P}{w}{K}{y}(x:eU)(t:vN)(it:J):Tq P w K y (SO x) #[it] it (λi h=>h.IsStrIter it "str_iterator" x t i) where
 mem:=by simp
 obj:=λi h O b j=>by
  let e:b=it:=by simpa using j
  subst e;let[o,e,c,d]:=O;exact[o,e,λv z=>by rw[d]at z;cases z]
 keep:=λi h R O k=>by
  let[o,e,c,d]:=O;exact[o,k it zZ o e,c,d]
 item:=by
  intro X A C M p i Q s l H E B L O N;subst A C M;let[f0,f1,m,W,T,S]:=L it zZ;let f:i<x.cps.size:=N;refine wpAny_pyNext_wide_item O (c:=x.cps[i]) (by simp[f]) λR F u=>?_;let r:Ak X Q l H { s with heap:=R,toks:=s.toks+1 }:=B.turned (λb o j e=>(u.2 b j).trans e) f0 f1 W T S;let[o,e,c,d]:=id F;exact[_,I,Yv (s:={ s with heap:=R,toks:=s.toks+1 }) e c d Y [.str (tx #[x.cps[i]]),H,r,[_,rfl],[rfl,_,by simp[f],rfl],F,λb j=>(L b j).1]]
 done:=by
  intro X A C M p i Q s l H E B L O N;subst A C M;let[f0,f1,m,W,T,S]:=L it zZ;let f:x.cps.size<=i:=N;exact wpAny_pyNext_wide_end (B.ok.hd p) O (by simp;lia) λR q=>[I,B.turned (t':=s.toks) (λb o j e=>q b o j e) f0 f1 W T S]
 self:=λa a a a a O h=>wpAny_pyIter_striter_wide O h
def ZR(L:TE):TI:=λC H R=>L C H λx B=>∃z,x=.str z/\R (SO z) B
def OM{W l}{T}(E:PE X l T):PI X W l (ZR T):=by
 intro O s A H R M h;refine Ct (E O s A H _ M h) λv j N=>?_;let[x,P,F,C,B]:=N;let[z,e,q]:=B;subst e;let[t,rfl]:=C;let Q:∀b∈#[⇑j],Hs X O P b:=λb S=>by
  let e:b=⇑j:=by simpa using S
  subst e;exact F.fpOk (b' _) (F.hok.fresh (b' _))
 cases L:z.cps.all (· < 128)with
 |true=>exact wpAny_pyIter_ascii L [⇑j,#[⇑j],_,_,P,I,F.kept (t':=j.toks) λb o e=>dv _ e,AY z t _,[_,h_ _ I,I,I],Q,q]
 |false=>exact wpAny_pyIter_wide L [⇑j,#[⇑j],_,_,P,I,F.kept (t':=j.toks) λb o e=>dv _ e,BJ z t _,[_,h_ _ I,I,I],Q,q]
def KU{l:List Nat}{M:TG}{Q:TS}{D:Jy}{P:St}{H:Hp}(j:Nat->St->Hp->Prop)(A:j 0 P H)
  (R:∀i c P H,l[i]?=g c->j i P H->M (.str (tx #[c])) P H λS F=>Q { D with nx:=j (i+1),ct:=j (i+1),bk:=D.nx } S F) (E:∀P H,j l.length P H->D.nx P H) :
  ∃W:Nat->Nat->St->Hp->Prop,(∃m,W 0 m P H)/\∀i m P H,W i m P H ->
   ((SO (tx l)).stop i H/\D.nx P H)\/((SO (tx l)).go i H/\∃N:St->Hp->Prop,(∀L H',N L H'->∃O,O<m/\W (i+1) O L H')/\∀x H',(SO (tx l)).yld i H x H'->M x P H' λS F=>Q { D with nx:=N,ct:=N,bk:=D.nx } S F):=by
 let K:(tx l).cps.size=l.length:=by simp[tx]
 refine[λi m P H=>m=l.length-i/\i<=l.length/\j i P H,[l.length,zZ,de _,A],?_];rintro i m P H ⟨rfl,b,p⟩;by_cases C:i<l.length
 .refine .inr [by show i<(tx l).cps.size;lia,j (i+1),λL H' T=>[l.length-(i+1),Z,I,C,T],λx H' y=>?_]
  let[e,c,B,y]:=y;subst e y;exact R i c P _ (by simpa[tx]using B) p
 .have e:i=l.length:=by lia
  subst e;exact .inl [by show(tx l).cps.size<=l.length;lia,E P H p]
def YL:V->Option Int->Option Int->Hp->VK->Prop:=λx C B H Q=>∃z,x=.str z/\z.length<=sizeLine/\Q (.str (mZ z C B)) H
def GG:SK X YL:=by
 intro O s W H x v c b K E d Q M A P T R h;let[z,rfl,S,q]:=h;let[t,rfl]:=A;refine["str",_,F.slot_str_getitem.lookup,mP _ _ _,?_];let L:∀N k,EP X O W Q (.str (mZ z K E) N) { s with toks:=k }:=λN k=>[.str _,H,M.tok k,[N,I],q];cases T with
 |none=>
  cases R with
  |none=>exact jZ (l:=U) (u:=U) (st:=U) P I (mW [fO (oU z _ _) S,L])
  |int j C=>exact jZ (l:=U) (u:=g (j,C)) (st:=U) P I (mW [fO (oU z _ _) S,L])
 |int i B=>
  cases R with
  |none=>exact jZ (l:=g (i,B)) (u:=U) (st:=U) P I (mW [fO (oU z _ _) S,L])
  |int j C=>exact jZ (l:=g (i,B)) (u:=g (j,C)) (st:=U) P I (mW [fO (oU z _ _) S,L])
end
structure BP(K:a')(C:J):Prop where
 ga:ia K (.ref C) "__getattribute__"=g (g (.builtin "BaseException.__getattribute__"))
 gt:ia K (.ref C) "__getattr__"=g U
 cl:ia K (.ref C) "__class__"=g (g (.builtin "object.__class__"))
 ob:mK K C (.type "object")=g eP
 sb:PySem.W.subIn K (.ref C) (.type "BaseException")=g eP
 ic:PySem.W.isClsIn K C=eP
 hd:u5 K C=eP
 gs:vl K (.builtin "object.__class__") "__get__"=g (g (.builtin "getset_descriptor.__get__"))
 tk:oV K (.builtin "object.__class__")=g eP
def GF{K}{C}(B:BP K C)(od:Option gS):oX K C od "__class__"=g (.bind (.builtin "getset_descriptor.__get__") (.builtin "object.__class__")):=by
 let[F,j]:=vg.mp (show(rc K C).isSome=eP from B.ic);unfold oX;rw[j,oK,B.cl,oK];simp[B.gs,B.tk]
section
variable {prog:eY} {w:fF} {A:fL} {E:eJ->eO->Prop} {K:a'} {x D:J} {ox:gS} {od:Option gS}
def Vd{M}{h}{O}{d}{t:Nat}{P}{nameV}{Q:Unit->eO->Prop}(H:BP K D)(X:K.In h)(B:ti h x ox D od)(C:Q () [h,O,d,t,P]) :
  eV M A (qV "BaseException.__getattribute__" [#[.ref x,nameV],[]]) Q E [h,O,d,t,P]:=by
 let L:builtinKind "BaseException.__getattribute__"=g .slot:=by ac_nf
 let j:splitId "BaseException.__getattribute__"=g ("BaseException","__getattribute__"):=by ac_nf
 let R:=F.args_bexc_ga (.ref x) nameV;let N:=B.type (M:=M);let S:=PySem.W.looks_subIn (M:=M) X H.sb;simp only[qV,L,j];refine a_ ?_;unfold sR;refine a_ (N.at (S.at ?_))
 repeat (first|exact C|wp_step)
def Vg{s}{Q:Option eJ->eO->Prop}(H:BP K D)(X:K.In s.heap)(B:ti s.heap x ox D od)(h:Q (g (.ref D)) { s with toks:=s.toks+1 }):eV (fC prog w) A (getAttr? (.ref x) "__class__") Q E s:=by
 let[C,O,d,t,P]:=s;let j:=B.type (M:=fC prog w);let L:=s_ (M:=fC prog w) X H.ga;let N:=s_ (M:=fC prog w) X H.gt;let S:=tF (M:=fC prog w) X B (GF H od);unfold getAttr?;unfold getAttrBy?;unfold getAttrBy;refine a_ (wpAny_mkText (a_ (jF (fV (a_ (j.at (a_ (L.at ?_))))))));show eV _ _ (mY _ _ _ _ _ _) _ _ _;unfold mY;unfold hookBefore;refine a_ (N.at ?_);refine a_ (jF (fV ?_));show eV _ _ (sU _ _ _) _ _ _;unfold sU;refine a_ (jK (F.excAttr_ValueError.ga.bind (.ref x)) ?_);refine iE (jL F.excAttr_ValueError.ga.plain F.entry_bexc_ga (Vd H X B ?_));unfold iQ.«object.__getattribute__»;refine a_ (jK (a:=(fD x,#[kB "__class__" t])) I ?_);refine a_ (jK (a:=("__class__" : eU)) I ?_);refine a_ (j.at (a_ (S.at ?_)));show eV _ _ (iY #[Value.builtin "object.__class__"] (call (.builtin "getset_descriptor.__get__") #[.builtin "object.__class__",.ref x,.ref D]) >>= ret) _ _ _;refine a_ (fV (iE (PySem.W.class_get X B H.ob ?_)));refine b_ ?_;exact tX I (b_ h)
end
set_option tactic.hygienic true in
def GA{K}{e D}(B:BP K D):PySem.W.KitX K (.ref e) (.ref D) (λh=>∃F vs,h.get? e=g F/\F.cls=.ref D/\F.dict=U/\F.data=.fields vs) where
 ty:=λM h x p=>by
  let[F,vs,N,S,_]:=p;exact Tc N S
 it:=λM h X x=>by
  let[P,j]:=vg.mp (show(rc K D).isSome=eP from B.ic);unfold rc at j
  split at j
  .rename_i lk
   intro c b W f k q;unfold isType;unfold loadHead;exact a_ (nQ (k _ _ (X _ _ lk)) (b_ q))
  .cases j
 ne:=λh T d C n l X L=>by
  let[P,j]:=vg.mp (show(rc K D).isSome=eP from B.ic);refine ra.mpr λq=>?_;let e:D=T:=Value.ref.inj (beq_iff_eq.mp q);subst e;unfold rc at j
  split at j
  .rename_i lk
   let z:=(X _ _ lk).symm.trans L;cases z
  .cases j
 ca:=λ{O w A E Q s} X p k=>by
  let[F,vs,N,S,R,H]:=p;refine Vg (od:=U) (ox:=F) B X [N,S,?_,?_] k
  .unfold wn
   rw[H]
  .rw[R]
   trivial
def Rk{X:Cx}{x:eU}{C:J}(j:Gl X x)(L:X.mg x=g (.ref C))(F:(x==("__debug__" : eU))=eM:=by lk):PE X (.Name x b) (tC (.ref C)):=Xk (v:=.ref C) j L I F
section
variable {X:Cx}
def Ak.no{pins:List (J×gS)}{s:eO}{a:J}(B:Ak X pins b H s)(h:s.heap.get? a=U):H a=U:=by
 cases z:H a with
 |none=>rfl
 |some o=>
  let[F,j]:=(B.hok a o z).is;rw[h]at j;cases j
end
def Ni(K:a')(C f:J)(L:List eJ)(B:String):Bool:=match K.lookup C with
 | some [.type t,_,.cls H,M]=>(match M.toList with
  |#[_,_,_,_,g (.builtin n),_]=>t=="type" && (n==B && !H.hasDel)&&(PySem.W.nsOkIn K H.ns&&gn K H.ns "__init__"== g (g (.ref f)))&&(match H.mro with|.ref c::r=>c==C&&PySem.W.tailIn K L r|_=>eM)
  | _=>eM)
 |_=>eM
set_option tactic.hygienic true in
def IP{K}{h}{N}{m:eU->Option eJ}{x}{v}(X:K.In h)(B:h.Ns N m)(q:gn K N x=g (g v)):m x=g v:=by
 let[o,M,H,j,F,_,L]:=B;unfold gn at q
 split at q
 .rename_i lk
  let z:=(X _ _ lk).symm.trans j;cases z;cases F
  split at q
  .rename_i O C
   cases q
   rw[<- L];simp only[nsFind,findBy,<- uR,C];rfl
  .split at q<;>cases q
 .cases q
set_option tactic.hygienic true in
def F4{K}{h}{C f}{P}{O}(X:K.In h)(q:Ni K C f P O=eP) :
  ∃bm N nm S bs hdct sn sub ab col dd k0 k1 k2 k3 k5 mN,h.get? C=g (lO nm S C N bs bm hdct sn sub ab col dd k0 k1 k2 k3 k5 O)/\h.Ns N mN/\mN "__init__"=g (.ref f)/\OwnTail h P bm:=by
 unfold Ni at q
 split at q
 .rename_i t dd A E lk
  split at q
  .rename_i k0 k1 k2 k3 n k5 Q
   split at q
   .rename_i c r R
    simp only[gd,beq_iff_eq,ql]at q;let[[[W,d,j],F,L],k,b]:=q;subst W d k;let[nm,bs,H,T,S,B,sn,sub,ab,col,M]:=A;simp only at R j F L;subst R j;obtain⟨l⟩:=E;simp only at Q;subst Q;exact[r,T,nm,S,bs,B,sn,sub,ab,col,dd,k0,k1,k2,k3,k5,_,X _ _ lk,.of_isNs (mT X F),IP X (.of_isNs (mT X F)) L,tD X b]
   .simp at q
  .cases q
 .cases q
section
variable {prog:eY} {w:fF} {A:fL} {Ex:eJ->eO->Prop} {hp:fK} {gs:Array lH} {dr:Drawn} {tk:Nat} {os:OsState}
variable {nm q:eU} {C N fI:J} {bs bm bmB:List eJ} {hdct:Bool} {sn:List eU} {sub:List eJ} {ab:Bool} {col:Option Bool} {dd:Option J} {k0 k1 k2 k3 k5:Option eJ} {B newId initId:String} {mN:eU->Option eJ} {us:List eJ} {oI:gS}
def Tz{Q:Fin->eO->Prop}(F:qG B newId initId bmB)(T:OwnTail hp bmB bm)(j:hp.get? C=g (lO nm q C N bs bm hdct sn sub ab col dd k0 k1 k2 k3 k5 newId))(d:hp.Ns N mN)
  (c:mN "__init__"=g (.ref fI)) (K:hp.get? fI=g oI) (O:oI.cls=.type "function") (X:us.length<=sizeLine)
  (k:∀W e,Heap.MadeExcOf hp W e (.ref C) us->eV (fC prog w) A (call (.ref fI) (.ref e::us)) (λr M=>r=.none/\Q (.done (.ret (.ref e))) M) Ex [W,gs,dr,tk,os]) :
  eV (fC prog w) A (iQ.«type.__call__» [.ref C::us,[]]) Q Ex [hp,gs,dr,tk,os]:=by
 repeat (first|with_reducible refine kE j ?_|with_reducible refine wpAny_madeBy_exc j ?_|wp_step)
 refine codeAny_call_builtin_code (nP _ F.quiet) (wpAny_check_new_subT F T j (codeAny_exc_new_subT F T j ?_ X));show eV _ _ _ _ _ _;let P:∀b o,hp.get? b=g o->((hp.push { cls:=.type "tuple",data:=.seq us.toArray }).push { cls:=.ref C,data:=.fields #v[.ref hp.objs.size,.none,.none,.none,.bool eM,.none] }).get? b=g o:=
  λb o z=>dv _ (dv _ z)
 let L:=P _ _ j;let R:((hp.push { cls:=.type "tuple",data:=.seq us.toArray }).push { cls:=.ref C,data:=.fields #v[.ref hp.objs.size,.none,.none,.none,.bool eM,.none] }).get? (hp.objs.size+1)
   = g { cls:=.ref C,data:=.fields #v[.ref hp.objs.size,.none,.none,.none,.bool eM,.none] }:=by heap_get
 let S:(fD C::bm).contains (.ref C)=eP:=by simp
 unfold sR
 repeat (first|with_reducible refine kE R ?_|(with_reducible refine wpAny_isSubtype_exc L ?_;rw[S])|wp_step)
 show eV _ _ (mO (.ref C) _) _ _ _;refine wpAny_typeLookup_tail L (d.keeps P) (T.keeps P) F.mroIs F.init.lookup ?_;rw[c];refine fV (a_ ?_);unfold bindSpecial;refine a_ (mM (T:="function") [_,P _ _ K,O] ?_);rw[eR Y];refine b_ (a_ (gI (k _ (hp.objs.size+1) [P,sD (nh _),hp.objs.size,R,sD (b' _),?_]) (λr M E=>?_) λx x z=>z))
 .exact dv _ (vW I I)
 .let[rfl,H]:=E
  wp_walk
  exact H
def DQ{Q:eJ->eO->Prop}(S:qG B newId initId bmB)(T:OwnTail hp bmB bm)(j:hp.get? C=g (lO nm q C N bs bm hdct sn sub ab col dd k0 k1 k2 k3 k5 newId))(H:hp.Ns N mN)
  (O:mN "__init__"=g (.ref fI)) (L:hp.get? fI=g oI) (F:oI.cls=.type "function") (R:us.length<=sizeLine)
  (k:∀P e,Heap.MadeExcOf hp P e (.ref C) us->eV (fC prog w) (A.under (.builtin "type.__call__" [.ref C::us,[]])) (call (.ref fI) (.ref e::us)) (λr M=>r=.none/\Q (.ref e) M) Ex [P,gs,dr,tk,os]) :
  eV (fC prog w) A (call (.ref C) us) Q Ex [hp,gs,dr,tk,os]:=by
 let X:=tc_lookup;let E:=tc_bind (.ref C);let W:([hp,gs,dr,tk,os]:eO).TypeIs (.ref C) "type":=[_,j,I];refine iE (rR ?_);show eV _ _ (callAny (.ref C) _) _ _ _
 repeat (any_goals (first|assumption|with_reducible refine kE j ?_|wp_step))
 refine[I,codeAny_call_builtin_at (nP _ G) entry_typeCall (wpAny_check_type_call_sub j (Tz S T j H O L F R λP e m=>?_))];exact k P e m
end
section
variable {prog:eY} {w:fF} {A:fL} {E:eJ->eO->Prop} {K:a'} {x D:J} {ox:gS} {od:Option gS}
def BC{s:eO}{f:eU}{v:eJ}{ex:Bool}{Q:eJ->eO->Prop}(H:BP K D)(X:K.In s.heap)(B:ti s.heap x ox D od)(S:oX K D od f=g (.value v))(P:oA v=eP)
  (h:Q v { s with toks:=s.toks+1 }):eV (fC prog w) A (vJ (.ref x) f ex) Q E s:=by
 let[T,O,d,t,W]:=s;let j:=B.type (M:=fC prog w);let L:=s_ (M:=fC prog w) X H.ga;let C:=s_ (M:=fC prog w) X H.gt;let N:=tF (M:=fC prog w) X B S;unfold vJ;unfold getAttrBy;refine a_ (wpAny_mkText (fV (a_ (j.at (a_ (L.at ?_))))));show eV _ _ (mY _ _ _ _ _ _) _ _ _;unfold mY;unfold hookBefore;refine a_ (C.at ?_);refine a_ (jF (fV ?_));let R:∀b:Bool,(b&&onTheHeap (Value.builtin "BaseException.__getattribute__"))=eM:=λb=>by cases b<;>rfl
 unfold callGetattribute;rw[R,eQ f_];unfold sU;refine a_ (jK (F.excAttr_ValueError.ga.bind (.ref x)) ?_);refine iE (jL F.excAttr_ValueError.ga.plain F.entry_bexc_ga (Vd H X B ?_));unfold iQ.«object.__getattribute__»;refine a_ (jK (a:=(fD x,#[kB f t])) I ?_);refine a_ (jK (a:=f) I ?_);refine a_ (j.at (a_ (N.at (b_ ?_))));exact tX P h
def Xq:List eJ->Bool
 |.ref _::r=>Xq r
 |l=>l==#[.type "ValueError",.type "Exception",.type "BaseException",.type "object"]
theorem V7(j:eJ):∀{l},Xq l=eP->refuseLoop j "__setattr__" l=pure ()
 |.ref c::r,e=>by rw[refuseLoop_ref];exact V7 j (l:=r) e
 |.type n::r,e=>by rw[beq_iff_eq.mp (show(gO n::r==_)=eP from e)];exact F.store_ValueError.passes j
theorem FU:∀{l},Xq l=eP->l.contains (.type "object")=eP
 |.ref c::r,e=>by rw[uY,FU (l:=r) e,Bool.or_true]
 |.type n::r,e=>by rw[beq_iff_eq.mp (show(gO n::r==_)=eP from e)];decide
def X7(K:a')(D:J):Bool:=(rc K D).any λB=>Xq B.mro
structure XSet(K:a')(D:J)(f:eU):Prop where
 sa:ia K (.ref D) "__setattr__"=g (g (.builtin "object.__setattr__"))
 ov:X7 K D=eP
 tk:vq K D f=g U
 fi:ia K (.ref D) f=g U
 hd:u5 K D=eP
def XSet.of{K:a'}{D:J}{f:eU}(L:ia K (.ref D) "__setattr__"=g (g (.builtin "object.__setattr__")))(F:X7 K D=eP)(j:ia K (.ref D) f=g U)(S:u5 K D=eP):XSet K D f:=
 [L,F,(by unfold vq;rw[j];rfl),j,S]
def KL{s:eO}{f:eU}{v:eJ}{vs:Array eJ}{Q:Unit->eO->Prop}(C:XSet K D f)(X:K.In s.heap)(S:s.heap.get? x=g ox)(W:ox.cls=.ref D)(T:ox.dict=U)(P:ox.data=.fields vs)
  (h:∀O p,O.get? x=g { ox with dict:=g ⇑s }->O.Ns1 ⇑s (λy=>if y=f then g v else U)->(∀b o,b≠x->s.heap.get? b=g o->O.get? b=g o)->Q () { s with heap:=O,toks:=p }) :
  eV (fC prog w) A (setAttr (.ref x) f v) Q E s:=by
 let B:ti s.heap x ox D U:=[S,W,(by unfold wn;rw[P]),(by rw[T];trivial)];refine tT X B C.sa ?_;let[R,L,H]:=oC C.ov;let j:=F.store_object;let u:R.mro.isEmpty=eM:=by
  cases z:R.mro with
  |nil=>rw[z]at H;cases H
  |cons _ _=>rfl
 let a:q3 (fC prog w) s.heap (sR (.ref x) (.type "object")) eP:=B.type.andThen (PySem.W.looks_mroIn X (by unfold mK;rw[L,oK,eQ (by rw[u];decide),FU H]));refine jL j.slot.plain j.entry (@tI (fC prog w) _ _ { s with toks:=s.toks+1 } "object.__setattr__" "object" "__setattr__" (.ref x) #[.str f s.toks,v] [] _ j.kind j.split a (j.args _ _ _) ?_);let m:q3 (fC prog w) s.heap (mroOf (.ref D)) R.mro:=(mG X L).andThen .now;rw[PySem.W.osa_eq,refuse_eq];refine a_ (a_ (B.type.here (s:={ s with toks:=s.toks+1 }) (a_ (m.here (s:={ s with toks:=s.toks+1 }) ?_))));rw[V7 _ H];refine b_ (a_ (B.type.here (s:={ s with toks:=s.toks+1 }) (a_ ((s_ X C.fi).here (s:={ s with toks:=s.toks+1 }) (a_ (b_ ?_))))));let[ag,M,ab]:=oC C.hd;let[oc,ak,ah,af]:=ox
 dsimp only at W T P
 subst W T P;refine a_ (b_ (a_ (a_ (nQ S ?_))));refine a_ ((mG X M).here (s:={ s with toks:=s.toks+1 }) ?_);rw[ab,eQ Y];let c:(s.heap.push { cls:=.type "dict",data:=.dict #v[] }).get? x=g { cls:=.ref D,data:=.fields vs,slots:=af }:=dv _ S;let d:x≠⇑s:=fj (dn S);show eV _ _ (if (!true || !typeHasDict (fD D))=eP then pure U else _) _ _ _;rw[eQ (by simp[typeHasDict])];refine a_ (wpAny_alloc' (a_ (wpAny_update' c (b_ ?_))));let i:((s.heap.push { cls:=.type "dict",data:=.dict #v[] }).update x λo=>{ cls:=o.cls,dict:=g ⇑s,data:=o.data,slots:=o.slots }).get? ⇑s=g { cls:=.type "dict",data:=.dict #v[] }:=
  (wx _ _ _ _ d.symm).trans (vW I I)
 let q:((s.heap.push { cls:=.type "dict",data:=.dict #v[] }).update x λo=>{ cls:=o.cls,dict:=g ⇑s,data:=o.data,slots:=o.slots }).Ns ⇑s (λ_=>U):=
  [_,#v[],_,i,I,λe n=>fA n zZ,λ_=>I]
 show eV _ _ (lI ⇑s (.str f s.toks) f v) _ _ _;unfold lI wN;refine a_ (b_ (a_ (wpAny_nsSet1 (tP q) λO k N=>?_)));let[oD,aj,ai,ad,t,r]:=k.count (Within.cons f v Within.nil);refine a_ (wpAny_lookBehind ad (by rw[t];exact pastItsLine_dict (fO r (by show 1<=_;rw[ck];lia))) ?_)
 wp_walk
 refine h O _ ?_ k λb o nb l=>?_
 .exact(N.2 x d).trans (p_ _ c I)
 .exact(N.2 b (fj (dn l))).trans ((wx _ _ _ _ nb).trans (dv _ l))
end
def Nh(H:Hp)(e C:J):Prop:=H e=g (BS e (.ref C) U)\/∃d B,H e=g (BS e (.ref C) (g d))/\H d=g (.xd B)
section
variable {X:Cx} {pins:List (J×gS)} {σ:St} {H:Hp} {s:eO} {e:J}
def Ak.trackO{a:J}{o:HO}(M:Ak X pins σ H s)(j:cA X pins H a)(P:Cf X.prog X.w (upd H a o) s.heap a o):Ak X pins σ (upd H a o) s:=by
 let O:∀b u,H b=g u->b≠a:=λb u q=>Af q j.1;refine[M.ok,M.os,M.bare,[M.base.keep,M.base.slot,λb o q n F=>?_,M.base.there,λb Q q=>?_,λb o u q=>?_,λb T q=>?_],M.loc,M.cell,?_,λx c q=>?_,λp R=>?_,λb u q=>?_,M.len]
 .rw[Aj]
  .exact M.base.free b o q n F
  .rintro rfl
   rcases j.2.2.2.1 with z|z
   .exact F z
   .rw[q]at z;cases z
 .have z:=M.base.tups b Q q
  rw[Aj (O _ _ z)];exact z
 .have z:=M.base.frzs b o u q
  rw[Aj (O _ _ z)];exact z
 .let[m,z]:=M.base.tbls b T q
  exact[m,by rw[Aj (O _ _ z)];exact z]
 .rw[Aj (fQ j.2.1)];exact M.free
 .rw[Aj (j.2.2.2.2.1 x c q)];exact M.freeC x c q
 .let[B,C,L,N,S]:=M.pin p R
  exact[B,by rw[Aj (j.2.2.2.2.2 p R)];exact C,L,N,S]
 .by_cases z:b=a
  .subst z
   rw[Ab]at q;cases q;exact P
  .rw[Aj z]at q
   exact(M.hok b u q).stay (λd d d y=>y) (λc y=>by rw[Aj (O _ _ y)];exact y) λc Q y=>by rw[Aj (O _ _ y)];exact y
def Ak.exc{C:J}{d:Option J}(B:Ak X pins σ H s)(h:H e=g (BS e (.ref C) d)):∃j vs,s.heap.get? e=g j/\j.cls=.ref C/\j.dict=d/\j.data=.fields vs:=
 (show Cf X.prog X.w H s.heap e (BS e (.ref C) d) from B.hok e _ h).1
def Ak.xd{d:J}{L:List (eU×V)}(B:Ak X pins σ H s)(h:H d=g (.xd L)):∃C,s.heap.Ns1 d C/\∀f,cE (L.lookup f) (C f):=B.hok d _ h
def Ak.inst{C:J}(B:Ak X pins σ H s)(h:Nh H e C):∃j od,ti s.heap e j C od:=by
 rcases h with h|⟨d,Q,h,N⟩
 .let[j,P,O,L,S,F]:=B.exc h
  exact[j,U,O,L,(by unfold wn;rw[F]),(by rw[S];trivial)]
 .let[j,P,O,L,S,F]:=B.exc h
  let[R,n,_]:=B.xd N;let[od,M,_]:=Ny n;exact[j,g od,O,L,(by unfold wn;rw[F]),(by rw[S];exact M)]
end
set_option tactic.hygienic true in
def EZ{K}{e D}(B:BP K D):PySem.W.KitX K (.ref e) (.ref D) (λh=>∃F od,ti h e F D od) where
 ty:=λM h x p=>by
  let[F,od,H]:=p;exact H.type
 it:=λM h X x=>by
  let[S,j]:=vg.mp (show(rc K D).isSome=eP from B.ic);unfold rc at j
  split at j
  .rename_i lk
   intro L C N P k q;unfold isType;unfold loadHead;exact a_ (nQ (k _ _ (X _ _ lk)) (b_ q))
  .cases j
 ne:=(GA (e:=e) B).ne
 ca:=λ{O w A E Q s} X p k=>by
  let[F,od,H]:=p;exact Vg B X H k
inductive ZU(K:a')(xs:List V)(H:Hp)(Q:VK):Prop
 |mk (e C:J) (c:V) (cv:eJ) (b:Bool) (e':xs=#[.ref e,c]) (h:Nh H e C) (k:BP K C) (r:∀u,Az c u->u=cv) (k':hY K (.ref C) cv=g b) (q:Q (.bl b) H)
def Ft{X}{K}(F:X.K=K:=by rfl):Fm X (.builtin "isinstance") (ZU K):=by
 subst F;intro P s W H T A Q N r h;let[e,C,c,O,b,rfl,L,B,j,k,q]:=h;let[u,z,rfl,M,S]:=Ve r;cases M;cases j z S;exact o_ (EZ B) N.kIn (N.inst L) k (λz=>nomatch z) λR=>[.bl b,H,N.tok R,I,q]
section
variable {X:Cx} {x f:eU} {C b:J} {pos:nA} {e o:gK} {ta:TE}
inductive VM(K:a')(f:eU)(x:V)(H1:Hp)(Q:VK):Prop
 |mk (a C d:J) (fs:List (eU×V)) (v:V) (e:x=.ref a) (h:H1 a=g (BS a (.ref C) (g d))) (h':H1 d=g (.xd fs)) (k:BP K C) (s:XSet K C f) (l:fs.lookup f=g v) (q:Q v H1)
def MB(K:a')(ta:TE)(f:eU):TE:=λL H Q=>ta L H λx B=>VM K f x B Q
def KO(N:PE X e ta)(O:iC e f X.env (gC e X.env)=gC e X.env):PE X (.Attribute e f pos) (MB X.K ta f):=by
 intro P s y H Q B h;refine Q3 O (Ct (N P s y H _ B h) λu s1 m=>?_);let[x,E,F,S,a,C,d,fs,v,z,W,A,M,L,l,q]:=m;subst z;obtain rfl:u=fD a:=S;let[oe,vs,t,R,K,c]:=F.exc W;let[T,n,r]:=F.xd A;let[od,i,k]:=Ny n;let[w,p,j]:=cE.some_of (v:=v) (o:=T f) (by rw[<- l];exact r f);exact BC M F.kIn [t,R,(by unfold wn;rw[c]),(by rw[K];exact i)] (r0 L.hd L.fi I (by rw[k,p])) (Vb j) [v,E,F.tok _,j,q]
structure bL(K:a')(C b:J):Prop where
 ow:∃bm newId initId B,Ni K C b bm newId=eP/\qG B newId initId bm
 fn:pu K (.ref b)=eP
 kp:js K (.ref C)=eP
structure KH(P:eY)(w:fF)(K:a')(mg:eU->Option eJ)(base:fK)(k:Nat)(x:eU)(C:J)(ps:List eU)(sp:Sp):Prop where
 ex:∃f fd,bL K C f/\Bp P w K mg base Fv k f fd ps sp/\Hi K fd ps []/\mg x=g (.ref C)
end
def EA{l:List Nat}{i:Int}(C:0<=i)(B:i<=l.length):mZ (tx l) U (g i)=tx (l.take i.toNat):=by
 show tR (tx l) U (g i)=_;rw[StrLaws.sliceText_to [C,B]];show tx ((l.drop 0).take (i-0).toNat)=_;rw[List.drop_zero,Int.sub_zero]
def G0{l:List Nat}{i:Int}(C:0<=i)(B:i<=l.length):mZ (tx l) (g i) U=tx (l.drop i.toNat):=by
 show tR (tx l) (g i) U=_;rw[StrLaws.sliceText_from [C,B]];show tx ((l.drop i.toNat).take ((l.length:Int)-i).toNat)=_;rw[vw (by rw[rx];omega)]
inductive D where
 |at (v:V)
 |seq (t:Bool) (ds:List D)
mutual
def Ng(K:a')(H:Hp):D->V->Prop
 |.at v,x=>x=v/\Fk v=eP
 |.seq t C,x=>∃a B,x=.ref a/\(t=eP->Bh K H a B)/\(t=eM->Am K H a B)/\Reps K H C B
def Reps(K:a')(H:Hp):List D->List V->Prop
 |[],B=>B=[]
 |d::L,B=>∃y C,B=y::C/\Ng K H d y/\Reps K H L C
end
mutual
def IG:D->D->Bool
 |.at v,.at u=>O2 v u
 |.seq t C,.seq u B=>t==u&&eqDs C B
 |_,_=>eM
def eqDs:List D->List D->Bool
 |[],[]=>eP
 |d::C,e::B=>IG d e&&eqDs C B
 |_,_=>eM
end
mutual
def YE:D->Nat
 |.at _=>0
 |.seq _ B=>deps B+1
def deps:List D->Nat
 |[]=>0
 |d::B=>max (YE d) (deps B)
end
theorem Reps.len{K}{H}:∀{ds} {xs},Reps K H ds xs->ds.length=xs.length
 |[],xs,h=>by unfold Reps at h;subst h;rfl
 |d::ds,xs,h=>by
  unfold Reps at h;let[y,B,rfl,_,h]:=h;rw[c_,c_,Reps.len h]
def WQ(ds es:List D)(j:Nat):Bool:=match ds[j]?,es[j]? with
 |some d,g e=>IG d e
 |_,_=>eP
theorem Rf:∀{ds es},ds.length≠es.length->eqDs ds es=eM
 |[],[],h=>fA I h
 |[],_::_,_=>by unfold eqDs;rfl
 |_::_,[],_=>by unfold eqDs;rfl
 |d::ds,e::es,h=>by
  unfold eqDs;rw[Rf (ds:=ds) (es:=es) λq=>h (by rw[c_,c_,q]),mr]
theorem Sl:∀{ds es},ds.length=es.length->(kw ds.length).all (WQ ds es)=eqDs ds es
 |[],[],_=>by unfold eqDs;rfl
 |[],_::_,h=>by simp at h
 |_::_,[],h=>by simp at h
 |d::ds,e::es,h=>by
  let B:=Sl (ds:=ds) (es:=es) (by simpa using h);unfold eqDs;rw[c_,List.range_succ_eq_map,v_,List.all_map,<- B];rfl
def GD{v:V}(h:Fk v=eP):O2 v v=eP:=by
 cases v<;>first|exact fA (show eM=eP from h) f_|rfl|exact gV _
section
variable {X:Cx} {pins:List (J×gS)} {σ:St} {H:Hp} {s:eO}
def B9{a:J}{xs ys:List V}(B:Ak X pins σ H s)(C:Am X.K H a xs)(F:Bh X.K H a ys):False:=by
 let[j,_,p,_]:=B.list C;let[L,_,q,_]:=B.tuple F;exact SeqAt.ne_of_list_tuple p.isList q I
mutual
theorem B6(C:Ak X pins σ H s):∀(d e:D) (x:V),Ng X.K H d x->Ng X.K H e x->IG d e=eP
 |.at v,.at u,x,M,j=>by
  unfold Ng at M j;let[rfl,f]:=M;let[rfl,_]:=j;unfold IG;exact GD f
 |.at v,.seq t N,x,M,j=>by
  unfold Ng at M j;let[rfl,f]:=M;let[a,O,rfl,_]:=j;exact fA (show eM=eP from f) f_
 |.seq t N,.at u,x,M,j=>by
  unfold Ng at M j;let[rfl,f]:=j;let[a,O,rfl,_]:=M;exact fA (show eM=eP from f) f_
 |.seq t N,.seq u P,x,M,j=>by
  unfold Ng at M j;let[a,O,rfl,B,Q,S]:=M;let[b,T,e,L,R,F]:=j;cases e;unfold IG;cases t with
  |true=>
   cases u with
   |true=>
    let e:=C.tuple_inj (B I) (L I);subst e;rw[reps_same C N P O S F];rfl
   |false=>exact(B9 C (R I) (B I)).elim
  |false=>
   cases u with
   |true=>exact(B9 C (Q I) (L I)).elim
   |false=>
    let e:=C.list_inj (Q I) (R I);subst e;rw[reps_same C N P O S F];rfl
theorem reps_same(B:Ak X pins σ H s):∀(ds es:List D) (xs:List V),Reps X.K H ds xs->Reps X.K H es xs->eqDs ds es=eP
 |[],[],_,_,_=>by unfold eqDs;rfl
 |[],e::es,xs,C,j=>by
  unfold Reps at C j;subst C;let[_,_,e,_]:=j;cases e
 |d::ds,[],xs,C,j=>by
  unfold Reps at C j;subst j;let[_,_,e,_]:=C;cases e
 |d::ds,e::es,xs,C,j=>by
  unfold Reps at C j;let[y,M,rfl,C,F]:=C;let[z,N,e,j,L]:=j;cases e;unfold eqDs;rw[B6 B d _ y C j,reps_same B ds es M F L];rfl
end
def Z3{A:fL}{v:V}{u:eJ}{a:J}{its:Array eJ}(f:Fk v=eP)(r:Az v u)(p:s.heap.IsList a its)(j:A.units<iM):iG A s u (.ref a) eM:=by
 cases v with
 |non=>cases r;exact .none_list p j
 |bl b=>cases r;exact .bool_list b p j
 |int i=>let[t,rfl]:=r;exact .int_list i t p j
 |str i=>let[t,rfl]:=r;exact .str_list i t p j
 |_=>exact fA (show eM=eP from f) f_
def DZ{A:fL}{v:V}{u:eJ}{a:J}{its:Array eJ}(f:Fk v=eP)(r:Az v u)(p:s.heap.IsTuple a its)(j:A.units<iM):iG A s u (.ref a) eM:=by
 cases v with
 |non=>cases r;exact .none_tuple p j
 |bl b=>cases r;exact .bool_tuple b p j
 |int i=>let[t,rfl]:=r;exact .int_tuple i t p j
 |str i=>let[t,rfl]:=r;exact .str_tuple i t p j
 |_=>exact fA (show eM=eP from f) f_
def Z5{A:fL}{v:V}{u:eJ}{a:J}{its:Array eJ}(f:Fk v=eP)(r:Az v u)(p:s.heap.IsList a its)(j:A.units<iM):iG A s (.ref a) u eM:=by
 cases v with
 |non=>cases r;exact .list_none p j
 |bl b=>cases r;exact .list_bool b p j
 |int i=>let[t,rfl]:=r;exact .list_int i t p j
 |str i=>let[t,rfl]:=r;exact .list_str i t p j
 |_=>exact fA (show eM=eP from f) f_
def DB{A:fL}{v:V}{u:eJ}{a:J}{its:Array eJ}(f:Fk v=eP)(r:Az v u)(p:s.heap.IsTuple a its)(j:A.units<iM):iG A s (.ref a) u eM:=by
 cases v with
 |non=>cases r;exact .tuple_none p j
 |bl b=>cases r;exact .tuple_bool b p j
 |int i=>let[t,rfl]:=r;exact .tuple_int i t p j
 |str i=>let[t,rfl]:=r;exact .tuple_str i t p j
 |_=>exact fA (show eM=eP from f) f_
def V9{A:fL}{its L:List eJ}{e:Nat->Bool}(h:∀j u v,its[j]?=g u->L[j]?=g v->iG A s u v (e j)):∀j (B:j<its.toArray.size) (F:j<L.toArray.size),iG A s its.toArray[j] L.toArray[j] (e j):=λj B F=>by
 rw[dw]at B F;rw[uA,uA];exact h j _ _ (hD B) (hD F)
def C0{A:fL}{a b:J}{xs ys:List V}{ds es:List D}(M:Ak X pins σ H s)(C:A.units<iM)(T:Am X.K H a xs)(R:Am X.K H b ys)(E:Reps X.K H ds xs)(W:Reps X.K H es ys)
  (h:∀F L,Ap xs F->Ap ys L->∀j u v,F[j]?=g u->L[j]?=g v->iG A.in1 s u v (WQ ds es j)):uH A s (.ref a) (.ref b) (eqDs ds es)/\rT A s (.ref a) (.ref b) (!eqDs ds es):=by
 let[F,B,N,l]:=M.list T;let[L,P,O,K]:=M.list R;let f:=B.length;let k:=P.length;let c:=E.len;let d:=W.len;by_cases Q:ds.length=es.length
 .rw[<- Sl Q,show ds.length=F.toArray.size by rw[dw];lia]
  let S:F.toArray.size=L.toArray.size:=by rw[dw,dw];lia
  exact[SeqAt.RcAt.lists N.isList O.isList S C (V9 (h F L B P)),SeqAt.RcNeAt.lists N.isList O.isList S C (V9 (h F L B P))]
 .rw[Rf Q]
  let S:(F.toArray.size != L.toArray.size)=eP:=by simp only[dw,bne_iff_ne,ne_eq];lia
  exact[SeqAt.RcAt.lists_lengths N.isList O.isList S C,SeqAt.RcNeAt.lists_lengths N.isList O.isList S C]
def W2{A:fL}{a b:J}{xs ys:List V}{ds es:List D}(M:Ak X pins σ H s)(N:A.units<iM)(R:Bh X.K H a xs)(Q:Bh X.K H b ys)(W:Reps X.K H ds xs)(T:Reps X.K H es ys)
  (h:∀F L,Ap xs F->Ap ys L->∀j u v,F[j]?=g u->L[j]?=g v->iG A.in1 s u v (WQ ds es j)):uH A s (.ref a) (.ref b) (eqDs ds es)/\rT A s (.ref a) (.ref b) (!eqDs ds es):=by
 let[F,S,B,k]:=M.tuple R;let[L,C,O,E]:=M.tuple Q;let d:=S.length;let f:=C.length;let K:=W.len;let c:=T.len;let e:((kw (min F.toArray.size L.toArray.size)).all (WQ ds es)&&F.toArray.size==L.toArray.size)=eqDs ds es:=by
  rw[dw,dw];by_cases P:ds.length=es.length
  .rw[<- Sl P,show min F.length L.length=ds.length by lia,show F.length=L.length by lia]
   simp
  .rw[Rf P]
   let:(F.length==L.length)=eM:=by simp;lia
   rw[this,mr]
 rw[<- e];exact[SeqAt.RcAt.tuples B O N (V9 (h F L S C)),SeqAt.RcNeAt.tuples B O N (V9 (h F L S C))]
mutual
theorem QM(N:Ak X pins σ H s):∀(d e:D) (A:fL) (x y:V) (u v:eJ),A.units+YE d+YE e<iM->Ng X.K H d x->Ng X.K H e y->Az x u->Az y v->iG A s u v (IG d e)
 |.at a,.at b,A,x,y,u,v,T,P,j,L,S=>by
  unfold Ng at P j;let[rfl,f]:=P;let[rfl,C]:=j;unfold IG;exact HU L S f C
 |.at a,.seq t R,A,x,y,u,v,T,P,j,L,S=>by
  unfold Ng at P j;let[rfl,f]:=P;let[b,o,rfl,k,E,_]:=j;cases S;unfold IG;cases t with
  |true=>let[_,_,p,_]:=N.tuple (k I);exact DZ f L p Z
  |false=>let[_,_,p,_]:=N.list (E I);exact Z3 f L p.isList Z
 |.seq t W,.at b,A,x,y,u,v,T,P,j,L,S=>by
  unfold Ng at P j;let[rfl,f]:=j;let[a,l,rfl,Q,K,_]:=P;cases L;unfold IG;cases t with
  |true=>let[_,_,p,_]:=N.tuple (Q I);exact DB f S p Z
  |false=>let[_,_,p,_]:=N.list (K I);exact Z5 f S p.isList Z
 |.seq t W,.seq r R,A,x,y,u,v,T,P,j,L,S=>by
  let w:=P;let z:=j;unfold Ng at P j;let[a,l,rfl,Q,K,c]:=P;let[b,o,rfl,k,E,B]:=j;cases L;cases S;unfold YE at T;let O:A.in1.units+deps W+deps R<iM:=by rw[vA];lia
  let F:A.units<iM:=by lia
  by_cases M:a=b
  .subst M
   rw[B6 N _ _ _ w z];exact .same _
  .unfold IG
   cases t with
   |true=>
    cases r with
    |true=>exact .of_refs M (W2 N F (Q I) (k I) c B (reps_at N W R A.in1 l o O c B)).1
    |false=>
     let[_,_,p,_]:=N.tuple (Q I);let[_,_,q,_]:=N.list (E I);exact .tuple_list p q.isList F
   |false=>
    cases r with
    |true=>
     let[_,_,p,_]:=N.list (K I);let[_,_,q,_]:=N.tuple (k I);exact .list_tuple p.isList q F
    |false=>exact .of_refs M (C0 N F (K I) (E I) c B (reps_at N W R A.in1 l o O c B)).1
theorem reps_at(M:Ak X pins σ H s):∀(ds es:List D) (A:fL) (xs ys:List V),A.units+deps ds+deps es<iM->Reps X.K H ds xs->Reps X.K H es ys ->
  ∀F N,Ap xs F->Ap ys N->∀j u v,F[j]?=g u->N[j]?=g v->iG A s u v (WQ ds es j)
 |[],es,A,xs,ys,Q,O,C,F,N,B,P,j,u,v,L,S=>by
  unfold Reps at O;subst O;cases B;simp at L
 |d::ds,[],A,xs,ys,Q,O,C,F,N,B,P,j,u,v,L,S=>by
  unfold Reps at C;subst C;cases P;simp at S
 |d::ds,e::es,A,xs,ys,Q,O,C,F,N,B,P,j,u,v,L,S=>by
  unfold Reps at O C;let[y,K,rfl,W,k]:=O;let[z,E,rfl,b,f]:=C;unfold deps at Q;cases B with
  |cons c T=>
   cases P with
   |cons R l=>
    cases j with
    |zero=>
     simp only[List.getElem?_cons_zero,Option.some.injEq]at L S;subst L S;exact QM M d e A y z _ _ Z W b c R
    |succ j=>
     simp only[rY]at L S;exact reps_at M ds es A K E Z k f _ _ T l j u v L S
end
end
section
variable {X:Cx}
inductive JG(K:a')(neg:Bool)(x y:V)(H:Hp)(Q:VK):Prop
 |mk (t:Bool) (ds es:List D) (h:Ng K H (.seq t ds) x) (h':Ng K H (.seq t es) y) (d:deps ds+deps es<=40) (q:Q (.bl (if neg then !eqDs ds es else eqDs ds es)) H)
def VQ{X:Cx}(neg:Bool)(f:X.A.units+64<iM):Ko X (gN (if neg then .NotEq else .Eq)) (JG X.K neg):=by
 intro T s k H x y v u Q B E K h;let[t,P,O,W,M,l,q]:=h;unfold Ng at W M;let[a,R,rfl,C,c,S]:=W;let[b,A,rfl,N,d,L]:=M;cases E;cases K;let F:X.A.in1.units+deps P+deps O<iM:=by rw[vA];lia
 let j:X.A.units<iM:=by lia
 let z:uH X.A s (.ref a) (.ref b) (eqDs P O)/\rT X.A s (.ref a) (.ref b) (!eqDs P O):=by
  cases t with
  |true=>exact W2 B j (C I) (N I) S L (reps_at B P O X.A.in1 R A F S L)
  |false=>exact C0 B j (c I) (d I) S L (reps_at B P O X.A.in1 R A F S L)
 cases neg with
 |true=>exact z.2 X.prog X.w _ _ [.bl (!eqDs P O),H,B,I,q]
 |false=>exact z.1 X.prog X.w _ _ [.bl (eqDs P O),H,B,I,q]
def Xn{K}(F:X.A.units+64<iM)(j:X.K=K:=by rfl):Ko X (gN .Eq) (JG K eM):=j▸VQ eM F
def K4{K}(F:X.A.units+64<iM)(j:X.K=K:=by rfl):Ko X (gN .NotEq) (JG K eP):=j▸VQ eP F
def Wp{k:Nat}{A:fL}(B:Bv k A):A.units+64<iM:=B.units
def KN{K}(h:X.K=K):SE X (OE K):=h▸NX
end
structure NG(K:a')(B:J)(m:eU)(f:J):Prop where
 ga:vl K (.ref B) "__getattribute__"=g (g (.builtin "type.__getattribute__"))
 rd:oW K B (.type "type")=eP
 fc:oY K (.ref B) (.type "type") m=g (.val (.ref f))
 kp:js K (.ref f)=eP
section
variable {X:Cx} {k:Nat} {m x:eU} {ps:List eU} {sp:Sp} {e:gK} {es:List gK} {p apos pos:nA} {t:TA} {W:St->XK}
def F5{A:fL}{E:eJ->eO->Prop}{pins:List (J×gS)}{s:eO}{B M:J}{pl:rV Bool}{Q:eJ×List eJ->eO->Prop}(L:Ak X pins b H s)(C:NG X.K B m M)(h:Q (.ref M,[]) { s with toks:=s.toks+1 }) :
  eV (fC X.prog X.w) A (jH (.ref B) m pl) Q E s:=PySem.W.method_cls L.kIn C.ga (PySem.W.cls_value L.kIn C.rd C.fc I h)
structure OT(P:eY)(w:fF)(K:a')(mg:eU->Option eJ)(base:fK)(k:Nat)(x m:eU)(ps:List eU)(sp:Sp):Prop where
 ex:∃B f fd,Bp P w K mg base Fv k f fd ps sp/\Hi K fd ps []/\NG K B m f/\mg x=g (.ref B)
def HF{pl:rV Bool}(C:OT X.prog X.w X.K X.mg X.base k x m ps sp)(d:Bv k X.A)(N:Gl X x)(S:PA X (e::es) t)(j:(x==("__debug__" : eU))=eM:=by lk)
  (A:eX (e::es) X.env=(eM,gC e X.env)::eX es X.env:=by rfl) (T:(gH pos (eX es X.env)).any (·.1)=eM:=by rfl)
  (o:gC (.Call (.Attribute (.Name x p) m apos) (e::es) [] pos) X.env=(do
   let E <- gC (.Name x p) X.env
   kF apos.atName
   let (f,first) <- iY #[E] (jH E m pl)
   kN pos f first (gH pos (eX (e::es) X.env)) (jM pos (hX [] X.env))):=by rfl) :
  PE X (.Call (.Attribute (.Name x p) m apos) (e::es) [] pos) (B1 sp [] E0 t):=by
 intro R s l H Q O h;let[B,f,v,F,b,M,K]:=C.ex;refine tj (pl:=pl) (Ev O N K ?_ j) o;refine F5 O M ?_;let P:=O.tok (s.toks+1);refine pi (first:=[]) (h₀:=X.base) O.ok.mod.kin M.kp (Ct (S pos R _ l H _ P h) λus u ⟨vs,q,L,r,c⟩=>[L.kIn,?_]) A T;exact Te (us:=us) (vs:=vs) F d b .nil Mv L r c
inductive NV(Fam:J->Prop)(m:eU)(x:V)(H:Hp)(R:J->J->Prop):Prop
 |mk (a C dx:J) (fs:List (eU×V)) (e:x=.ref a) (h:H a=g (.ins C dx fs)) (f:Fam C) (n:fs.lookup m=U) (q:R a C)
def QJ(Fam:J->Prop)(m:eU)(sp:J->Sp)(N:TE)(t:TA):TE:=λB H Q=>N B H λx L=>NV Fam m x L λa C=>t B L λO M=>sp C (.ref a::O) M Q E0
structure OX(P:eY)(w:fF)(K:a')(mg:eU->Option eJ)(base:fK)(k:Nat)(Fam:J->Prop)(m:eU)(ps:List eU)(sp:J->Sp):Prop where
 ex:∀C,Fam C->F6 P w K mg base k C m ps (sp C)
def Kj{Fam:J->Prop}{j:J->Sp}{o:gK}{pl:rV Bool}(M:OX X.prog X.w X.K X.mg X.base k Fam m ps j)(v:Bv k X.A)(he:PE X o c)(z:PA X (e::es) t)
  (L:eX (e::es) X.env=(eM,gC e X.env)::eX es X.env:=by rfl) (T:(gH pos (eX es X.env)).any (·.1)=eM:=by rfl)
  (ht:gC (.Call (.Attribute o m apos) (e::es) [] pos) X.env=(do
   let A <- gC o X.env
   kF apos.atName
   let (f,first) <- iY #[A] (jH A m pl)
   kN pos f first (gH pos (eX (e::es) X.env)) (jM pos (hX [] X.env))):=by rfl) :
  PE X (.Call (.Attribute o m apos) (e::es) [] pos) (QJ Fam m j c t):=by
 intro R s E H Q B h;refine tj (pl:=pl) (Ct (he R s E H _ B h) λu n h9=>?_) ht;let[x,y,O,w,a,C,dx,fs,i,d,P,l,q]:=h9;subst i;obtain rfl:u=fD a:=w;let[f,fd,F,b,N]:=(M.ex C P).ex;refine Gc O d (M.ex C P).cl N l ?_;refine pi (first:=#[.ref a]) (h₀:=X.base) B.ok.mod.kin N.kp (Ct (z pos R n E y _ O q) λus s2 ⟨vs,H2,S,r,K⟩=>[S.kIn,?_]) L T;exact Te (us:=.ref a::us) (vs:=.ref a::vs) F v b .nil Mv S (.cons I r) (by rw[lq];exact K)
end
def UE(K:a')(mg:eU->Option eJ)(x:eU)(xs:List V):Prop:=∃a,mg x=g (.ref a)/\∀H,Bh K H a xs
def JM{X:Cx}{x:eU}{xs:List V}(h:UE X.K X.mg x xs)(j:Gl X x)(F:(x==("__debug__" : eU))=eM:=by lk):PE X (.Name x b) (λy H Q=>∀a,Bh X.K H a xs->Q (.ref a) H):=by
 let[a,e,C]:=h;exactλy y y H y B q=>Ev B j e [.ref a,H,B,I,q a (C H)] F
structure YR(K:a')(mg:eU->Option eJ)(x:eU)(C:J):Prop where
 makes:vo K C=eP
 init:ia K (.ref C) "__init__"=g (g (.builtin "object.__init__"))
 kp:js K (.ref C)=eP
 at_:mg x=g (.ref C)
def aD(C:J):TE:=λx H Q=>∀y B,H y=U->H B=U->B≠y->Q (.ref y) (upd (upd H B (.own y)) y (.ins C B []))
def LC{X:Cx}{x:eU}{C:J}{p T:nA}(M:YR X.K X.mg x C)(B:Gl X x)(L:(x==("__debug__" : eU))=eM:=by lk):PE X (.Call (.Name x p) [] [] T) (aD C):=by
 intro W s c H Q P h;refine gB (Ev P B M.at_ ?_ L);refine mH P.kIn M.kp (iE (Y5 P.kIn M.makes M.init (λj=>q3.of_pure (PySem.W.oi_bind j)) ?_));let K:=h (⇑s+1) ⇑s (P.hok.fresh (nh _)) (P.hok.fresh (b' _)) (fj (vn _));let S:=Ak.made (C:=C) P;let R:=nZ (M:=fC X.prog X.w) P.kIn M.makes;let E:((s.heap.push nL).push (om C ⇑s)).get? (⇑s+1)=g (om C ⇑s):=by
  let e:(s.heap.push nL).objs.size=⇑s+1:=by rw[rz]
  rw[<- e];exact h_ _ I
 let A:q3 (fC X.prog X.w) ((s.heap.push nL).push (om C ⇑s)) (sM (.ref (⇑s+1))) (.ref C):=(q3.ld E).andThen .now;let N:q3 (fC X.prog X.w) ((s.heap.push nL).push (om C ⇑s)) (sR (.ref (⇑s+1)) (.type "object")) eP:=A.andThen (R.top.keeps λb o e=>dv _ (dv _ e));let[F,O,d,t,f]:=s;refine jL PySem.W.oi_plain PySem.W.entry_oi (@tI (fC X.prog X.w) _ _ _ "object.__init__" "object" "__init__" (.ref (F.objs.size+1)) [] [] _ PySem.W.oi_kind PySem.W.oi_split N (PySem.W.oi_args (.ref (F.objs.size+1))) ?_);rw[PySem.W.oi_run];exact b_ (And.intro I [V.ref (F.objs.size+1),_,S,I,K])
def WG(K:a')(a:J)(n:Nat):It:=
 [λi H=>i<n/\∃B,Am K H a B/\B.length=n,λi H x C=>C=H/\∀B,Am K H a B->B.length=n->B[n-1-i]?=g x,λi y=>n<=i]
def DV{P}{w}{K}{tg}(a it:J)(n:Nat):Tq P w K tg (WG K a n) #[it] it (λi h=>i<=n/\h.IsRevIter it a ((n:Int)-1-(i:Int))) where
 mem:=by simp
 obj:=λi h O b L=>by
  let M:b=it:=by simpa using L
  subst M;let[_,o,e,c,d]:=O;exact[o,e,λv z=>by rw[d]at z;cases z]
 keep:=λi h R O k=>[O.1,O.2.at λo e=>k it zZ o e]
 item:=by
  intro X C l A m i Q s y H E B S O T;subst C l A;let[hi,q,r,hn]:=T;let[aa,rv,p,hz]:=B.list r;let t:q[n-1-i]?=g (q[n-1-i]'(Z)):=hD Z;let[u,hu,ru]:=rv.get t;let[f0,f1,f2,N,W,f]:=S it zZ;let j:=O.2;rw[show(n:Int)-1-(i:Int)=((n-1-i:Nat):Int) by lia]at j;refine wpAny_pyNext_rev_item j p.isList (x:=u) (by simpa using hu) λR F sb=>?_;rw[show((n-1-i:Nat):Int)-1=(n:Int)-1-((i+1:Nat):Int) by lia]at F;let I1:Ak X Q y H { s with heap:=R }:=B.turned (t':=s.toks) (λb o L e=>(sb.2 b L).trans e) f0 f1 N W f;let[o,e,c,d]:=id F;refine[u,I,Yv (s:={ s with heap:=R }) e c d Y [_,H,I1,ru,[rfl,λys hy hl=>?_],[Z,F],λb L=>(S b L).1]];rw[B.list_inj hy r];exact t
 done:=by
  intro X C l A m i Q s y H E B S O T;subst C l A;let[f0,f1,f2,N,W,f]:=S it zZ;let ab:n<=i:=T;let j:=O.2;rw[show(n:Int)-1-(i:Int) = -1 by let:=O.1;lia]at j;exact wpAny_pyNext_rev_end (B.ok.hd m) j λR M=>[I,B.turned (t':=s.toks) (λb o L e=>M b o L e) f0 f1 N W f]
 self:=λ_ _ _ _ _ O h=>wpAny_pyIter_revIter O.2 h
def WN(K:a')(M:TA):TI:=λL H R=>M L H λN C=>∃a B,N=#[.ref a]/\Am K C a B/\R (WG K a B.length) C
def LQ{X}{v a}{T}{p O}(C:Gl X "reversed")(t:X.mg "reversed"=U)(M:PA X #[a] T)(W:eX #[a] X.env=#[(eM,gC a X.env)]:=by rfl) :
  PI X v (.Call (.Name "reversed" p) #[a] [] O) (WN X.K T):=by
 intro P s w H R B h;refine Call_ (Fy B C t (show fz "reversed"=g (.type "reversed") from rfl) (gG (Ct (M O P s w H _ B h) λi F y=>?_) W I));let[n,c,L,z,r]:=y;let[a,Q,K,f,q]:=r;subst K;let[u,rfl,E]:=Ku z;cases E;let[j,l,N,m]:=L.list f;let d:j.toArray.size=Q.length:=by let:=l.length;simp;lia
 refine call_reversed_list N.isList ?_;let S:({ F with heap:=F.heap.push (revObj a ((j.toArray.size:Int)-1)) }:eO).heap.IsRevIter ⇑F a ((Q.length:Int)-1-((0:Nat):Int)):=by
  rw[show(Q.length:Int)-1-((0:Nat):Int)=(j.toArray.size:Int)-1 by rw[d];lia];exact[_,h_ _ I,I,I]
 refine wpAny_pyIter_revIter S ?_;refine[⇑F,#[⇑F],_,_,c,I,L.kept (t':=F.toks) λb o e=>dv _ e,DV a _ Q.length,[de _,S],λb k=>?_,q];let A:b=⇑F:=by simpa using k
 subst A;exact L.fpOk (b' _) (L.hok.fresh (b' _))
def LB{K:a'}{a:J}{xs:List V}{M:TG}{Q:TS}{D:Jy}{P:St}{H:Hp}(j:Nat->St->Hp->Prop)(T:j 0 P H)(E:∀i P H,i<=xs.length->j i P H->Am K H a xs)
  (R:∀i x P H,xs.reverse[i]?=g x->j i P H->M x P H λC L=>Q { D with nx:=j (i+1),ct:=j (i+1),bk:=D.nx } C L) (X:∀P H,j xs.length P H->D.nx P H) :
  ∃W:Nat->Nat->St->Hp->Prop,(∃m,W 0 m P H)/\∀i m P H,W i m P H ->
   ((WG K a xs.length).stop i H/\D.nx P H)\/((WG K a xs.length).go i H/\∃N:St->Hp->Prop,(∀S H',N S H'->∃O,O<m/\W (i+1) O S H')/\∀x H',(WG K a xs.length).yld i H x H'->M x P H' λC L=>Q { D with nx:=N,ct:=N,bk:=D.nx } C L):=by
 refine[λi m P H=>m=xs.length-i/\i<=xs.length/\j i P H,[xs.length,zZ,de _,T],?_];rintro i m P H ⟨rfl,A,p⟩;let q:=E i P H A p;by_cases F:i<xs.length
 .refine .inr [[F,xs,q,I],j (i+1),λS H' B=>[xs.length-(i+1),Z,I,F,B],λx H' y=>?_]
  let[e,y]:=y;subst e;refine R i x P _ ?_ p;rw[List.getElem?_reverse F];exact y xs q I
 .obtain rfl:i=xs.length:=by lia
  exact .inl [b' _,X P H p]
end L2
namespace CRS
open PySem PySem.W PyProof.Rows
def run{B:Type}(lt:Nat->Nat->Bool)(V:Nat->Prop):KasT B->(B->Prop)->Prop
 |.ret a,Q=>Q a
 |.ask i j k,Q=>V i/\V j/\run lt V (k (lt i j)) Q
section
variable {lt:Nat->Nat->Bool} {V:Nat->Prop}
theorem Ij{C B:Type}{f:C->KasT B}{Q:B->Prop}:∀t:KasT C,run lt V t (λa=>run lt V (f a) Q)->run lt V (t.bind f) Q
 |.ret a,h=>h
 |.ask i j k,[H,L,F]=>[H,L,Ij (k (lt i j)) F]
theorem run_wp{N:Type}{F:Nat->Nat->(Bool->eO->Prop)->eO->Prop}{s:eO}(L:∀i j (C:Bool->eO->Prop),V i->V j->C (lt i j) s->F i j C s){Q:N->Prop}{H:N->eO->Prop}(S:∀a,Q a->H a s) :
  ∀t:KasT N,run lt V t Q->t.kasWp F H s
 |.ret a,h=>S a h
 |.ask i j k,[O,M,B]=>L i j _ O M (run_wp L S (k (lt i j)) B)
def Fu{H:Type}{c:Prop}{B}{t u}{Q:H->Prop}(C:c->run lt V t Q)(j:¬c->run lt V u Q):run lt V (@ite _ c B t u) Q:=by
 by_cases h:c
 .rw[eR h];exact C h
 .rw[eQ h];exact j h
end
section
variable {O:KeyOrd} {key:Nat->O.α} {N:Nat}
abbrev ltK(key:Nat->O.α):Nat->Nat->Bool:=λi j=>O.blt (key i) (key j)
def kk(key:Nat->O.α)(p:Array Nat)(i:Nat):O.α:=key (p.getD i 0)
def Pm(N:Nat)(p:Array Nat):Prop:=p.Perm (kw N).toArray
def Up(key:Nat->O.α)(p:Array Nat)(m:Nat):Prop:=∀i j,i<=j->j<m->O.kle (kk key p i) (kk key p j)
def Dn(key:Nat->O.α)(p:Array Nat)(m:Nat):Prop:=∀i j,i<=j->j<m->O.kle (kk key p j) (kk key p i)
def Pm.size{p:Array Nat}(h:Pm N p):p.size=N:=by rw[h.size_eq];simp
set_option tactic.hygienic true in
def Pm.lt{p:Array Nat}(h:Pm N p)(F:0<N)(i:Nat):p.getD i 0<N:=by
 unfold pc
 split
 .rename_i B
  let m:p[i]∈p.toList:=by simp
  let j:=(vx.mp h).mem_iff.mp m
  simpa using j
 .exact F
def Pm.rev{p:Array Nat}(h:Pm N p)(i j:Nat):Pm N (qA p i j):=(mirror_perm p i j _).trans h
def Pm.bub{p:Array Nat}(h:Pm N p)(i j:Nat):Pm N (bubble p i j):=(bubble_perm p i j).trans h
def Nb{p q:Array Nat}{i j:Nat}(h:p[i]?=q[j]?):p.getD i 0=q.getD j 0:=by
 let e:∀(r:Array Nat) (k:Nat),r.getD k 0=(r[k]?).getD 0:=λr k=>by
  by_cases F:k<r.size<;>simp[pc,F]
 rw[e,e,h]
def L7{p:Array Nat}{i j:Nat}(F:j<=p.size)(k:Nat):kk key (qA p i j) k=if i<=k/\k<j then kk key p (i+j-1-k) else kk key p k:=by
 let e:=getElem?_mirror_all (xs:=p) (i:=i) F k;unfold kk qA;by_cases c:i<=k/\k<j
 .rw[eR c]at e⊢;rw[Nb e]
 .rw[eQ c]at e⊢;rw[Nb e]
def RQ{p:Array Nat}{b d:Nat}(B:b<p.size)(F:d<=b)(k:Nat):kk key (bubble p b d) k=if k=b-d then kk key p b else if b-d<k/\k<=b then kk key p (k-1) else kk key p k:=by
 let e:=getElem?_bubble B d F k;unfold kk;by_cases c:k=b-d
 .rw[eR c]at e⊢;rw[Nb e]
 .rw[eQ c]at e⊢
  by_cases j:b-d<k/\k<=b
  .rw[eR j]at e⊢;rw[Nb e]
  .rw[eQ j]at e⊢;rw[Nb e]
def Yk{p:Array Nat}{i j:Nat}(F:j<=p.size)(h:∀k,i<=k->k<j->kk key p k=kk key p (j-1))(k:Nat):kk key (qA p i j) k=kk key p k:=by
 rw[L7 F];by_cases c:i<=k/\k<j
 .rw[eR c,h _ Z Z,h k c.1 c.2]
 .rw[eQ c]
def Up.more{p:Array Nat}{n:Nat}(h:Up key p n)(e:O.kle (kk key p (n-1)) (kk key p n)):Up key p (n+1):=λi j F L=>by
 rcases lV j n with z|z
 .exact h i j F z
 .obtain rfl:j=n:=by lia
  rcases oF F with y|y
  .rw[y];exact gZ _
  .exact lD (h i (j-1) Z Z) e
def Dn.more{p:Array Nat}{n:Nat}(h:Dn key p n)(e:O.kle (kk key p n) (kk key p (n-1))):Dn key p (n+1):=λi j F L=>by
 rcases lV j n with z|z
 .exact h i j F z
 .obtain rfl:j=n:=by lia
  rcases oF F with y|y
  .rw[y];exact gZ _
  .exact lD e (h i (j-1) Z Z)
def Dn.of{p q:Array Nat}{n:Nat}(h:Dn key p n)(e:∀k,kk key q k=kk key p k):Dn key q n:=λi j a b=>by rw[e,e];exact h i j a b
theorem Xm{p:Array Nat}(B:Pm N p)(j:0<N){Q:Nat->Prop}:∀(f n:Nat),Up key p n->(∀m,n<=m->m<=n+f->Up key p m->(m=n+f\/O.klt (kk key p m) (kk key p (m-1)))->Q m)->run (ltK key) (λi=>i<N) (kas_asc p f n) Q
 |0,n,h,q=>q n (b' _) (b' _) h (.inl I)
 |f+1,n,h,q=>by
  refine[B.lt j _,B.lt j _,?_];refine Fu (λc=>?_) (λc=>?_)
  .exact q n (b' _) Z h (.inr c)
  .exact Xm B j f (n+1) (h.more (iU c)) λm a b u v=>q m Z Z u (v.imp (λz=>Z) id)
def Tl(key:Nat->O.α)(p:Array Nat)(n q:Nat):Prop:=q+1<=n/\∀i,n-(q+1)<=i->i<n->kk key p i=kk key p (n-1)
def Tl.one{p:Array Nat}{n:Nat}:Tl key p (n+1) 0:=[Z,λi a b=>by rw[show i=n+1-1 by lia]]
theorem Nn(L:0<N){Q:Array Nat×Nat×Nat->Prop}:∀(f:Nat) (p:Array Nat) (n q:Nat),Pm N p->n+f<=N->Dn key p n->Tl key p n q->(∀j m F,Pm N j->n<=m->m<=n+f->Dn key j m->Tl key j m F->Q (j,m,F))->run (ltK key) (λi=>i<N) (kas_desc f p n q) Q
 |0,p,n,q,M,_,d,t,k=>k p n q M (b' _) (b' _) d t
 |f+1,p,n,q,M,B,d,t,k=>by
  let P:=M.size;refine[M.lt L _,M.lt L _,?_];refine Fu (λc=>?_) (λc=>?_)
  .have C:=d.more (kT c)
   refine Fu (λx=>?_) (λx=>?_)
   .have S:∀k,kk key (qA p (n-(q+1)) n) k=kk key p k:=Yk Z t.2
    exact Nn L f _ (n+1) 0 (M.rev _ _) Z (C.of S) .one λj m F a b e=>k j m F a Z Z
   .exact Nn L f _ (n+1) 0 M Z C .one λj m F a b e=>k j m F a Z Z
  .refine[M.lt L _,M.lt L _,?_]
   refine Fu (λH=>?_) (λH=>?_)
   .exact k p n q M (b' _) Z d t
   .have e:kk key p n=kk key p (n-1):=tN (iU H) (iU c)
    refine Nn L f p (n+1) (q+1) M Z (d.more (by rw[e];exact gZ _)) [by let:=t.1;lia,λi a b=>?_] λj m F a b e=>k j m F a Z Z;rw[show n+1-1=n by lia];rcases lV i n with z|z
    .rw[e];exact t.2 i Z z
    .rw[show i=n by lia]
def E7{p:Array Nat}{n m:Nat}(L:0<N)(C:Pm N p)(S:m<=N)(B:n<=m)(d:Dn key p n){Q:Nat×Array Nat->Prop}(q:∀r F,Pm N F->n<=r->r<=m->Up key F r->Q (r,F)):run (ltK key) (λi=>i<N) (kas_tail3 n m p) Q:=by
 let H:=C.size;refine Ij _ (Xm (C.rev 0 n) L (m-n) n (λi j a b=>?_) λr a b u x=>q r _ (C.rev 0 n) a Z u);rw[L7 Z,L7 Z,eR [Z,Z],eR [Z,Z]];exact d _ _ Z Z
def Zf{p:Array Nat}{n m:Nat}(S:0<N)(M:Pm N p)(C:m<=N)(B:n+1<=m)(d:Dn key p (n+1)){Q:Nat×Array Nat->Prop}(q:∀r F,Pm N F->n<=r->r<=m->Up key F r->Q (r,F)):run (ltK key) (λi=>i<N) (kas_descPart n m p) Q:=by
 refine Ij _ (Nn S (m-(n+1)) p (n+1) 0 M Z d .one λF r c j a b H t=>?_);let P:=j.size;refine Fu (λe=>?_) (λe=>?_)
 .have L:∀k,kk key (qA F (r-(c+1)) r) k=kk key F k:=Yk Z t.2
  exact E7 S (j.rev _ _) C Z (H.of L) λx y z u v=>q x y z Z v
 .exact E7 S j C Z H λx y z u v=>q x y z Z v
def BK{p:Array Nat}{m:Nat}(C:0<N)(P:Pm N p)(B:m<=N)(W:1<=m){Q:Nat×Array Nat->Prop}(q:∀r M,Pm N M->1<=r->r<=m->Up key M r->Q (r,M)):run (ltK key) (λi=>i<N) (kas_count m p) Q:=by
 let T:=P.size;refine Ij _ (Xm P C (m-1) 1 (λi j a b=>?_) λn a b u v=>?_)
 .rw[show i=j by lia];exact gZ _
 refine Fu (λc=>?_) (λc=>?_)
 .exact q n p P a Z u
 let X:n≠m:=λe=>c (by rw[e];exact gV _);let L:O.klt (kk key p n) (kk key p (n-1)):=v.resolve_left Z;refine Fu (λH=>?_) (λH=>?_)
 .refine[P.lt C _,P.lt C _,?_]
  refine Fu (λr=>?_) (λr=>?_)
  .exact q n p P a Z u
  let F:∀k,0<=k->k<n->kk key p k=kk key p (n-1):=λk d R=>
   tN (u k (n-1) Z Z) (lD (iU r) (u 0 k Z R))
  let S:∀k,kk key (qA p 0 n) k=kk key p k:=Yk Z F;refine Zf C (P.rev 0 n) B Z (Dn.of (p:=p) (Dn.more (λi j x y=>?_) (kT L)) S) λx y z w=>q x y z Z;rw[F i Z Z,F j Z y];exact gZ _
 .refine Zf C P B Z (Dn.more (λi j x y=>?_) (kT L)) λx y z w=>q x y z Z
  rw[show i=j by lia];exact gZ _
theorem Ov{p:Array Nat}{k:Nat}(j:0<N)(C:Pm N p)(u:Up key p k){Q:Nat->Prop}(q:∀l,l<=k->(∀i,i<l->O.kle (kk key p i) (kk key p k))->(∀i,l<=i->i<k->O.klt (kk key p k) (kk key p i))->Q l) :
  ∀(f l r:Nat),l<=r->r<=k->r-l<=f->(∀i,i<l->O.kle (kk key p i) (kk key p k))->(∀i,r<=i->i<k->O.klt (kk key p k) (kk key p i))->run (ltK key) (λi=>i<N) (kas_place p k f l r) Q
 |0,l,r,a,b,c,x,y=>by
  obtain rfl:l=r:=by lia
  exact q l b x y
 |f+1,l,r,a,b,c,x,y=>by
  refine Fu (λB=>?_) (λB=>?_)
  .obtain rfl:l=r:=by lia
   exact q l b x y
  refine[C.lt j _,C.lt j _,?_];refine Fu (λz=>?_) (λz=>?_)
  .exact Ov j C u q f l ((l+r)/2) Z Z Z x λi v w=>KeyOrd.klt_of_klt_of_kle z (u _ i v w)
  .exact Ov j C u q f ((l+r)/2+1) r Z b Z (λi v=>lD (u i ((l+r)/2) Z Z) (iU z)) y
theorem U4(L:0<N){Q:Array Nat->Prop}:∀(f:Nat) (p:Array Nat) (k:Nat),Pm N p->k+f<=N->Up key p k->(∀F,Pm N F->Up key F (k+f)->Q F)->run (ltK key) (λi=>i<N) (kas_bin f p k) Q
 |0,p,k,C,_,u,q=>q p C u
 |f+1,p,k,C,B,u,q=>by
  let P:=C.size;refine Ij _ (Ov L C u (λl a M H=>?_) k 0 k Z Z Z (λi z=>Z) λi z w=>Z);refine U4 L f _ (k+1) (C.bub _ _) Z (λi j x y=>?_) λF a b=>q F a (by rw[show k+(f+1)=k+1+f by lia];exact b);let S:∀i,kk key (bubble p k (k-l)) i=if i=l then kk key p k else if l<i/\i<=k then kk key p (i-1) else kk key p i:=λi=>by
   rw[RQ Z Z,show k-(k-l)=l by lia]
  rw[S,S];rcases wb i l with c|c|c
  .rw[eQ Z,eQ Z]
   rcases wb j l with e|e|e
   .rw[eQ Z,eQ Z];exact u i j x Z
   .rw[eR e];exact M i c
   .rw[eQ Z,eR Z];exact u i (j-1) Z Z
  .rw[eR c]
   rcases oF x with e|e
   .rw[eR Z];exact gZ _
   .rw[eQ Z,eR Z];exact kT (H (j-1) Z Z)
  .rw[eQ Z,eR Z,eQ Z,eR Z]
   exact u (i-1) (j-1) Z Z
def run_sort(j:0<N){Q:Array Nat->Prop}(q:∀p,Pm N p->Up key p N->Q p):run (ltK key) (λi=>i<N) (kas_sort N) Q:=by
 refine Ij _ (BK j (show Pm N _ from kA _) (b' _) j λr p B a b u=>?_);refine Fu (λc=>?_) (λc=>?_)
 .have L:r<N:=c
  show run _ _ (kas_bin (N-max r 1) p (max r 1)) Q;let e:max r 1=r:=by lia
  rw[e];exact U4 j _ p r B Z u λF x y=>q F x (by rw[show r+(N-r)=N by lia]at y;exact y)
 .have L:¬r<N:=c
  obtain rfl:r=N:=by lia
  exact q p B u
end
end CRS
namespace L2
open PySem PySem.Spec PyProof.Rows PySem.W
theorem Lz:∀a:List Int,HT.lexLt a a=eM
 |[]=>rfl
 |x::B=>by unfold HT.lexLt;rw[eR I];exact Lz B
theorem Vq:∀a b c:List Int,HT.lexLt a b=eP->HT.lexLt b c=eP->HT.lexLt a c=eP
 |[],[],_,h,_=>nomatch h
 |[],_::_,[],_,h=>nomatch h
 |[],_::_,_::_,_,_=>rfl
 |_::_,[],_,h,_=>nomatch h
 |_::_,_::_,[],_,h=>nomatch h
 |x::H,y::M,z::C,B,F=>by
  unfold HT.lexLt at B F⊢;by_cases L:x=y
  .by_cases j:y=z
   .rw[eR L]at B;rw[eR j]at F;rw[eR (L.trans j)];exact Vq H M C B F
   .rw[eQ j]at F;rw[eQ (by rw[L];exact j),L];exact F
  .rw[eQ L]at B
   let N:=fE B;by_cases j:y=z
   .rw[eQ (by rw[<- j];exact L),<- j];exact B
   .rw[eQ j]at F
    let O:=fE F;rw[eQ zY];exact eT zY
theorem U9:∀a b c:List Int,HT.lexLt a c=eP->HT.lexLt a b=eP\/HT.lexLt b c=eP
 |[],[],_,h=>.inr h
 |[],_::_,_,_=>.inl I
 |_::_,_,[],h=>nomatch h
 |_::_,[],_::_,_=>.inr I
 |x::C,y::H,z::B,h=>by
  unfold HT.lexLt at h⊢;by_cases F:x=y
  .by_cases j:y=z
   .rw[eR (F.trans j)]at h;rw[eR F,eR j];exact U9 C H B h
   .rw[eQ (by rw[F];exact j)]at h;rw[eQ j];exact .inr (by rw[<- F];exact h)
  .rw[eQ F]
   by_cases j:y=z
   .rw[eQ (by rw[<- j];exact F)]at h;exact .inl (by rw[j];exact h)
   .rw[eQ j]
    by_cases l:x<y
    .exact .inl (eT l)
    .right
     refine eT ?_;by_cases L:x=z
     .omega
     .rw[eQ L]at h
      let:=fE h;omega
theorem Wc:∀a b:List Int,HT.lexLt a b=eM->HT.lexLt b a=eM->a=b
 |[],[],_,_=>rfl
 |[],_::_,h,_=>nomatch h
 |_::_,[],_,h=>nomatch h
 |x::C,y::H,B,F=>by
  unfold HT.lexLt at B F;by_cases j:x=y
  .rw[eR j]at B;rw[eR j.symm]at F;rw[j,Wc C H B F]
  .rw[eQ j]at B;rw[eQ (fQ j)]at F
   let L:=g0 B;let M:=g0 F;omega
def cS:KeyOrd:=[List Int,HT.lexLt,Lz,Vq,U9,Wc]
section
variable {prog:eY} {w:fF} {A:fL} {E:eJ->eO->Prop} {s:eO}
def CW(prog:eY)(w:fF)(A:fL)(vs:List eJ)(O:KeyOrd)(key:Nat->O.α)(s:eO):Prop:=
 ∃B:SortKind,(∀(Q:SortKind->eO->Prop) (E:eJ->eO->Prop),Q B s->eV (fC prog w) A (keyKind' vs.toArray) Q E s) /\
  ∀i j,i<vs.length->j<vs.length->∀C:Bool->eO->Prop,C (O.blt (key i) (key j)) s->eV (fC prog w) A (keyLt' B (vs.getD i fP) (vs.getD j fP)) C (λx x=>False) s
def Hy(vs:List eJ)(p:Array Nat):List eJ:=p.toList.map λi=>vs.getD i fP
def Rc{n:Nat}{vs:List eJ}{p:Array Nat}(h:CRS.Pm n p):(Hy vs p).length=n:=by
 unfold Hy;rw[cn,hH,h.size]
theorem JO:∀{vs},vs.length<2->((vs.toArray.zip vs.toArray).map (·.2))=(Hy vs (kw vs.length).toArray).toArray
 |[],_=>by
  apply wQ.mp;simp[Hy]
 |#[v],_=>by
  apply wQ.mp;simp[Hy]
 |_::_::_,h=>fA h zZ
def LW{O}{key:Nat->O.α}{a}{vs}{n:Nat}{P:rH->eO->Prop}(c:s.heap.get? a=g (fU "list" vs.toArray n))(L:vs.length<64)
  (t:∀h':fK,(∀b o,b≠a->s.heap.get? b=g o->h'.get? b=g o)->2<=vs.length->CW prog w A vs O key { s with heap:=h' })
  (h:∀p,CRS.Pm vs.length p->CRS.Up key p vs.length->P (.done (.ret .none)) { s with heap:=sortedHeap s.heap a vs (Hy vs p).toArray }) :
  eV (fC prog w) A (iQ.«list.sort» [#[.ref a],[]]) P E s:=by
 let lt:a<⇑s:=dn c;let B:∀k:Nat,k<64->k<=sizeLine:=λk hk=>by rw[ck];lia
 rw[list_sort_plain];refine a_ (mQ c I (a_ (jG c I ?_ (by rw[dw];exact B _ L) (de _))));obtain⟨l,W⟩:∃l,(s.heap.update a (fJ λ_=>(#v[]:Array eJ))).get? a=g (fU "list" #v[] l):=[_,rP c λ_ => #v[]];refine a_ (nU W I (a_ (sK (a_ (lR (fV ?_) (de _))) (by rw[hH,dw];exact B _ L))));let sb:=i_.update s.heap a (fJ λ_=>(#v[]:Array eJ));let r:∀b o,b≠a->s.heap.get? b=g o->(((s.heap.update a (fJ λ_=>(#v[]:Array eJ))).push (fU "tuple" vs.toArray 0)).push (fU "list" #v[] 0)).get? b=g o:=λb o nb e=>
  dv _ (dv _ ((sb.2 b nb).trans e))
 let M:(((s.heap.update a (fJ λ_=>(#v[]:Array eJ))).push (fU "tuple" vs.toArray 0)).push (fU "list" #v[] 0)).get? a=g (fU "list" #v[] l):=dv _ (dv _ W);show eV (fC prog w) A _ P E { s with heap:=((s.heap.update a (fJ λ_=>(#v[]:Array eJ))).push (fU "tuple" vs.toArray 0)).push (fU "list" #v[] 0) }
 dsimp only
 let sz:vs.toArray.size=vs.length:=dw ..;by_cases N:vs.toArray.size<2
 .rw[eR N,eR N]
  refine a_ (b_ ?_);rw[vO];refine a_ (b_ ?_);let q:(arrOf (SortSt.mk' general' (vs.toArray.zip vs.toArray) #v[] 7 U)).map (·.2)=(Hy vs (kw vs.length).toArray).toArray:=JO Z;show eV (fC prog w) A (do
   let x <- seqEpoch a
   let _ <- pF (.ref a) λ_=>(arrOf (SortSt.mk' general' (vs.toArray.zip vs.toArray) #v[] 7 U)).map (·.2)
   _) P E _
  rw[q];refine a_ (nU M I (a_ (jG M I ?_ (de _) (by rw[dw,Rc (n:=vs.length) (kA _)];let:=B _ L;lia))));simp only[qW,pz,jP];refine b_ (h _ (kA _) λi j m u=>?_);rw[show i=j by lia];exact gZ _
 .rw[eQ N,eQ N]
  let X:2<=vs.length:=by lia
  let[y,K,T]:=t _ r X;refine a_ (K _ _ ?_);let F:(kas_sort vs.length).kasWp (kas_ask prog w A y vs) (λp R=>R={ s with heap:=((s.heap.update a (fJ λ_=>(#v[]:Array eJ))).push (fU "tuple" vs.toArray 0)).push (fU "list" #v[] 0) }/\CRS.Pm vs.length p/\CRS.Up key p vs.length)
    { s with heap:=((s.heap.update a (fJ λ_=>(#v[]:Array eJ))).push (fU "tuple" vs.toArray 0)).push (fU "list" #v[] 0) }:=
   CRS.run_wp (lt:=CRS.ltK key) (V:=λi=>i<vs.length) (λi j C hi u hC=>T i j hi u C hC) (λp S=>[I,S]) _ (CRS.run_sort Z λp h1 v=>[h1,v])
  refine a_ (gI (kat_run (ks:=vs) (vs:=vs) (Q:=λH R=>R={ s with heap:=((s.heap.update a (fJ λ_=>(#v[]:Array eJ))).push (fU "tuple" vs.toArray 0)).push (fU "list" #v[] 0) }/\failedOf H=U/\∃p,CRS.Pm vs.length p/\CRS.Up key p vs.length/\(arrOf H).map (·.2)=(Hy vs p).toArray)
   rfl X L (λp H R _ f d ⟨es,g1,z⟩=>[es,d,p,g1,z,kat_snds I f]) F) ?_ λ_ _ e=>e)
  rintro ⟨⟨⟩,H⟩ R ⟨rfl,d,p,S,hu,q⟩;show eV (fC prog w) A (do
   let x <- seqEpoch a
   let _ <- pF (.ref a) λ_=>(arrOf H).map (·.2)
   _) P E _
  rw[q];refine a_ (nU M I (a_ (jG M I ?_ (de _) (by rw[dw,Rc S];let:=B _ L;lia))));rw[d];simp only[qW,pz,jP];exact b_ (h p S hu)
def AZ{O}{key:Nat->O.α}{l}{vs}{Q:eJ->eO->Prop}(W:s.heap.IsList l vs.toArray)(L:vs.length<64)
  (M:∀(A:fL) (h':fK),(∀b o,s.heap.get? b=g o->h'.get? b=g o)->2<=vs.length->CW prog w A vs O key { s with heap:=h' })
  (h:∀p,CRS.Pm vs.length p->CRS.Up key p vs.length->Q (.ref (⇑s+1)) { s with heap:=sortedAll s.heap vs (Hy vs p).toArray }) :
  eV (fC prog w) A (call (.builtin "sorted") #[.ref l]) Q E s:=by
 let C:vs.length<=sizeLine:=by rw[ck];omega
 refine qN kind_sorted vF vK (args_sorted1 _) ?_;unfold iQ.«sorted»;refine a_ (m:=checkCount "sorted" 1 1 _) (b_ (a_ (collect_list W (a_ (lR ?_ C)))));let P:((s.heap.push (fU "list" #v[] 0)).update ⇑s (fJ (· ++ vs.toArray))).objs.size=⇑s+1:=by rw[wL,size_push']
 let B:(((s.heap.push (fU "list" #v[] 0)).update ⇑s (fJ (· ++ vs.toArray))).push (fU "list" vs.toArray 0)).get? (⇑s+1)=g (fU "list" vs.toArray 0):=by
  rw[<- P];exact h_ _ I
 let H:∀b o,s.heap.get? b=g o->(((s.heap.push (fU "list" #v[] 0)).update ⇑s (fJ (· ++ vs.toArray))).push (fU "list" vs.toArray 0)).get? b=g o:=λb o e=>
  dv _ (((i_.update (s.heap.push (fU "list" #v[] 0)) ⇑s (fJ (· ++ vs.toArray))).2 b (fj (dn e))).trans (dv _ e))
 show eV (fC prog w) _ _ _ _ { s with heap:=((s.heap.push (fU "list" #v[] 0)).update ⇑s (fJ (· ++ vs.toArray))).push (fU "list" vs.toArray 0) };rw[P];refine a_ (fV (gR sN [_,B,I] rQ (LW (O:=O) (key:=key) B L (λh' k N=>?_) λp T R=>[_,I,?_]) (args_list_sort _)))
 .exact M _ h' (λb o e=>k b o (fj (vu (dn e))) (H b o e)) N
 .exact b_ [_,I,h p T R]
theorem B7{Q:Bool->eO->Prop}:∀{xs ys} {ns j:List Int} (i:Nat),iP xs ns->iP ys j->ns.length=j.length->Q (HT.lexLt ns j) s->KatLex prog w A eP eM Q (xs.zip ys) i s
 |_,_,_,_,i,.nil,.nil,_,h=>kat_nil h
 |_,_,_,_,_,.nil,.cons _ _ _,e,_=>by simp at e
 |_,_,_,_,_,.cons _ _ _,.nil,e,_=>by simp at e
 |_,_,_,_,i,.cons a t r,.cons b u L,e,h=>by
  rw[nO];refine kat_cons (mD ?_);rw[HT.lexLt_cons]at h;by_cases c:a=b
  .rw[eR c]at h
   let F:(a==b)=eP:=by rw[c];exact gV b
   rw[F];exact kat_yes (B7 (i+1) r L (by simpa using e) h)
  .rw[eQ c]at h
   let F:(a==b)=eM:=by simpa using c
   rw[F];refine kat_no ?_;cases i with
   |zero=>exact oneLt_int h
   |succ i=>exact kat_one _ _ (PyProof.Rows.lt_int h)
def dQ(h:fK)(k:Nat):List eJ->List (List Int)->Prop
 |[],[]=>True
 |v::H,r::C=>(∃(t:J) (B:List eJ),v=.ref t/\tO h t B.toArray/\iP B r/\r.length=k)/\dQ h k H C
 |_,_=>False
theorem dQ.at{h:fK}{k:Nat}:∀{vs} {B:List (List Int)} {i:Nat},dQ h k vs B->i<vs.length->∃(t:J) (xs:List eJ),vs.getD i fP=.ref t/\tO h t xs.toArray/\iP xs (B.getD i [])/\(B.getD i []).length=k
 |[],[],_,_,z=>by simp at z
 |[],_::_,_,z,_=>z.elim
 |_::_,[],_,z,_=>z.elim
 |v::vs,r::B,0,[[t,xs,e,z],q],_=>[t,xs,e,z]
 |v::vs,r::B,i+1,[_,q],l=>q.at (i:=i) (by simpa using l)
theorem dQ.firsts{h:fK}{k:Nat}:∀{vs} {N:List (List Int)},dQ h (k+1) vs N->∃M:List eJ,KatTups h vs M/\M.length=vs.length/\∀v∈M,∃(n:Int) (t:vN),v=.int n t
 |[],[],_=>[[],trivial,I,λx z=>nomatch z]
 |[],_::_,z=>z.elim
 |_::_,[],z=>z.elim
 |v::vs,r::N,[[t,Q,e,[o,S,F,n,j],H,l],q]=>by
  let[M,O,L,C]:=q.firsts;cases H with
  |nil=>simp at l
  |cons a u P=>
   refine[.int a u::M,[[t,o,_,n,e,S,F,j,zZ],O],by rw[c_,c_,L],λy B=>?_];rcases cr.mp B with z|z
   .exact[a,u,z]
   .exact C y z
def Vz{M:pH}{h:fK}(n:Int)(t:vN):Looks M h (sM (.int n t)) (.type "int"):=λA Q E s x q=>jK I q
def Y9{vs:List eJ}{N:List (List Int)}{k:Nat}(T:dQ s.heap (k+1) vs N)(ab:2<=vs.length):CW prog w A vs cS (λi=>N.getD i []) s:=by
 let[z,b,u,W]:=T.firsts;refine[tuples' (gO "int" != gO "tuple"),λQ E q=>kat_kind b Z (λv K=>?_) I q,λi j f O C r=>?_]
 .let[n,t,rfl]:=W v K
  exact Vz n t
 .let[t,P,e,[o,d,hc,n,c],M,l]:=T.at f
  let[y,S,p,[o',H,a,m,L],F,R]:=T.at O;rw[e,p];let x:=M.length;let h:=F.length;let B:(gO "int" != gO "tuple")=eP:=by ac_nf
  rw[B];refine kat_lt d c H L ?_;let X:decide (P.toArray.size<S.toArray.size)=eM:=eZ (by simp only[dw];lia);rw[X];exact B7 0 M F (l.trans R.symm) r
end
def cR(K:a')(H:Hp)(k:Nat):List V->List (List Int)->Prop
 |[],[]=>True
 |y::C,r::B=>(∃t,y=.ref t/\Bh K H t (r.map V.int)/\r.length=k)/\cR K H k C B
 |_,_=>False
theorem Sj:∀{r:List Int} {us},Ap (r.map V.int) us->iP us r
 |[],_,.nil=>.nil
 |a::r,_,.cons [t,e] j=>by subst e;exact .cons a t (Sj j)
section
variable {X:Cx}
theorem cR.vals{pins:List (J×gS)}{s:eO}{k:Nat}(B:Ak X pins b H s):∀{ys} {C:List (List Int)} {us},cR X.K H k ys C->Ap ys us->dQ s.heap k us C
 |[],[],_,_,.nil=>trivial
 |[],_::_,_,z,_=>z.elim
 |_::_,[],_,z,_=>z.elim
 |y::ys,r::C,_,[[t,e,h,l],q],.cons L S=>by
  subst e;cases L;let[j,F,p,_]:=B.tuple h;exact[[t,j,I,p,Sj F,l],q.vals B S]
theorem C8:∀{ys} {us} (i:Nat),Ap ys us->Az (ys.getD i .non) (us.getD i fP)
 |_,_,_,.nil=>rfl
 |_,_,0,.cons r _=>r
 |_,_,i+1,.cons _ j=>by
  rw[uN,uN];exact C8 i j
theorem Rm{ys:List V}{us:List eJ}(r:Ap ys us):∀l:List Nat,Ap (l.map λi=>ys.getD i .non) (l.map λi=>us.getD i fP)
 |[]=>.nil
 |i::l=>.cons (C8 i r) (Rm r l)
def aR(K:a')(t:TE):TT:=λC H Q=>t C H λx B=>∃k,XS K x B k/\Q k B
def GR{e:gK}{t:TE}(h:PE X e t)(S:∀j,vI e X.env j=(do let v <- j;kF e.pos;iY #[v] (truthy v)):=by intro _;rfl):PT X e (aR X.K t):=by
 intro O s P H Q B L;exact isTrue_plain (Ct (h O s P H _ B L) λv M ⟨x,R,F,N,C⟩=>RP O M P R x v Q F N C) (S _)
end
end L2
namespace L2
open PySem PySem.Spec PyProof.Rows
structure dJ(K:a')(x qual:eU)(st:gY)(f:J)(fd:m_):Prop where
 ex:∃(oc:eJ) (od:Option J) (dV kV doc pm:eJ) (an:Option J) (cdv ct:eJ) (osl:Array (Option eJ)),
  fd=i' x qual (Db st) (Bw st) (Ao st) dV kV doc pm an cdv ct/\K.lookup f=g [oc,od,.func fd,osl]/\nN K cdv qual=eP
 kp:js K (.ref f)=eP
section
variable {P:eY} {w:fF} {K:a'} {mg:eU->Option eJ} {base:fK}
def dJ.ok{x qual}{st}{f}{T}{N ps}{k:Nat}{sp}(F:dJ K x qual st f T)(S:Bg N ps (Ao st))(R:∀vs H Q E,sp vs H Q E->vs.length=ps.length)
  (j:∀(O:eJ) (A:fL) (outer:List mB) (s:eO) (H:Hp) (vs:List V) (Q:VK) (E:XK),Bv k (A.deeper (iI qual (Ao st) ⇑s f O))->sp vs H Q E ->
   ∃t,PSs (Hb Fv P w K mg base N qual (Ao st) f O A outer s H E).nox (Bw st) t/\t { nx:=λy H'=>Q .non H',rt:=Q } (Eh N vs) H):Bp P w K mg base Fv (k+1) f T ps sp:=by
 let[b,l,d,kV,M,X,c,O,o,B,e,lk,L]:=F.ex;subst e;refine Yq lk L S R λA outer s H vs Q E W C=>?_;let[t,h,q]:=j O A outer s H vs Q E W C;exact[t,h.nox,q]
def Q8{x qual}{st}{f}{B}{od C}{F}{S kV j H M L}(l:K.lookup f=g [B,od,.func (i' x qual (Db st) (Bw st) (Ao st) S kV j H C M L),F])
  (c:nN K M qual=eP) (k:js K (.ref f)=eP):dJ K x qual st f (i' x qual (Db st) (Bw st) (Ao st) S kV j H C M L):=[[B,od,S,kV,j,H,C,M,L,F,I,l,c],k]
end
def My{K K':a'}{a:J}{xs:List V}{C M:Nat}{Q:TS}{D:Jy}{O:St}{H:Hp}(j:Nat->St->Hp->Prop)(A:j 0 O H)(k:∀i O H,i<=xs.length->j i O H->Am K H a xs)
  (R:∀i x O H t,xs[i]?=g x->j i O H->H t=U->Q { D with nx:=j (i+1),ct:=j (i+1),bk:=D.nx } ((O.set C (g (.int i))).set M (g x)) (upd H t (.tup #[.int i,x]))) (c:∀O H,j xs.length O H->D.nx O H) :
  ∃W:Nat->Nat->St->Hp->Prop,(∃m,W 0 m O H)/\∀i m O H,W i m O H ->
   ((LY K a).stop i H/\D.nx O H)\/((LY K a).go i H/\∃N:St->Hp->Prop,(∀L H',N L H'->∃S,S<m/\W (i+1) S L H')/\∀x H',(LY K a).yld i H x H'->O9 K' 2 (Im (Dx C) (Im (Dx M) Z7)) x O H' λP E=>Q { D with nx:=N,ct:=N,bk:=D.nx } P E):=by
 refine[λi m O H=>m=xs.length-i/\i<=xs.length/\j i O H,[xs.length,zZ,de _,A],?_];rintro i m O H ⟨rfl,f,p⟩;let q:=k i O H f p;by_cases F:i<xs.length
 .refine .inr [[xs,xs[i],q,by simp[F]],j (i+1),λL H' T=>[xs.length-(i+1),zY,I,F,T],λx H' y=>?_]
  let[t,z,X,d,b,B]:=y;subst X B;exact[t,_,I,Bh.of Ab,I,_,_,I,_,_,I,I,R i z O H t (b xs q) p d]
 .obtain rfl:i=xs.length:=by omega
  exact .inl [[xs,q,b' _],c O H p]
def XE(K:a')(a b:J):It:=
 [λi H=>∃B C x y,Am K H a B/\Am K H b C/\B[i]?=g x/\C[i]?=g y,
   λi H v L=>∃t x y,v=.ref t/\H t=U/\(∀B,Am K H a B->B[i]?=g x)/\(∀C,Am K H b C->C[i]?=g y)/\L=upd H t (.tup #[x,y]),
   λi H=>∃B C,Am K H a B/\Am K H b C/\(B.length<=i\/C.length<=i)]
structure Zp(z u o i j:J):Prop where
 uz:u≠z
 oz:o≠z
 iz:i≠z
 jz:j≠z
 uo:u≠o
 ui:u≠i
 uj:u≠j
 oi:o≠i
 oj:o≠j
 ij:i≠j
def RU(n:Nat):Zp (n+4) (n+2) (n+3) n (n+1):=
 [fj Z,fj Z,fj Z,fj Z,fj Z,ny Z,ny Z,ny Z,ny Z,fj Z]
def NK(a b z u o i j:J)(k:Nat)(h:fK):Prop:=IsZip h z u o .none/\IsPair h u (.ref i) (.ref j)/\(∃x y,IsPair h o x y)/\h.IsListIter i a k/\h.IsListIter j b k
def Vj{a b z u o i j:J}{k:Nat}{h:fK}{xs ys:Array eJ}(D:Zp z u o i j)(st:NK a b z u o i j k h)(H:h.IsList a xs)(S:h.IsList b ys):ZipApart z u o i j a b:=by
 let[T,N,[x,y,X],[F,A,f,_],[t,W,K,_]]:=st;let M:∀{c d:J} {p q:gS} {O:Array eJ},h.IsList c O->h.get? d=g q->q.cls≠.type "list"->c≠d:=λ{c d p q O} s l E e=>by
  let[v,P,r,_]:=s;rw[e,l]at P;cases P;exact E r
 let R:(gO "zip")≠.type "list":=by ac_nf
 let B:(gO "tuple")≠.type "list":=by ac_nf
 let Q:(gO "list_iterator")≠.type "list":=by ac_nf
 let L:F.cls≠.type "list":=by rw[f];exact Q
 let C:t.cls≠.type "list":=by rw[K];exact Q
 constructor<;>first
  |exact D.uz|exact D.oz|exact D.iz|exact D.jz|exact D.uo|exact D.ui|exact D.uj|exact D.oi|exact D.oj|exact D.ij
  |exact M (p:=F) H T R|exact M (p:=F) S T R|exact M (p:=F) H X B|exact M (p:=F) S X B|exact M (p:=F) H N B|exact M (p:=F) S N B
  |exact M (p:=F) H A L|exact M (p:=F) S A L|exact M (p:=F) H W C|exact M (p:=F) S W C
def HR{P}{w}{K}{ak}{n:Nat}{tp}(a b z u o i j:J)(D:Zp z u o i j) :
  Tq P w K (.Tuple ak n tp) (XE K a b) #[z,u,o,i,j] z (NK a b z u o i j) where
 mem:=by simp
 obj:=λk h f c F=>by
  let[hz,hu,[x,y,ho],[oi,ei,ci,di],[oj,ej,cj,dj]]:=f;simp only[cr,j_,gP]at F;rcases F with rfl|rfl|rfl|rfl|rfl
  .exact[_,hz,λv q=>by
    let q':uD _=pJ v:=q;cases q']
  .exact[_,hu,λv q=>by
    let q':Data.seq _ _=pJ v:=q;cases q']
  .exact[_,ho,λv q=>by
    let q':Data.seq _ _=pJ v:=q;cases q']
  .exact[oi,ei,λv q=>by rw[di]at q;cases q]
  .exact[oj,ej,λv q=>by rw[dj]at q;cases q]
 keep:=λk h h' f kk=>by
  let[hz,hu,[x,y,ho],h1,l]:=f;exact[kk z zZ _ hz,kk u zZ _ hu,[x,y,kk o zZ _ ho],h1.at λO e=>kk i zZ O e,l.at λO e=>kk j zZ O e]
 item:=by
  intro X hP hw hK F k t s σ H E B A f hg;subst hP hw hK;let[xs,ys,x,y,ad,ae,hx,hy]:=hg;let[am,rv,p,hz]:=B.list ad;let[aq,ah,p',ao]:=B.list ae;let[v,hv,ru]:=rv.get hx;let[v',ap,as]:=ah.get hy;let DD:=Vj D f p.isList p'.isList;let[sz,su,[x0,y0,so],s1,s2]:=id f;let T:=A z zZ;let fu:=A u zZ;let Q:=A o zZ;let W:=A i zZ;let R:=A j zZ;refine wpAny_pyNext_zip_item DD sz su so s1 s2 p.isList p'.isList (x:=v) (y:=v') (by simpa using hv) (by simpa using ap) λh1 a1 a2 a3 a4 a5 a6 hk=>[_,I,?_];refine wpAny_letOwnedTupleGo_zip a1 λl an al=>?_;let S:i_ z h1 l:=al;let ai:z<⇑s:=dn sz;let ab:H ⇑s=U:=B.hok.fresh (b' _);let up:∀c O,c≠z->c≠o->c≠i->c≠j->s.heap.get? c=g O->l.get? c=g O:=λc O c1 c2 c3 c4 q=>(S.2 c c1).trans (hk c O c1 c2 c3 c4 q);let N:∀c,c∉#[z,o,i,j]->c≠z/\c≠o/\c≠i/\c≠j:=λc F=>by
   simp only[cr,j_,gP,not_or]at F;exact F
  let C:∀c O,H c=g O->c≠z/\c≠o/\c≠i/\c≠j:=λc O q=>
   [λe=>by(rw[e,T.1]at q;cases q),λe=>by(rw[e,Q.1]at q;cases q),λe=>by(rw[e,W.1]at q;cases q),λe=>by(rw[e,R.1]at q;cases q)]
  let aa:∀c O,c∉#[z,o,i,j]->s.heap.get? c=g O->l.get? c=g O:=λc O F q=>up c O (N c F).1 (N c F).2.1 (N c F).2.2.1 (N c F).2.2.2 q;let ac:∀c O L,H c=g L->s.heap.get? c=g O->l.get? c=g O:=λc O L F q=>up c O (C c L F).1 (C c L F).2.1 (C c L F).2.2.1 (C c L F).2.2.2 q;let aj:l.get? ⇑s=g { cls:=.type "tuple",data:=.seq #v[v,v'] }:=(S.2 _ (ny ai)).trans a5;let I1:Ak X t σ (upd H ⇑s (.tup #[x,y])) { s with heap:=l,gens:=s.gens,drawn:=s.drawn,toks:=s.toks }:=by
   refine B.step (ch:=#[z,o,i,j]) (λc F=>?_) (λc O _ _ F q _=>aa c O F q) (λc O _ _ F q _=>[O.slots,aa c O F q]) (λc O _ q n=>by rw[Aj (fj (dn q))];exact n)
    (λc O F q=>[O,aa c O F q]) (λc xs q=>by rw[Aj (Af q ab)];exact q) (λc O u q=>by rw[Aj (Af q ab)];exact q) (λc ps q=>[#v[],by rw[Aj (Af q ab),q];simp])
    (λm hm=>?_) (λc O q=>?_) B.bare
   .simp only[cr,j_,gP]at F
    rcases F with rfl|rfl|rfl|rfl
    .exact[T.2.2.2.1,T.2.1,T.2.2.2.2.1,T.2.2.2.2.2]
    .exact[Q.2.2.2.1,Q.2.1,Q.2.2.2.2.1,Q.2.2.2.2.2]
    .exact[W.2.2.2.1,W.2.1,W.2.2.2.2.1,W.2.2.2.2.2]
    .exact[R.2.2.2.1,R.2.1,R.2.2.2.2.1,R.2.2.2.2.2]
   .let[O,es,ep,af,r]:=hm
    exact[O,es,ep,up _ O (fQ T.2.1) (fQ Q.2.1) (fQ W.2.1) (fQ R.2.1) af,r]
   .by_cases hb:c=⇑s
    .subst hb
     rw[Ab]at q;cases q;exact[Ax (by show 2<=1000;decide),#[v,v'],.cons ru (.cons as .nil),_,aj,I,_,I]
    .rw[Aj hb]at q
     refine(B.hok c O q).stay (λd w' hd M=>?_) (λd M=>by rw[Aj (Af M ab)];exact M) (λd zs M=>by rw[Aj (Af M ab)];exact M);rcases hd with rfl|hd
     .exact ac _ w' _ q M
     .exact ac _ w' _ hd M
  refine[.ref ⇑s,_,I1,I,[_,x,y,I,ab,λzs ag=>by rw[B.list_inj ag ad];exact hx,λzs ag=>by rw[B.list_inj ag ae];exact hy,I],[an,?_,[v,v',?_],?_,?_],λc F=>?_]
  .exact(S.2 u D.uz).trans (hk u _ D.uz D.uo D.ui D.uj su)
  .exact(S.2 o D.oz).trans a2
  .exact a3.at λO q=>(S.2 i D.iz).trans q
  .exact a4.at λO q=>(S.2 j D.jz).trans q
  .have hl:c<⇑s:=by
    simp only[cr,j_,gP]at F;rcases F with rfl|rfl|rfl|rfl|rfl
    .exact dn sz
    .exact dn su
    .exact dn so
    .let[_,q,_]:=s1;exact dn q
    .let[_,q,_]:=s2;exact dn q
   rw[Aj (fj hl)];exact(A c F).1
 done:=by
  intro X hP hw hK F k t s σ H E B A f hg;subst hP hw hK;let[xs,ys,ad,ae,ar]:=hg;let[am,rv,p,hz]:=B.list ad;let[aq,ah,p',ao]:=B.list ae;let DD:=Vj D f p.isList p'.isList;let[sz,su,[x0,y0,so],s1,s2]:=id f;let T:=A z zZ;let Q:=A o zZ;let W:=A i zZ;let R:=A j zZ;let hl:=rv.length;let au:=ah.length;refine wpAny_pyNext_zip_end (B.ok.hd F) DD sz su so s1 s2 p.isList p'.isList ?_ λh' hk=>[I,?_]
  .rcases ar with e|e
   .exact .inl (by simp;lia)
   .exact .inr (by simp;lia)
  .have N:∀c,c∉#[z,o,i,j]->c≠z/\c≠o/\c≠i/\c≠j:=λc F=>by
    simp only[cr,j_,gP,not_or]at F;exact F
   let C:∀c O,H c=g O->c≠z/\c≠o/\c≠i/\c≠j:=λc O q=>
    [λe=>by(rw[e,T.1]at q;cases q),λe=>by(rw[e,Q.1]at q;cases q),λe=>by(rw[e,W.1]at q;cases q),λe=>by(rw[e,R.1]at q;cases q)]
   let aa:∀c O,c∉#[z,o,i,j]->s.heap.get? c=g O->h'.get? c=g O:=λc O F q=>hk c O (N c F).1 (N c F).2.1 (N c F).2.2.1 (N c F).2.2.2 q;let ac:∀c O L,H c=g L->s.heap.get? c=g O->h'.get? c=g O:=λc O L F q=>hk c O (C c L F).1 (C c L F).2.1 (C c L F).2.2.1 (C c L F).2.2.2 q;refine B.step (H':=H) (ch:=#[z,o,i,j]) (λc F=>?_) (λc O _ _ F q _=>aa c O F q) (λc O _ _ F q _=>[O.slots,aa c O F q]) (λc O _ q n=>n)
    (λc O F q=>[O,aa c O F q]) (λc xs q=>q) (λc O u q=>q) (λc ps q=>[#v[],by rw[q];simp])
    (λm hm=>?_) (λc O q=>?_) B.bare
   .simp only[cr,j_,gP]at F
    rcases F with rfl|rfl|rfl|rfl
    .exact[T.2.2.2.1,T.2.1,T.2.2.2.2.1,T.2.2.2.2.2]
    .exact[Q.2.2.2.1,Q.2.1,Q.2.2.2.2.1,Q.2.2.2.2.2]
    .exact[W.2.2.2.1,W.2.1,W.2.2.2.2.1,W.2.2.2.2.2]
    .exact[R.2.2.2.1,R.2.1,R.2.2.2.2.1,R.2.2.2.2.2]
   .let[O,es,ep,af,r]:=hm
    exact[O,es,ep,hk _ O (fQ T.2.1) (fQ Q.2.1) (fQ W.2.1) (fQ R.2.1) af,r]
   .refine(B.hok c O q).stay (λd w' hd M=>?_) (λd M=>M) (λd zs M=>M)
    rcases hd with rfl|hd
    .exact ac _ w' _ q M
    .exact ac _ w' _ hd M
 self:=λ_ _ _ _ _ f h=>wpAny_pyIter_zip f.1 h
def ZL(K:a')(M:TA):TI:=λC H R=>M C H λO B=>∃a b,O=#[.ref a,.ref b]/\(∃L,Am K B a L)/\(∃N,Am K B b N)/\R (XE K a b) B
def GO{X}{M F}{T}{p P tp}{S}{n:Nat}(o:Gl X "zip")(z:X.mg "zip"=U)(w:PA X #[M,F] T)(l:eX #[M,F] X.env=#[(eM,gC M X.env),(eM,gC F X.env)]:=by rfl)(Q:eX #[F] X.env=#[(eM,gC F X.env)]:=by rfl) :
  PI X (.Tuple S n tp) (.Call (.Name "zip" p) #[M,F] [] P) (ZL X.K T):=by
 intro O s K H R B h;refine Call_ (Fy B o z (show fz "zip"=g (.type "zip") from rfl) (gG (Ct (w P O s K H _ B h) λus j h9=>?_) (by rw[l,Q]) (by rw[Q];rfl)));let[vs,W,L,r1,y]:=h9;let[a,b,t,[xs,i],[ys,N],q]:=y;subst t;cases r1 with
 |cons m C=>
  cases C with
  |cons r C=>
   cases C
   cases m
   cases r
   let[ac,rv,f,hz]:=L.list i;let[ae,ad,x,af]:=L.list N;refine call_zip_2 f.isList x.isList λk A e b3 b4 v b6 hk=>?_;refine wpAny_pyIter_zip A ?_;let u:Ak X O K W { j with heap:=k }:=L.kept (t':=j.toks) hk;refine[_,#[⇑j+4,⇑j+2,⇑j+3,⇑j,⇑j+1],_,_,W,I,u,HR a b (⇑j+4) (⇑j+2) (⇑j+3) ⇑j (⇑j+1) (RU _),[A,e,[_,_,b3],b4,v],λc d=>?_,q];let E:⇑j<=c:=by
    simp only[cr,j_,gP]at d;rcases d with rfl|rfl|rfl|rfl|rfl<;>lia
   exact L.fpOk E (L.hok.fresh E)
def U5{K K':a'}{a b:J}{xs ys:List V}{Q R:Nat}{X:TS}{D:Jy}{B:St}{H:Hp}(C:Nat->St->Hp->Prop)(j:C 0 B H)(s:∀i B H,i<=min xs.length ys.length->C i B H->Am K H a xs/\Am K H b ys)
  (E:∀i x y B H t,xs[i]?=g x->ys[i]?=g y->C i B H->H t=U->X { D with nx:=C (i+1),ct:=C (i+1),bk:=D.nx } ((B.set Q (g x)).set R (g y)) (upd H t (.tup #[x,y]))) (o:∀B H,C (min xs.length ys.length) B H->D.nx B H) :
  ∃W:Nat->Nat->St->Hp->Prop,(∃m,W 0 m B H)/\∀i m B H,W i m B H ->
   ((XE K a b).stop i H/\D.nx B H)\/((XE K a b).go i H/\∃N:St->Hp->Prop,(∀L H',N L H'->∃T,T<m/\W (i+1) T L H')/\∀x H',(XE K a b).yld i H x H'->O9 K' 2 (Im (Dx Q) (Im (Dx R) Z7)) x B H' λP k=>X { D with nx:=N,ct:=N,bk:=D.nx } P k):=by
 refine[λi m B H=>m=min xs.length ys.length-i/\i<=min xs.length ys.length/\C i B H,[min xs.length ys.length,I,de _,j],?_];rintro i m B H ⟨rfl,r,p⟩;let[M,O]:=s i B H r p;by_cases u:i<min xs.length ys.length
 .have c:i<xs.length:=by lia
  let d:i<ys.length:=by lia
  refine .inr [[xs,ys,xs[i],ys[i],M,O,by simp[c],by simp[d]],C (i+1),λL H' F=>[min xs.length ys.length-(i+1),Z,I,Z,F],λv H' y=>?_];let[t,x,z,f,q,A,l,S]:=y;subst f S;exact[t,_,I,Bh.of Ab,I,_,_,I,_,_,I,I,E i x z B H t (A xs M) (l ys O) p q]
 .obtain rfl:i=min xs.length ys.length:=by lia
  exact .inl [[xs,ys,M,O,Z],o B H p]
def U0(l:List Nat):∀n:Nat,(kq n l.toArray).foldl (· ++ ·) #v[]=((kq n l).flatten).toArray:=λn=>by
 let j:∀(n:Nat) (a:List Nat),(kq n l.toArray).foldl (· ++ ·) a.toArray=(a++(kq n l).flatten).toArray:=λn=>by
  induction n with
  |zero=>intro a;simp
  |succ n B=>
   intro a;rw[wc,List.foldl_cons,wc,wh,<- vj];let e:a.toArray++l.toArray=(a++l).toArray:=by simp
   rw[e];exact B (a++l)
 let z:=j n []
 simpa using z
inductive TK(x y:V)(H:Hp)(Q:VK):Prop
 |mk (l:List Nat) (n:Int) (e:x=.str (tx l)) (e':y=.int n) (a:1<=n) (b:n<=1000) (s:l.length<=1000) (q:Q (.str (tx (kq n.toNat l).flatten)) H)
def M0{X:Cx}:Ko X (jD .Mult) TK:=by
 intro P s W H x y v u Q M C N h;let[l,n,rfl,rfl,T,B,L,q]:=h;let[t,rfl]:=C;let[R,rfl]:=N;let O:(tx l).length=l.length:=Gm l;let j:l.length*n.toNat<=1000*1000:=Nat.mul_le_mul L Z;refine PySem.P.mul_str ?_ (λa a=>?_) (λa a=>?_) ?_
 .rw[eZ Z,eZ Z];rfl
 .rw[O]
  let:(1000:Int)<=(2^63-1)/n:=Int.le_ediv_of_mul_le Z Z
  lia
 .rw[O]
  unfold Builtin.Str.tooLong;simp only[mR];let:=ck
  lia
 .rw[eQ Z]
  by_cases c:(n==1||(tx l).length==0)=eP
  .rw[eR c]
   refine[.str (tx (kq n.toNat l).flatten),H,M,[t,?_],q];let e:(kq n.toNat l).flatten=l:=by
    rcases (pS _ _).mp c with z|z
    .have F:n=1:=by simpa using z
     subst F;simp
    .have F:l=[]:=by
      rw[O]at z;exact pN (by simpa using z)
     subst F;simp
   rw[e]
  .rw[eQ c]
   refine[?_,.str (tx (kq n.toNat l).flatten),H,M.tok _,[s.toks,?_],q]
   .have e:=U0 l n.toNat
    show([(kq n.toNat (tx l).cps).foldl (· ++ ·) #v[]]:eU).length<=sizeLine;unfold tx;rw[e];let S:([((kq n.toNat l).flatten).toArray]:eU)=tx (kq n.toNat l).flatten:=rfl;rw[S,Gm,LX,ck,Nat.mul_comm]
    lia
   .show kB [(kq n.toNat (tx l).cps).foldl (· ++ ·) #v[]] _=kB (tx _) _
    let e:=U0 l n.toNat;unfold tx at *;rw[e]
structure DF(P:eY)(w:fF)(K:a')(mg:eU->Option eJ)(base:fK)(k:Nat)(x:eU)(C:J)(ps:List eU)(dvs:List V)(sp:Sp):Prop where
 ex:∃f fd ds,Mk K C f/\Bp P w K mg base Fv k f fd ps sp/\Hi K fd ps ds/\Ap dvs ds/\mg x=g (.ref C)
def CK{X:Cx}{k:Nat}{x:eU}{C:J}{ps:List eU}{sp:Sp}{e:gK}{es:List gK}{p N:nA}{t:TA}(M:DF X.prog X.w X.K X.mg X.base k x C ps c sp)(R:Bv (k+1) X.A)(H:Gl X x)(S:PA X (e::es) t)
  (j:(x==("__debug__" : eU))=eM:=by lk) (P:eX (e::es) X.env=(eM,gC e X.env)::eX es X.env:=by rfl) (O:(gH N (eX es X.env)).any (·.1)=eM:=by rfl) :
  PE X (.Call (.Name x p) (e::es) [] N) (B0 C sp c E0 t):=by
 let[f,W,T,Q,F,b,L,B]:=M.ex;exact T7 Q F R H B b L Mv S j P O
end L2
namespace L2
open PySem PySem.Spec PyProof.Rows PySem.W
section
variable {X:Cx} {pins:List (J×gS)} {σ:St} {H:Hp} {s:eO}
def Ak.trackN{a:J}{o:HO}(M:Ak X pins σ H s)(P:Hs X pins H a)(O:Cf X.prog X.w (upd H a o) s.heap a o):Ak X pins σ (upd H a o) s:=by
 let[B,S,_,R,C,T]:=P;let j:∀b u,H b=g u->b≠a:=λb u e z=>by rw[z,B]at e;cases e
 refine M.step (h':=s.heap) (g':=s.gens) (d':=s.drawn) (t':=s.toks) (ch:=#[a]) (λb F=>?_) (λb o x x x e x=>e) (λb o x x x e x=>[o.slots,e]) (λb o L e n=>?_) (λb o x e=>[o,e])
  (λb Q e=>by rw[Aj (j _ _ e)];exact e) (λb W u e=>by rw[Aj (j _ _ e)];exact e) (λb A e=>[#v[],by rw[Aj (j _ _ e),e];simp]) (λm N=>N) (λb u e=>?_) M.bare
 .have e:b=a:=by simpa using F
  subst e;exact[R,S,C,T]
 .rw[Aj (λz=>L (by simp[z]))]
  exact n
 .by_cases F:b=a
  .subst F
   rw[Ab]at e;cases e;exact O
  .rw[Aj F]at e
   exact(M.hok b u e).stay (λx x x q=>q) (λc q=>by rw[Aj (j _ _ q)];exact q) λc Q q=>by rw[Aj (j _ _ q)];exact q
def Ak.unpin{p:J×gS}(B:Ak X (p::pins) σ H s):Ak X pins σ H s:=
 B.pins_of λq j=>B.pin q (mu _ (e_ _ j))
def Ak.pin1(B:Ak X pins σ H s){a:J}(e:s.heap.get? a=g b)(C:H a=U)(F:a≠X.env.locals)(L:a∉X.fs)(j:∀v,b.data≠.cell v):Ak X ((a,b)::pins) σ H s:=
 B.pins_of λq S=>by
  rcases cr.mp S with z|z
  .subst z;exact[e,C,F,L,j]
  .exact B.pin q (mu _ z)
def LK{P}{w}{K}{mg:eU->Option eJ}{W}{A}{outer}{s}{H}{f M}{name qual}{j}{T}{scope}{c O}{N ps}
  {vs} {us} {Q} {t} (S:Bg N ps scope) (d:Bv 1 A) (E:dC P w K mg W A outer s H) (p:s.heap.get? f=g (pZ name qual j T scope [] c M O)) (aa:s.heap.CodeRec (.ref M) qual)
  (i:nY (kla_fn name qual j T scope [] c (.ref M) O) [us,[]]=pure (ps.zip us)) (r:Ap vs us) (h:vs.length=ps.length)
  (F:PE (Hb Fv P w K mg W N qual scope f (.ref M) A outer s H E0).nox T t) (q:t (Eh N vs) H Q) :
  jI (fC P w) A (.call (.ref f) [us,[]]) (CR Fv outer P w H s Q E0) s:=by
 let C:s.heap.NoLimit:=E.mod.nolimit.keeps λb o e=>(E.bs b o e).1;let L:∀y∈ps.zip us,scope.names.lookup y.1=g .local\/(scope.names.lookup y.1=g .cell/\((oJ (⇑s+1) scope.names []).lookup y.1).isSome=eP):=λ⟨n,v⟩ hy=>by
  rcases S.par n (wj hy).1 with q|q
  .exact .inl q
  .exact .inr [q,wR _ _ _ (.inl q)]
 refine kla_callFunE d.depth p I S.co S.gen I aa ?_;rw[i];refine b_ ?_;refine lE S.kind L λa0 he k x=>?_;subst he;refine[C.keeps x.toInCall.keep,kla_codeExpr ?_];let B:Ak (Hb Fv P w K mg W N qual scope f (.ref M) A outer s H E0) [] (Eh N vs) H k:=Ou S d.hd E h r x;refine gI (F [] k (Eh N vs) H Q (B.wish _) q) (λu m h9=>?_) λe m l=>(l:False).elim;let[v,z,R,a,q']:=h9;exact[v,z,R.os,R.bare,R.base,R.hok,a,q']
def Jp(c:J)(qual:eU):fK->Prop:=λh=>h.CodeRec (.ref c) qual
def LamAt(T:J)(B:nA)(qual:eU)(H:Hp):Prop:=H T=g (.tbl #v[])\/∃c,H T=g (.tbl #v[fY B.line,fY B.col,.ref c])/\H c=g (.ext (Jp c qual))
def BI(mg:eU->Option eJ)(B:fK):Prop:=∃L C,mg "__builtins__"=g (.ref L)/\L≠pK/\B.get? L=g C/\C.cls=.type "module"/\C.dict=g pK/\C.data=.plain
def AQ{c:J}{qual:eU}(C B:fK)(x:Jp c qual C)(k:∀o,C.get? c=g o->B.get? c=g o):Jp c qual B:=by
 let[F,o,L,t,e,j,r]:=x;cases e;exact[c,o,L,t,I,k o j,r]
def FS{c T:J}{qual:eU}{n:Nat}{A:fL}{E:eJ->eO->Prop}{Q:eJ->eO->Prop}(B:Ak X pins σ H s)(N:X.env.code=.ref c)(C:CodeHd X.base c T)(ab:sS scope X.env=pure [])(L:LamAt T k qual H)(F:BI X.mg X.base)
  (h:∀(f P:J) (pm j:eJ) (h':fK) (tk:Nat) (H':Hp),Ak X pins σ H' { s with heap:=h',toks:=tk }->(∀b o,H b=g o->b≠T->H' b=g o)->(∀b,b<⇑s->H b=U->H' b=U) ->
   H' T=g (.tbl #v[fY k.line,fY k.col,.ref P])->H' P=g (.ext (Jp P qual))->Hs X pins H' f ->
   h'.get? f=g (pZ "<lambda>" qual params body scope [] pm P j)->Q (.ref f) { s with heap:=h',toks:=tk }) :
  eV (fC X.prog X.w) A (makeFunction "<lambda>" qual params (.expr body) scope X.env [] [] [] k n) Q E s:=by
 let[x,ob,b1,b2,p,b4,b5,b6]:=F;let ht:∃w,H T=g (.tbl w):=by
  rcases L with L|⟨P,L,_⟩
  .exact[_,L]
  .exact[_,L]
 let[ao,ai]:=ht;let aa:∀b o,X.base.get? b=g o->b≠T:=λb o e z=>by
  let:=(B.bs b o e).2;rw[z,ai]at this;cases this
 let ag:=B.mod.glob.keeps B.bk;let ak:fr≠T:=by
  let[o,es,ep,e,_]:=B.mod.glob;exact aa _ _ e
 let am:x≠fr:=λq=>by
  let[o,es,ep,e,i,_]:=B.mod.glob;rw[q,e]at p;cases p;rw[i]at b6;cases b6
 let BA:s.heap.BuiltinsAt X.mg T:=[x,ob,b1,b2,am,aa _ _ p,B.bk _ _ p,b4,b5,b6];rcases L with L|⟨P,L,Lc⟩
 .have m:s.heap.get? T=g (tabObj #v[]):=B.hok T _ L
  refine kla_makeFunction (mg:=X.mg) ab B.ok.glob ag N (C.keeps B.bk) m (by exact hV) (by rfl) ak BA λP j h' tk hx M ah ac an=>?_;let aj:H P=U:=B.hok.fresh M;let nT:∀b,H b=U->b≠T:=λb n z=>by rw[z,L]at n;cases n
  let nc:∀b,b<⇑s->b≠P:=λb l z=>fA (k_ l M) (by rw[z];exact nS _);let S:∀b u,H b=g u->b≠P:=λb u e z=>by rw[z,aj]at e;cases e
  let cT:P≠T:=(S T _ L).symm;let R:∀b o,b≠T->s.heap.get? b=g o->(h'.push (pZ "<lambda>" qual params body scope [] ((X.mg "__name__").getD .none) P j)).get? b=g o:=λb o F e=>dv _ (hx b o F e);let ae:(h'.push (pZ "<lambda>" qual params body scope [] ((X.mg "__name__").getD .none) P j)).get? T=g (tabObj #v[fY k.line,fY k.col,.ref P]):=dv _ (by simpa using an);let u:Un X.fs [] H (upd (upd H T (.tbl #v[fY k.line,fY k.col,.ref P])) P (.ext (Jp P qual))) s.heap (h'.push (pZ "<lambda>" qual params body scope [] ((X.mg "__name__").getD .none) P j)):=by
   let af:∀b u,H b=g u->(∀w,u≠.tbl w)->upd (upd H T (.tbl #v[fY k.line,fY k.col,.ref P])) P (.ext (Jp P qual)) b=g u:=λb u e n=>by
    rw[Aj (S b u e),Aj (λz=>by rw[z,L]at e;cases e;exact n _ I)];exact e
   refine[λb o e n _ _=>R b o (nT b n) e,λb o e n _ _=>[o.slots,R b o (nT b n) e],λb o e n _=>?_,λb o e _=>?_,λb xs e=>af b _ e (λ_ z=>by cases z),λb o u e=>af b _ e (λ_ z=>by cases z),λb w e=>?_]
   .rw[Aj (nc b (dn e)),Aj (nT b n)]
    exact n
   .by_cases F:b=T
    .rw[F];exact[_,ae]
    .exact[o,R b o F e]
   .by_cases F:b=T
    .subst F
     rw[L]at e;cases e;exact[#v[fY k.line,fY k.col,.ref P],by rw[Aj cT.symm,Ab];simp]
    .exact[#v[],by rw[Aj (S b _ e),Aj F,e];simp]
  let al:cJ X.prog X.w (upd (upd H T (.tbl #v[fY k.line,fY k.col,.ref P])) P (.ext (Jp P qual))) (h'.push (pZ "<lambda>" qual params body scope [] ((X.mg "__name__").getD .none) P j)):=λb o e=>by
   by_cases F:b=P
   .subst F
    rw[Ab]at e;cases e;let[c2,a,vs,t,e2,ad,r]:=ac;cases e2;exact[[b,a,vs,t,I,dv _ ad,r],[a,dv _ ad],λh1 h2=>AQ h1 h2]
   .rw[Aj F]at e
    by_cases O:b=T
    .subst O
     rw[Ab]at e;cases e;exact ae
    .rw[Aj O]at e
     refine(B.hok b o e).stay (λd v i q=>R d v ?_ q) (λd q=>?_) λd xs q=>?_
     .rcases i with z|z
      .rw[z];exact O
      .intro y
       rw[y,L]at z;cases z
     .rw[Aj (S d _ q),Aj (λz=>by rw[z,L]at q;cases q)]
      exact q
     .rw[Aj (S d _ q),Aj (λz=>by rw[z,L]at q;cases q)]
      exact q
  let W:⇑s<=h'.objs.size:=uu (vz M ah);let K:H h'.objs.size=U:=B.hok.fresh W;let ff:upd (upd H T (.tbl #v[fY k.line,fY k.col,.ref P])) P (.ext (Jp P qual)) h'.objs.size=U:=by
   rw[Aj (ny ah),Aj (nT _ K)];exact K
  refine h h'.objs.size P _ j _ tk _ (B.un (t':=tk) u al) (λb o e F=>?_) (λb l n=>?_) (by rw[Aj cT.symm,Ab]) Ab (B.fpOk W ff) (h_ _ I)
  .rw[Aj (S b _ e),Aj F]
   exact e
  .rw[Aj (nc b l),Aj (nT b n)]
   exact n
 .have m:s.heap.get? T=g (tabObj #v[fY k.line,fY k.col,.ref P]):=B.hok T _ L
  refine kla_makeFunctionHit (mg:=X.mg) (cv:=.ref P) ab B.ok.glob ag N (C.keeps B.bk) m (by simp[TriplesOk,fY]) (by simp[codeAmong,fY]) BA λj h' tk hk W=>?_;let K:H h'.objs.size=U:=B.hok.fresh W;refine h h'.objs.size P _ j _ tk H (B.kept (t':=tk) λb u e=>dv _ (hk b u e)) (λb o e _=>e) (λb _ n=>n) L Lc (B.fpOk W K) (h_ _ I)
end
section
variable {prog:eY} {w:fF} {A:fL} {E:eJ->eO->Prop} {s:eO}
theorem FV:∀{ks vs:List eJ},ks.length=vs.length->vs.length<2->((ks.toArray.zip vs.toArray).map (·.2))=(Hy vs (kw vs.length).toArray).toArray
 |[],[],_,_=>by
  apply wQ.mp;simp[Hy]
 |#[k],#[v],_,_=>by
  apply wQ.mp;simp[Hy]
 |[],_::_,h,_=>by simp at h
 |_::_,[],h,_=>by simp at h
 |_::_::_,#[_],h,_=>by simp at h
 |_,_::_::_,_,h=>fA h zZ
def V0{a L:J}{ks vs:List eJ}{n H:Nat}{p:Array Nat}{st:SortSt}{P:rH->eO->Prop}(M:s.heap.get? L=g (fU "list" ks.toArray n))(N:s.heap.get? a=g (fU "list" #v[] H))(O:L≠a)
  (B:ks.length<64) (C:vs.length<64) (Q:CRS.Pm vs.length p) (S:(arrOf st).map (·.2)=(Hy vs p).toArray) (R:failedOf st=U)
  (h:P (.done (.ret .none)) { s with heap:=(s.heap.update L (fJ λx=>(#v[]:Array eJ))).update a (fJ λx=>(Hy vs p).toArray) }) :
  eV (fC prog w) A (ksk_tail a eM H (.ref L) st) P E s:=by
 let j:∀k:Nat,k<64->k<=sizeLine:=λk M=>by rw[ck];lia
 let F:(s.heap.update L (fJ λx=>(#v[]:Array eJ))).get? a=g (fU "list" #v[] H):=(wx _ _ _ _ (fQ O)).trans N;unfold ksk_tail
 dsimp only
 rw[S];refine a_ (jG M I ?_ (by rw[dw];exact j _ B) (de _));refine a_ (wpAny_letGo ?_);refine a_ (nU F I ?_);simp only[pz,jP];refine a_ (jG F I ?_ (de _) (by rw[dw,Rc Q];exact pC (j _ C)));rw[R];simp only[qW,pz,jP];exact b_ h
def OP{O:KeyOrd}{key:Nat->O.α}{a T:J}{ks vs:List eJ}{n K:Nat}{P:rH->eO->Prop}(c:s.heap.get? T=g (fU "list" ks.toArray n))(b:s.heap.get? a=g (fU "list" #v[] K))(M:T≠a)
  (X:ks.length=vs.length) (S:vs.length<64) (m:2<=vs.length->CW prog w A ks O key s)
  (h:∀p,CRS.Pm vs.length p->CRS.Up key p vs.length->P (.done (.ret .none)) { s with heap:=(s.heap.update T (fJ λ_=>(#v[]:Array eJ))).update a (fJ λ_=>(Hy vs p).toArray) }) :
  eV (fC prog w) A (ksk_end a eM vs.toArray K (.ref T) ks.toArray) P E s:=by
 let sz:vs.toArray.size=vs.length:=dw ..;unfold ksk_end
 dsimp only
 simp only[pz,jP];by_cases L:vs.toArray.size<2
 .rw[eR L,eR L]
  refine a_ (b_ ?_);rw[vO];refine a_ (b_ ?_);refine V0 (p:=(kw vs.length).toArray) c b M Z S (kA _) (FV X Z) I (h _ (kA _) λi j ae f=>?_);rw[show i=j by lia];exact gZ _
 .rw[eQ L,eQ L]
  let B:2<=vs.length:=by lia
  let[k,z,v]:=m B;refine a_ (z _ _ ?_);let H:(kas_sort vs.length).kasWp (kas_ask prog w A k ks) (λp N=>N=s/\CRS.Pm vs.length p/\CRS.Up key p vs.length) s:=
   CRS.run_wp (lt:=CRS.ltK key) (V:=λi=>i<vs.length) (λi j C hi f x=>v i j Z Z C x) (λp R=>[I,R]) _ (CRS.run_sort Z λp y d=>[y,d])
  refine a_ (gI (kat_run (ks:=ks) (vs:=vs) (Q:=λF N=>N=s/\failedOf F=U/\∃p,CRS.Pm vs.length p/\CRS.Up key p vs.length/\(arrOf F).map (·.2)=(Hy vs p).toArray)
   X B S (λp F N _ o W ⟨q,u,l⟩=>[q,W,p,u,l,kat_snds X o]) H) ?_ λ_ _ e=>e)
  rintro ⟨⟨⟩,F⟩ N ⟨rfl,W,p,R,r,t⟩;exact V0 c b M Z S R t W (h p R r)
end
def dH(K:a')(H:Hp):List V->List (List Int)->Prop
 |[],[]=>True
 |y::C,r::B=>(∃(t:J) (d k n:Int) (v:V),y=.ref t/\Bh K H t #[.int d,.int k,.int n,v]/\r=#[d,k,n])/\dH K H C B
 |_,_=>False
theorem dH.len{K}{H}:∀{ys} {B:List (List Int)},dH K H ys B->ys.length=B.length
 |[],[],_=>rfl
 |[],_::_,z=>z.elim
 |_::_,[],z=>z.elim
 |v::C,r::B,z=>by rw[c_,c_,z.2.len]
theorem dH.get{K}{H}:∀{ys} {B:List (List Int)} {i:Nat} {y},dH K H ys B->ys[i]?=g y->∃(t:J) (d k n:Int) (v:V),y=.ref t/\Bh K H t #[.int d,.int k,.int n,v]/\B[i]?=g #[d,k,n]
 |[],[],_,_,_,e=>by simp at e
 |[],_::_,_,_,z,_=>z.elim
 |_::_,[],_,_,z,_=>z.elim
 |y::ys,r::B,0,z,[[t,d,k,n,v,e,h,F],_],q=>by
  simp at q;subst q;exact[t,d,k,n,v,e,h,by rw[F];rfl]
 |y::ys,r::B,i+1,z,[_,q],e=>by
  let[t,d,k,n,v,C,L,j]:=q.get (i:=i) (by simpa using e);exact[t,d,k,n,v,C,L,by simpa using j]
theorem cR.app{K}{H}{k:Nat}{t}{r:List Int}(h:Bh K H t (r.map V.int))(l:r.length=k):∀{ys} {B:List (List Int)},cR K H k ys B->cR K H k (ys++#[.ref t]) (B++#[r])
 |[],[],_=>[[t,I,h,l],trivial]
 |[],_::_,z=>z.elim
 |_::_,[],z=>z.elim
 |y::ys,q::B,[z,j]=>[z,cR.app h l j]
theorem cR.mono{K}{H H'}{k:Nat}(s:∀t xs,Bh K H t xs->Bh K H' t xs):∀{ys} {B:List (List Int)},cR K H k ys B->cR K H' k ys B
 |[],[],_=>trivial
 |[],_::_,z=>z.elim
 |_::_,[],z=>z.elim
 |y::ys,q::B,[[t,e,h,l],j]=>[[t,e,s _ _ h,l],cR.mono s j]
theorem cR.len{K}{H}{k:Nat}:∀{ys} {B:List (List Int)},cR K H k ys B->ys.length=B.length
 |[],[],_=>rfl
 |[],_::_,z=>z.elim
 |_::_,[],z=>z.elim
 |y::ys,q::B,z=>by rw[c_,c_,z.2.len]
def LO{K}{H}{l}{xs ys}(C:H l=g (.lst xs)):∀t B,Bh K H t B->Bh K (upd H l (.lst ys)) t B:=λt B h=>by
 rcases h with (h|⟨o,h⟩)|h
 .exact .inl (.inl (by rw[Aj (λz=>by rw[z,C]at h;cases h)];exact h))
 .exact .inl (.inr [o,by rw[Aj (λz=>by rw[z,C]at h;cases h)];exact h])
 .exact .inr h
def C5{K}{H H'}(s:∀b o,H b=g o->H' b=g o):∀t B,Bh K H t B->Bh K H' t B:=λt B h=>by
 rcases h with (h|⟨o,h⟩)|h
 .exact .inl (.inl (s _ _ h))
 .exact .inl (.inr [o,s _ _ h])
 .exact .inr h
section
variable {X:Cx} {pins:List (J×gS)} {σ:St} {H:Hp} {s:eO}
def OC(X:Cx)(qual:eU)(B:Arguments)(C:gK)(scope:kU):Prop:=Bg #["entry"] #["entry"] scope /\
 (∀(O:eJ) (N:J) (M u:eJ),nY (kla_fn "<lambda>" qual B C scope [] O (.ref N) M) [#[u],[]]=pure #[(("entry" : eU),u)]) /\
 ∀(A:fL) (L:List mB) (s:eO) (H:Hp) (f N:J),PE (Hb Fv X.prog X.w X.K X.mg X.base #["entry"] qual scope f (.ref N) A L s H E0).nox C (YH (FW X.K) (GE 0) Qm (W9 (tC (.int 3))))
def KG{f P:J}{qual:eU}{L:Arguments}{M:gK}{scope:kU}{b T:eJ}{A:fL}{t:J}{d k n:Int}{v:V}{E:eJ->eO->Prop}{R:eJ->eO->Prop}(B:OC X qual L M scope)(o:A.frames=g X.stack)(w:Bv 1 A)
  (C:Ak X pins σ H s) (q:s.heap.get? f=g (pZ "<lambda>" qual L M scope [] b P T)) (m:H P=g (.ext (Jp P qual))) (z:Bh X.K H t #[.int d,.int k,.int n,v])
  (h:∀p s',Ak X pins σ (upd H p (.tup #[.int d,.int k,.int n])) s'->H p=U->R (.ref p) s'):eV (fC X.prog X.w) A (call (.ref f) #[.ref t]) R E s:=by
 let[S,bd,i]:=B;let O:=C.env0;let a:dC X.prog X.w X.K X.mg X.base A X.stack s H:=[o,O.mod,O.bs,O.bsz,O.funs,O.frf,O.hok,O.bare];let j:s.heap.CodeRec (.ref P) qual:=(C.hok P _ m).1;refine iE (hJ (LK (vs:=#[.ref t]) (us:=#[.ref t]) (ps:=#["entry"]) (N:=#["entry"]) (Q:=λx K=>∃p,x=.ref p/\H p=U/\K=upd H p (.tup #[.int d,.int k,.int n])) S w a q j (bd b P T _) (.cons I .nil) I (i A X.stack s H f P) ?_) λr s' W=>?_)
 .refine[_,I,_,I,t,_,I,z,by show ¬(HT.sIx 4 0 U=0/\HT.sIx 4 4 (g 3)=4);decide,λp F=>[p,I,F,I]]
 .cases r with
  |error e=>exact fS W
  |ok c=>
   cases c with
   |ret u=>
    let[x,K,l,y,p,rfl,F,rfl]:=C.after W;cases y;exact h p s' l F
   |next=>exact fS W
   |brk=>exact fS W
   |cont=>exact fS W
def NR(K:a')(T:J)(B:nA)(qual:eU)(P:TE):TE:=λσ H Q=>P σ H λx L=>∃l C N,x=.ref l/\Am K L l C/\dH K L C N/\C.length<64/\LamAt T B qual L /\
 ∀(p:Array Nat) (a:J) (M:Hp),L a=U->(∀b o,L b=g o->b≠T->M b=g o)->LamAt T B qual M->CRS.Pm C.length p->CRS.Up (O:=cS) (λi=>N.getD i []) p C.length->M a=g (.lst (p.toList.map λi=>C.getD i .non))->Q (.ref a) M
theorem dH.mono{K}{H H'}(s:∀t xs,Bh K H t xs->Bh K H' t xs):∀{ys} {B:List (List Int)},dH K H ys B->dH K H' ys B
 |[],[],_=>trivial
 |[],_::_,z=>z.elim
 |_::_,[],z=>z.elim
 |y::ys,q::B,[[t,d,k,n,v,e,h,l],j]=>[[t,d,k,n,v,e,s _ _ h,l],j.mono s]
end
def DO(T:J)(H:Hp):Prop:=H T=g (.tbl #v[])/\∀b,b≠T->H b=U\/∃o B,H b=g (.frz o (.lst B))
def Y6{P}{w}{K}{mg p:eU->Option eJ}{CX}{k:Nat}{f a c T}{fd}{x}{sp}{N}{vs}{ns:List Int}
  (KX:K.In N.heap) (ai:N.heap.Ns fr mg) (j:N.heap.Ns pK p) (al:∀x:eU,x ≠ "__name__"->p x=fz x) (ae:N.heap.NoLimit) (hg:N.gens = #v[])
  (A:N.heap.get? a=g { cls:=.type "list",data:=.seq vs.toArray }) (hi:iP vs ns) (hl:ns.length<=sizeLine) (hr:Bv k qB) (hT:N.heap.get? T=g (tabObj #v[])) (y:K.lookup T=U) (a0:codeHdIn K c T=eP) (bi:BI mg N.heap)
  (F:∀O:fK,K.In O->O.Ns fr mg->BI mg O->Bp P w K mg O CX k f fd #[x] sp) (W:∀(s:eO) (u:eJ),qI s fd [#[u],[]] #[(x,u)])
  (i:∀H:Hp,DO T H->Am K H a (ns.map V.int)->sp #[.ref a] H (λv _=>v=.bl eP) λ_ _ _=>False)
  (a1:∀H e s',CX [] H N (λ_ _ _=>False) e s'->False) :
  jI (fC P w) qB (.call (.ref f) [#[.ref a],[]]) (λr s'=>r=.ok (.ret (.bool eP))/\OldK N.heap s'.heap/\s'.os=N.os/\kL s'.gens) N:=by
 let rv:=Uw hi;let aj:=hi.length;let af:a≠T:=λz=>by rw[z,hT]at A;cases A
 let aa:∀H:Hp,DO T H->Am K H a (ns.map V.int)->cJ P w H N.heap->(∀b,H b≠U->b=a\/b=T)->(H a≠U->K.lookup a=U) ->
   jI (fC P w) qB (.call (.ref f) [#[.ref a],[]]) (λr s'=>r=.ok (.ret (.bool eP))/\OldK N.heap s'.heap/\s'.os=N.os/\kL s'.gens) N:=by
  intro H l hS ad hA hK;let L:∀{b:J} {o:gS},N.heap.get? b=g o->H b=U->(Tk N.heap H).get? b=g o:=λe n=>BX e n;let ac:∀{b:J} {o:gS},N.heap.get? b=g o->(∀E n,o.data≠.seq E n)->(∀E,o.data≠.fields E)->H b=U:=λ{b o} e d1 d2=>by
   cases q:H b with
   |none=>rfl
   |some u=>
    rcases hA b (by rw[q];simp)with X|X
    .subst X
     rw[A]at e;cases e;exact fA I (d1 _ _)
    .subst X
     rw[hT]at e;cases e;exact fA I (d2 _)
  let M:∀{b:J} {m:eU->Option eJ},N.heap.Ns b m->(Tk N.heap H).Ns b m:=λ{b m} ⟨o,es,ep,e,d,r⟩=>[o,es,ep,L e (ac e (λ_ _ z=>by rw[d]at z;cases z) (λ_ z=>by rw[d]at z;cases z)),d,r];let ah:K.In (Tk N.heap H):=λb o e=>L (KX b o e) (by
   cases q:H b with
   |none=>rfl
   |some u=>
    rcases hA b (by rw[q];simp)with X|X
    .subst X
     rw[hK (by rw[q];simp)]at e;cases e
    .subst X
     rw[y]at e;cases e)
  let hM:Mod K mg (Tk N.heap H):=[ah,M ai,[p,M j,al],let [mc,h1,h2]:=ae;[mc,M h1,h2]];let ak:BI mg (Tk N.heap H):=by
   let[bm,ob,b1,b2,b3,b4,b5,b6]:=bi;exact[bm,ob,b1,b2,L b3 (ac b3 (λ_ _ z=>by rw[b6]at z;cases z) (λ_ z=>by rw[b6]at z;cases z)),b4,b5,b6]
  let e0:dC P w K mg (Tk N.heap H) qB [] N H:=[I,hM,λb o e=>LG e,tL (AR _ _),trivial,λb j=>fA (show b∈([]:List J) from j) zZ,ad,.of_eq hg];refine hJ ((F _ ah (M ai) ak).run qB [] N H [#[.ref a],[]] #[.ref a] #[.ref a] _ _ hr e0 (W N (.ref a)) (.cons I .nil) (i H l hS)) λr s' h=>?_;cases r with
  |error e=>exact(a1 H e s' h).elim
  |ok fl=>
   cases fl with
   |next=>exact fS h
   |brk=>exact fS h
   |cont=>exact fS h
   |ret u=>
    let[v,H',os,ab,t,C,r',q]:=h;let q':v=.bl eP:=q;subst q';obtain rfl:u=qD eP:=r';let[Q,am]:=t.tbls T _ l.1;let ag:s'.heap.get? T=g { cls:=.none,data:=.fields (#v[]++Q) }:=C T _ am;let R:∀b o,b≠T->N.heap.get? b=g o->s'.heap.get? b=g o:=λb o nb e=>by
     cases q:H b with
     |none=>exact t.keep b o e q (by intro z;exact fA (show b∈([]:List J) from z) zZ) zZ
     |some u=>
      rcases l.2 b nb with z|⟨ob,E,z⟩
      .rw[q]at z;cases z
      .have z2:=t.frzs b ob _ z
       let[e1,_]:=ad b _ z;let[e2,_]:=C b _ z2;rw[e]at e1;cases e1;exact e2
    let ct:isCodeTable N.heap T:=((codeHd_of_K KX a0).tab hT).isCodeTable;refine[I,[λb o e=>?_,λb o e=>?_],os,ab]
    .by_cases j:b=T
     .subst j
      rw[hT]at e;cases e;exact .inr (.inl [ct,I,#v[],Q,I,ag])
     .exact .inl (R b o j e)
    .by_cases j:b=T
     .subst j
      exact[_,ag]
     .exact[o,R b o j e]
 cases hk:K.lookup a with
 |some o=>
  let e:=KX a o hk;rw[A]at e;cases e;refine aa (λb=>if b=T then g (.tbl #v[]) else U) [eR I,λb j=>.inl (eQ j)] (.inr [_,vs.toArray,_,hk,I,I,I,by rw[dw,aj];exact hl,by simpa using rv]) (λb u z=>?_) (λb z=>?_) λz=>fA (eQ af) z
  .by_cases j:b=T
   .have B:=(eR j).symm.trans z
    cases B
    subst j;exact hT
   .have B:=(eQ j).symm.trans z
    cases B
  .by_cases j:b=T
   .exact .inr j
   .exact fA (eQ j) z
 |none=>
  refine aa (λb=>if b=T then g (.tbl #v[]) else if b=a then g (.frz { cls:=.type "list",data:=.seq vs.toArray } (.lst (ns.map V.int))) else U) [eR I,λb j=>?_] (.inl (.inr [{ cls:=.type "list",data:=.seq vs.toArray },(eQ af).trans (eR I)])) (λb u z=>?_) (λb z=>?_) λ_=>hk
  .by_cases S:b=a
   .exact .inr [_,_,(eQ j).trans (eR S)]
   .exact .inl ((eQ j).trans (eQ S))
  .by_cases j:b=T
   .have B:=(eR j).symm.trans z
    cases B
    subst j;exact hT
   .have z1:=(eQ j).symm.trans z
    by_cases S:b=a
    .have B:=(eR S).symm.trans z1
     cases B
     subst S;exact[A,by rw[cn];exact hl,vs,_,rv,A]
    .have B:=(eQ S).symm.trans z1
     cases B
  .by_cases j:b=T
   .exact .inr j
   .by_cases S:b=a
    .exact .inl S
    .exact fA ((eQ j).trans (eQ S)) z
def walk_ofT{l:pA}{n k:Nat}{q:eY}{S:List eU}{XP:(eU->Option eJ)->fK->Prop}{Q:fF->fK->Prop}{d:DefRec}{K:Params->a'}{CX:fF->IF}{sp:fF->Sp}{x:eU}{c T:J}
  (A:l.most=g n) (af:n<=sizeLine) (ab:d.params.defaults=[]) (p:Bv k qB)
  (y:∀(w:fF) (h:fK),Q w h->(K w.params).In h) (aa:∀(w:fF) (h:fK),Q w h->h.get? T=g (tabObj #v[])) (i:∀w:fF,(K w.params).lookup T=U) (t:∀w:fF,codeHdIn (K w.params) c T=eP)
  (F:∀(w:fF) (mg:eU->Option eJ) (B:J) (h:fK),(K w.params).In h->h.Ns fr mg->mg d.name=g (.ref B) ->
   ∃R:m_,(∀(s:eO) (u:eJ),qI s R [#[u],[]] #[(x,u)]) /\
    ∀O:fK,(K w.params).In O->O.Ns fr mg->BI mg O->Bp l.prog w (K w.params) mg O (CX w) k B R #[x] (sp w))
  (r:∀(w:fF) (H:Hp) (a:J) (ns:List Int),ns.length<=n->DO T H->Am (K w.params) H a (ns.map V.int)->sp w #[.ref a] H (λv _=>v=.bl eP) λ_ _ _=>False)
  (ad:∀(w:fF) (H:Hp) (s:eO) (e:eJ) (s':eO),CX w [] H s (λ_ _ _=>False) e s'->False) :
  wE q S XP Q l.row.toRowW d [] (λf vs=>uI f vs):=by
 refine Att.attach_call A ab λw W P mg mb B o pm cd ai a vs ns N M ho hd aj m C L j b=>?_;let X:=y w _ M;let[R,z,hF]:=F w mg B _ X N.T.g m;exact Y6 X N.T.g N.T.b N.T.builtins N.T.nolimit b C L (fO j af) p (aa w _ M) (i w) (t w) N.T.bmain hF z (λH E hS=>r w H a ns j E hS) λH e s'=>ad w H P e s'
def cF.okC{P}{w}{K}{mg:eU->Option eJ}{O}{x qual}{st}{f c}{W}{N ps}{k:Nat}{sp}(F:cF K x qual st f W)(M:W.code=.ref c)(S:Bg N ps (Ao st))(T:∀vs H Q E,sp vs H Q E->vs.length=ps.length)
  (j:∀(A:fL) (outer:List mB) (s:eO) (H:Hp) (vs:List V) (Q:VK) (E:XK),Bv k (A.deeper (iI qual (Ao st) ⇑s f (.ref c)))->sp vs H Q E ->
   ∃t,PSs (Hb Fv P w K mg O N qual (Ao st) f (.ref c) A outer s H E).nox (Bw st) t/\t { nx:=λy H'=>Q .non H',rt:=Q } (Eh N vs) H):Bp P w K mg O Fv (k+1) f W ps sp:=by
 let[d,p,kV,B,b,l,R,r,o,rfl,lk,L]:=F.ex;obtain rfl:R=.ref c:=M;refine Yq lk L S T λA outer s H vs Q E X C=>?_;let[t,h,q]:=j A outer s H vs Q E X C;exact[t,h.nox,q]
def Uz{X:Cx}{k:Nat}{x:eU}{C:J}{ps:List eU}{sp:Sp}{p B:nA}(M:FQ X.prog X.w X.K X.mg X.base k x C ps sp)(N:Bv (k+1) X.A)(L:Gl X x)(j:(x==("__debug__" : eU))=eM:=by lk) :
  PE X (.Call (.Name x p) [] [] B) (B0 C sp [] E0 F8):=by
 let[f,O,H,F,b,S]:=M.ex;exact HV H F N L S b .nil Mv j
def VF{X:Cx}{qual:eU}{j:Nat}(S:Bg #["entry"] #["entry"] scope)
  (bd:∀(B:eJ) (L:J) (F u:eJ),nY (kla_fn "<lambda>" qual params (.Subscript (.Name "entry" c) (.Slice U (g (.Constant (.int 3) j k)) U d) b) scope [] B (.ref L) F) [#[u],[]]=pure #[(("entry" : eU),u)]) :
  OC X qual params (.Subscript (.Name "entry" c) (.Slice U (g (.Constant (.int 3) j k)) U d) b) scope:=by
 refine[S,bd,λA C s H f L=>Ee FM (pv 0 I ?_) Ey (Eu Ae)];rcases S.par "entry" zZ with h|h
 .exact .inl h
 .exact .inr (.inl h)
end L2
namespace CRL
open PySem L2
def II(H H':Hp):Prop:=∀t B,H t=g (.tup B)->H' t=g (.tup B)
def Bn{H H':Hp}(s:Ag H H'):II H H':=λt B h=>s t _ h
def Ec{l:J}{xs:List V}(h:H l=g (.lst xs))(o:HO):II H (upd H l o):=λt B z=>by
 rw[Aj (Br z h (by intro e;cases e))];exact z
inductive Rw where
 |at (v:V)
 |pr (k:Int) (s:eU)
def aF(H:Hp):Rw->V->Prop
 |.at u,v=>v=u/\Fk u=eP
 |.pr k s,v=>∃t,v=.ref t/\H t=g (.tup #[.int k,.str s])
abbrev bB:=Int×Int×Int×Rw
abbrev Tr:=Int×Int×Int
def ZK(H:Hp)(x:V)(e:bB):Prop:=∃t v,x=.ref t/\H t=g (.tup #[.int e.1,.int e.2.1,.int e.2.2.1,v])/\aF H e.2.2.2 v
def bU(H:Hp):List V->List bB->Prop
 |[],[]=>True
 |x::C,e::B=>ZK H x e/\bU H C B
 |_,_=>False
def WT{n:Nat}{p:Array Nat}(h:CRS.Pm n p):∀i∈p.toList,i<n:=λi B=>by
 let:=(vx.mp h).mem_iff.mp B
 simpa using this
def dB(H:Hp):List V->List Tr->Prop
 |[],[]=>True
 |x::C,p::B=>(∃t,x=.ref t/\H t=g (.tup #[.int p.1,.int p.2.1,.int p.2.2]))/\dB H C B
 |_,_=>False
theorem dB.len:∀{xs} {ps},dB H xs ps->xs.length=ps.length
 |[],[],_=>rfl
 |[],_::_,h=>h.elim
 |_::_,[],h=>h.elim
 |x::xs,p::ps,h=>by rw[c_,c_,dB.len h.2]
theorem dB.mono{H H':Hp}(s:II H H'):∀{xs} {ps},dB H xs ps->dB H' xs ps
 |[],[],_=>trivial
 |[],_::_,h=>h.elim
 |_::_,[],h=>h.elim
 |x::xs,p::ps,[[t,e,h],r]=>[[t,e,s _ _ h],dB.mono s r]
theorem dB.get:∀{xs} {ps} {i:Nat} {x},dB H xs ps->xs[i]?=g x->∃t p,ps[i]?=g p/\x=.ref t/\H t=g (.tup #[.int p.1,.int p.2.1,.int p.2.2])
 |[],[],_,_,_,e=>by simp at e
 |[],_::_,_,_,h,_=>h.elim
 |_::_,[],_,_,h,_=>h.elim
 |x::xs,p::ps,0,y,[[t,e,h],r],q=>by
  simp at q;subst q;exact[t,p,I,e,h]
 |x::xs,p::ps,i+1,y,[_,r],q=>by
  let[t,j,B,F]:=dB.get (i:=i) r (by simpa using q);exact[t,j,by simpa using B,F]
theorem dB.snoc:∀{xs} {ps} {t} {a b c:Int},dB H xs ps->H t=g (.tup #[.int a,.int b,.int c])->dB H (xs++#[.ref t]) (ps++#[(a,b,c)])
 |[],[],t,_,_,_,_,h=>[[t,I,h],trivial]
 |[],_::_,_,_,_,_,r,_=>r.elim
 |_::_,[],_,_,_,_,r,_=>r.elim
 |x::xs,p::ps,_,_,_,_,[z,r],h=>[z,dB.snoc r h]
abbrev Lm:eU:="Days.up_to.<locals>.<lambda>"
def _root_.L2.LamAt.mono{T:J}{qual:eU}{H H':Hp}(h:LamAt T d qual H)(s:∀b o,H b=g o->(∃ps,o=.tbl ps)\/(∃B,o=.ext B)->H' b=g o):LamAt T d qual H':=by
 rcases h with h|⟨c,h,j⟩
 .exact .inl (s _ _ h (.inl [_,I]))
 .exact .inr [c,s _ _ h (.inl [_,I]),s _ _ j (.inr [_,I])]
def _root_.L2.LamAt.same{T:J}{qual:eU}{H H':Hp}(h:LamAt T c qual H)(s:Ag H H'):LamAt T c qual H':=h.mono λb o e x=>s b o e
def _root_.L2.LamAt.ins{T l C B:J}{qual:eU}{L:List (eU×V)}(h:LamAt T c qual H)(e:H l=g (.ins C B L))(o:HO):LamAt T c qual (upd H l o):=h.mono λb u z k=>by
 rw[Aj (λy=>by rw[y,e]at z;cases z;rcases k with ⟨_,k⟩|⟨_,k⟩<;>cases k)];exact z
def Dy(C:J)(H:Hp)(x wl L:J):Prop:=∃B,H x=g (.ins C B #[("waiting",.ref wl),("numbers",.ref L)])
def OW{l n:J}{xs:List V}{kvs:List (Dm×V)}(h:H n=g (.dK kvs))(e:H l=g (.lst xs))(o:HO):upd H l o n=g (.dK kvs):=by
 rw[Aj (Br h e (by intro y;cases y))];exact h
end CRL
namespace L2
open PySem PySem.Spec PyProof.Rows PySem.W
section
variable {P:eY} {w:fF} {K:a'} {mg:eU->Option eJ} {base:fK} {k:Nat} {f:J} {fd:m_} {ps:List eU} {sp:Sp}
def Bp.ofX(F:Bp P w K mg base (Tg P w) k f fd ps sp):Bp P w K mg base Fv k f fd ps (λvs H Q x=>sp vs H Q E0):=
 [λvs H Q x h=>F.len vs H Q E0 h,λA B s H j M vs Q E C e b r h=>hJ (F.run A B s H j M vs Q E0 C e b r h) λq N L=>by
  cases q with
  |error v=>
   let[_,_,_,_,_,_,_,_,_,_,z]:=(show Tg P w _ _ _ _ _ _ from L);exact z
  | ok S=>cases S<;>exact L]
def dJ.okX{x qual}{st}{N}(F:dJ K x qual st f fd)(S:Bg N ps (Ao st))(R:∀vs H Q E,sp vs H Q E->vs.length=ps.length)
  (j:∀(O:eJ) (A:fL) (outer:List mB) (s:eO) (H:Hp) (vs:List V) (Q:VK) (E:XK),Bv k (A.deeper (iI qual (Ao st) ⇑s f O))->sp vs H Q E ->
   ∃t,PSs (Hb (Tg P w) P w K mg base N qual (Ao st) f O A outer s H E) (Bw st) t/\t { nx:=λy H'=>Q .non H',rt:=Q } (Eh N vs) H):Bp P w K mg base (Tg P w) (k+1) f fd ps sp:=by
 let[X,d,c,kV,M,W,b,O,l,B,e,lk,L]:=F.ex;subst e;exact Yq lk L S R λA outer s H vs Q E T C=>j O A outer s H vs Q E T C
end
def GM(K:a'):V->List V->Hp->VK->Prop:=λx C H Q=>∃(l:J) (B:List V) (y:V) (j:Nat),x=.ref l/\C=#[y]/\Am K H l B/\Fk y=eP/\B.all Fk=eP/\B.length<=1000/\(∃z,B[j]?=g z/\O2 z y=eP) /\
 (∀m z,m<j->B[m]?=g z->O2 z y=eM)/\Q (.int (j:Int)) H
def DK{X:Cx}:MO X "list.index" (GM X.K):=by
 intro T s σ H x vs v us Q B k e h;let[l,O,y,j,rfl,rfl,w,c,P,l3,[z,W,b],f,q]:=h;cases k;let[u,rfl,ru]:=e.one;let[L,r,p,_]:=B.list w;let[[af,d,ae,t],E,K,n,A]:=p.isList;simp only at K A;subst K A;let lr:=r.length;let hj:j<O.length:=(hI.mp W).1;let M:∀(m:Nat) (N:m<L.length),∃z,O[m]?=g z/\Ti y L[m]=O2 z y:=λm N=>by
  let S:O[m]?=g (O[m]'(Z)):=hD Z;let[o,i,a]:=r.get S;let eu:L[m]=o:=(hI.mp i).2;exact[_,S,by rw[eu];exact Ye a (List.all_eq_true.mp P _ (vk _))]
 refine kI F.slot_list_index [_,E,I] F.entry_list_index (F.args_list_index_2 _ _) (SeqAt.list_indexAt l L.toArray n d t u (Ti y) j (by rw[dw];lia) Z ?_ ?_) [E,?_,?_]
 .let[R,S,C]:=M j Z
  rw[W]at S;cases S;show Ti y L[j]=eP;rw[C];exact b
 .intro m N ad
  rw[dw]at N;let[R,S,C]:=M m N;show Ti y L[m]=eM;rw[C];exact f m R ad S
 .intro z ab
  exact Hm ru c r P z (by simpa using ab)
 .exact[.int _,H,B.tok _,[s.toks,I],q]
def AC{X}{K}(h:X.K=K):MO X "list.index" (GM K):=h▸DK
end L2
namespace CST
open PySem
abbrev Rs(xs:Array Nat):Prop:=xs.toList.Pairwise (· < ·)
def U1{xs:Array Nat}(h:Rs xs){i k:Nat}(j:i<k)(F:k<xs.size):xs[i]'(Z)<xs[k]:=by
 let:=s0.mp h i k (by simpa using (by lia:i<xs.size)) (by simpa using F) j
 simpa using this
structure bG(xs:Array Nat)(j p:Nat):Prop where
 le:p<=xs.size
 lo:∀i (h:i<xs.size),i<p->xs[i]<j
 hi:∀i (h:i<xs.size),p<=i->j<=xs[i]
theorem Ri{xs:Array Nat}{j:Nat}(r:Rs xs):∀(f lo B:Nat),B-lo<=f->lo<=B->B<=xs.size->(∀i (h:i<xs.size),i<lo->xs[i]<j)->(∀i (h:i<xs.size),B<=i->j<=xs[i])->bG xs j (lQ xs j f lo B)
 |0,lo,B,H,C,F,a,b=>by
  let e:lo=B:=by omega
  subst e;unfold lQ;exact[F,a,b]
 |f+1,lo,B,H,C,F,a,b=>by
  unfold lQ;by_cases c:lo<B
  .rw[eR c]
   let S:(lo+B)/2<xs.size:=by omega
   let e:xs.getD ((lo+B)/2) j=xs[(lo+B)/2]:=by simp[pc,S]
   dsimp only
   rw[e];by_cases d:xs[(lo+B)/2]<j
   .rw[eR d]
    refine Ri r f _ B zY zY F (λi h L=>?_) b;by_cases q:i=(lo+B)/2
    .subst q;exact d
    .exact tK (U1 r zY S) d
   .rw[eQ d]
    refine Ri r f lo _ zY zY zY a (λi h L=>?_);by_cases q:i=(lo+B)/2
    .subst q;omega
    .have:=U1 r (i:=(lo+B)/2) (k:=i) zY h
     omega
  .rw[eQ c]
   let e:lo=B:=by omega
   subst e;exact[F,a,b]
def Tb{xs:Array Nat}{j:Nat}(r:Rs xs):bG xs j (fX xs j):=by
 unfold fX;exact Ri r _ _ _ Z (de _) (b' _) (λi x h=>fA h (t_ _)) (λi h B=>fA B Z)
structure Lk(by_:Bool)(t:hZ):Prop where
 rs:Rs t.place
 dm:t.dummies = #v[]
 ld:by_=eM->t.led=eP
def O4(b:Bool):Lk b (.fresh 0 0 (!b)):=[qM,I,λh=>by rw[h];rfl]
def Gx{b:Bool}{t:hZ}(B:Lk b t)(n:Nat):Lk b (t.standIn n):=by
 refine[?_,I,B.ld];show(Array.range n).toList.Pairwise (· < ·);rw[Array.toList_range];exact List.pairwise_lt_range
def O1{b:Bool}{t:hZ}(B:Lk b t)(p:Bool):Lk b { t with plain:=p }:=[B.rs,B.dm,B.ld]
def A9(j:Nat):qK #v[] j=eM:=by
 unfold qK;let:(#v[]:Array Nat)[fX #v[] j]?=U:=by simp
 rw[this];rfl
def O8{t:hZ}{j:Nat}(F:t.dummies = #v[]):t.slot j=.empty\/∃i,t.slot j=.live i:=by
 unfold vP
 dsimp only
 by_cases c:(t.place[fX t.place j]?==g j)=eP
 .rw[eR c];exact .inr [_,I]
 .rw[eQ c,F,A9]
  exact .inl I
def N1{t:hZ}{j:Nat}(r:Rs t.place)(h:t.slot j=.empty):∀i (B:i<t.place.size),t.place[i]≠j:=λi B e=>by
 let b:=Tb (j:=j) r;let C:fX t.place j<=i:=by
  rcases lV i (fX t.place j)with z|z
  .have:=b.lo i B z;lia
  .exact z
 let F:fX t.place j<t.place.size:=by lia
 let L:t.place[fX t.place j]=j:=by
  let H:=b.hi _ F (b' _);rcases Nat.lt_or_eq_of_le C with z|z
  .have:=U1 r z B;lia
  .have:t.place[fX t.place j]=t.place[i]:=by congr 1
   lia
 unfold vP at h
 dsimp only at h
 let c:(t.place[fX t.place j]?==g j)=eP:=by
  rw[qd F,L];simp
 rw[eR c]at h;cases h
theorem Yr{t:hZ}{S:Nat->Int}{h:Int}(L:t.dummies = #v[]):∀(f:Nat) (p:SetTable.Probe) (j:Nat) (d:Option Nat),p.dummy=U->lP t S h f p=g (.empty j d)->d=U/\t.slot j=.empty
 |0,p,j,d,_,e=>by unfold lP at e;cases e
 |f+1,p,j,d,H,e=>by
  unfold lP at e;let F:(t.advance p).dummy=U:=by
   unfold SetTable.advance
   split
   .exact H
   .exact H
  rcases O8 (t:=t) (j:=p.j) L with z|⟨i,z⟩
  .rw[z]at e
   dsimp only at e
   injection e with e;injection e with C B;subst C;exact[B▸H,z]
  .rw[z]at e
   dsimp only at e
   split at e
   .injection e with e;cases e
   .exact Yr L f _ j d F e
def QY{t:hZ}{j:Nat}(r:Rs t.place)(h:∀i (M:i<t.place.size),t.place[i]≠j):Rs (t.put j).1.place:=by
 let b:=Tb (j:=j) r;show(SetTable.insertAt t.place (fX t.place j) j).toList.Pairwise (· < ·);rw[SetTable.toList_insertAt];let B:∀x∈t.place.toList.take (fX t.place j),x<j:=λx S=>by
  let[i,M,L]:=pb S;rw[List.getElem_take]at L;let F:i<fX t.place j/\i<t.place.size:=by
   rw[hQ,hH]at M;lia
  let:=b.lo i F.2 F.1;rw[<- L]
  simpa using this
 let C:∀x∈t.place.toList.drop (fX t.place j),j<x:=λx S=>by
  let[i,M,L]:=pb S;rw[List.getElem_drop]at L;let F:fX t.place j+i<t.place.size:=by
   rw[rx,hH]at M;lia
  let Q:=b.hi _ F (Nat.le_add_right _ _);let P:=h _ F;rw[<- L];let:j<t.place[fX t.place j+i]:=by lia
  simpa using this
 refine List.pairwise_append.mpr [r.sublist (oM _ _),o0.mpr [C,r.sublist (List.drop_sublist _ _)],λa H N O=>?_];rcases cr.mp O with z|z
 .rw[z];exact B a H
 .exact tK (B a H) (C N z)
def Zj{b:Bool}{t:hZ}{j:Nat}(B:Lk b t)(h:t.slot j=.empty):Lk b (t.put j).1:=by
 refine[QY B.rs (N1 B.rs h),?_,B.ld];show(if qK t.dummies j then _ else t.dummies) = #v[];rw[B.dm,A9];rfl
set_option tactic.hygienic true in
def C9{b:Bool}{t:hZ}(H:Lk b t)(es:Array (Int×eJ))(h:Int)(x:eJ):Lk b (layNew t es h x).2.1/\(layNew t es h x).2.2.1=eM:=by
 unfold layNew;cases e:t.freeSlot h with
 |none=>exact[Gx H _,I]
 |some p=>
  let[O,B]:=p;unfold SetTable.freeSlot at e
  split at e
  .rename_i j d N
   injection e with e;injection e with L S;let[C,M]:=Yr H.dm _ _ j d I N;subst C
   dsimp only at L S⊢
   let F:j=O:=L;subst F;refine[?_,S.symm];unfold SetTable.orStandIn
   split
   .exact Zj H M
   .exact Gx (Zj H M) _
  .cases e
theorem Si(o:Nat->Option Nat):∀l:List Nat,((l.filterMap λj=>(o j).map (j,·)).map (·.1)).Sublist l
 |[]=>List.Sublist.slnil
 |j::l=>by
  rw[vp];cases e:o j with
  |none=>exact(Si o l).cons j
  |some k=>exact(Si o l).cons₂ j
def Uh{b:Bool}{t:hZ}(H:Lk b t)(es:Array (Int×eJ))(j:Nat):Lk b (pX t es j).2.1:=by
 unfold pX;cases e:t.relaid (es.map (·.1)) j with
 |none=>exact Gx H _
 |some p=>
  let[B,L]:=p
  dsimp only
  split
  .unfold SetTable.relaid SetTable.laid at e
   cases S:SetTable.layClean (SetTable.sizeAbove j-1) (es.map (·.1))with
   |none=>rw[S]at e;cases e
   |some F=>
    rw[S]at e;let C:=gD e;injection C with M _;subst M;refine[?_,I,H.ld];show(List.toArray _).toList.Pairwise (· < ·);rw[nB];exact List.pairwise_lt_range.sublist (Si _ _)
  .exact Gx H _
section
variable {prog:eY} {w:fF} {K:Type} [DecidableEq K] (knd:KeyKind prog w K)
def OL(e:Int×eJ)(k:K):Prop:=knd.is k e.2=eP/\e.1=knd.hash k/\e.2.scannable=eP
def cO(h:fK)(a:J)(ks:List K):Prop:=∃o B C t,h.get? a=g o/\o.ExactSet/\o.data=.set B C t/\jU (OL knd) B.toList ks/\ks.Nodup/\B.size<jO/\t.fits B.size=eP/\Lk (w.params.followText "set-order") t
variable {knd}
variable {A:fL} {E:eJ->eO->Prop} {s:eO}
def Pe{N X:Type}{F:N->X->Prop}:∀{l j:List N} {ks},j.Perm l->jU F l ks->∃M,M.Perm ks/\jU F j M:=by
 intro l j ks p;let q:=p.symm;clear p
 induction q generalizing ks with
 |nil=>intro h;exact[ks,jQ _,h]
 |cons x _ R=>
  intro h;cases h with
  |cons r t=>
   let[M,B,Q]:=R t;exact[_,B.cons _,.cons r Q]
 |swap x y l=>
  intro h;cases h with
  |cons r t=>
   cases t with
   |cons C H=>exact[_,pD _ _ _,.cons C (.cons r H)]
 |trans _ _ L S=>
  intro h;let[c,P,W]:=L h;let[b,T,O]:=S W;exact[b,T.trans P,O]
theorem Pd{B C:Type}{F:B->C->Prop}{a:B}{b:C}(r:F a b):∀{l:List B} {ks},jU F l ks->jU F (l++#[a]) (ks++#[b])
 |_,_,.nil=>.cons r .nil
 |_,_,.cons q t=>.cons q (Pd r t)
theorem Lw{B C:Type}{F:B->C->Prop}:∀{l:List B} {ks},jU F l ks->∀a∈l,∃b∈ks,F a b
 |_,_,.nil,_,h=>nomatch h
 |_,_,.cons q t,a,h=>by
  rcases cr.mp h with z|z
  .subst z;exact[_,fk,q]
  .let[b,j,r]:=Lw t a z
   exact[b,e_ _ j,r]
theorem Pf{B C:Type}{F:B->C->Prop}:∀{l:List B} {ks},jU F l ks->∀b∈ks,∃a∈l,F a b
 |_,_,.nil,_,h=>nomatch h
 |_,_,.cons q t,a,h=>by
  rcases cr.mp h with z|z
  .subst z;exact[_,fk,q]
  .let[b,j,r]:=Pf t a z
   exact[b,e_ _ j,r]
def XV{l:List (Int×eJ)}{ks:List K}(h:jU (OL knd) l ks):ElemsOf knd l:=λe L=>by
 let[k,_,F,S,j]:=Lw h e L;exact[[k,F,S],j]
def A7{l:List (Int×eJ)}{ks:List K}{k:K}(h:jU (OL knd) l ks):(l.findIdx? λe=>knd.is k e.2)=U↔k∉ks:=by
 rw[List.findIdx?_eq_none_iff];constructor
 .intro z L
  let[e,F,r]:=Pf h k L;let:=z e F;rw[r.1]at this;cases this
 .intro z e F
  let[S,j,r]:=Lw h e F;cases c:knd.is k e.2 with
  |false=>rfl
  |true=>exact fA (knd.inj _ _ _ c r.1▸j) z
def stored{h:fK}{a:J}{o:gS}{es N:Array (Int×eJ)}{ep:Nat}{t t':hZ}{ks:List K}(C:h.get? a=g o)(j:o.ExactSet)(F:o.data=.set es ep t)(O:jU (OL knd) N.toList ks)(B:ks.Nodup)(H:N.size<jO)(S:t'.fits N.size=eP)
  (M:Lk (w.params.followText "set-order") t'):(h.update a (oE N t')).get? a=g { o with data:=.set N (ep+1) t' }/\cO knd (h.update a (oE N t')) a ks:=by
 let L:(h.update a (oE N t')).get? a=g { o with data:=.set N (ep+1) t' }:=by
  let q:=p_ (oE N t') C (by rw[putSet_of N t' F];rfl)
  rwa[putSet_of N t' F]at q
 exact[L,_,N,ep+1,t',L,j,I,O,B,H,S,M]
def Zz{a:J}{o:gS}{es j:Array (Int×eJ)}{ep:Nat}{t F:hZ}{ks1:List K}(q:s.heap.get? a=g o)(C:o.ExactSet)(l:o.data=.set es ep t)(d:jU (OL knd) j.toList ks1)(k:ks1.Nodup)(B:j.size<jO)(v:F.fits j.size=eP)
  (H:Lk (w.params.followText "set-order") F) {X:Bool} {p:Bool->rV Unit} (ab:∀(b:Bool) (N:eO) (T:Unit->eO->Prop),T () N->eV (fC prog w) A (p b) T E N) {R:Option Bool->eO->Prop}
  (h:∀h' S,i_ a s.heap h'->cO knd h' a S->S.Perm ks1->R (g eP) { s with heap:=h' }) :
  eV (fC prog w) A (do
   storeSet a j F
   if (!X&&F.tooFull)=eP then do
    p (pX F j (iW j.size)).2.2
    storeSet a (pX F j (iW j.size)).1 (pX F j (iW j.size)).2.1
    pure (g eP)
   else pure (g eP)) R E s:=by
 let[L,z]:=stored (knd:=knd) q C l d k B v H;let r:=i_.update s.heap a (oE j F);refine a_ (wpAny_storeSet_of q l ?_ (fits_of_scanBound B));by_cases c:(!X&&F.tooFull)=eP
 .rw[eR c]
  let O:=relayAll_perm F j (iW j.size);let Q:=relayAll_fits F j (iW j.size);let P:=Uh H j (iW j.size);generalize pX F j (iW j.size)=M at O Q P;let[u,i,e]:=M
  dsimp only at O Q P
  let W:u.size=j.size:=by rw[<- hH,O.length_eq,hH]
  let[m,f,n]:=Pe O d;refine a_ (ab _ _ _ (a_ (wpAny_storeSet_of L I ?_ (fits_of_scanBound (by rw[W];exact B)))));let[_,y]:=stored (knd:=knd) L C I n (f.nodup_iff.mpr k) (by rw[W];exact B) Q P;exact b_ (h _ m (r.trans (i_.update _ a _)) y f)
 .rw[eQ c]
  exact b_ (h _ ks1 r z (jQ _))
def US{a:J}{ks:List K}{k:K}{x:eJ}{Q:Bool->eO->Prop}(L:knd.is k x=eP)(H:x.scannable=eP)(hS:cO knd s.heap a ks)(S:ks.length+1<jO)
  (h:∀b h' F,i_ a s.heap h'->cO knd h' a F->F.Perm (if k∈ks then ks else ks++#[k])->Q b { s with heap:=h' }) :
  eV (fC prog w) A (setAddHashed a x (knd.hash k)) Q E s:=by
 let[o,P,ep,t,d,v,c,T,nd,hb,u,B]:=id hS;let ad:=XV T;let lk:P.size=ks.length:=by rw[<- hH];exact kC T
 unfold setAddHashed setAddHashedIn;refine fV (a_ (iJ d c u ?_))
 dsimp only
 rw[byScan_of H hb ad];simp only[↓reduceIte];unfold setAddByScan;refine a_ (a_ (sJ (a_ (wpAny_setScan_of L d c u ad ?_))));cases l:List.findIdx? (λe=>knd.is k e.2) P.toList with
 |some j=>
  let f:k∈ks:=Classical.byContradiction λz=>by rw[(A7 T).mpr z]at l;cases l
  dsimp only
  refine b_ (b_ ?_);let e:s={ s with heap:=s.heap }:=by cases s;rfl
  rw[e];exact h eM s.heap ks (i_.refl a s.heap) hS (by rw[eR f])
 |none=>
  let f:k∉ks:=(A7 T).mp l
  dsimp only
  let R:=layNew_perm t P (knd.hash k) x;let f1:=layNew_fits t P (knd.hash k) x;let X:=(C9 B P (knd.hash k) x).1;generalize layNew t P (knd.hash k) x=M at R f1 X⊢;let[af,t1,wd,gv]:=M
  dsimp only at R f1 X⊢
  rw[uZ]at R;let[ks1,i,n]:=Pe R (Pd (show OL knd (knd.hash k,x) k from [L,I,H]) T);let ab:ks1.Nodup:=i.nodup_iff.mpr (wS.mpr [nd,zZ,λa ha b C=>by rw[d_]at C;subst C;rintro rfl;exact f ha]);let m:af.size<jO:=by rw[<- hH,R.length_eq,fy,hH,lk];exact S
  let aa:∀h' F,i_ a s.heap h'->cO knd h' a F->F.Perm ks1->Q eP { s with heap:=h' }:=λh' F W N p=>h eP h' F W N (by rw[eQ f];exact p.trans i);let q:∀(b:Bool) (O:eO) (r:Unit->eO->Prop),r () O->eV (fC prog w) A (match b with|true=>rule "set.scan.the-table-gave-way" |false=>pure ()) r E O :=
   λb O r y=>by cases b<;>first|exact b_ y|exact sJ y
  refine a_ (q _ _ _ ?_)
  split
  .refine a_ ?_
   rw[hashByValue_scannable 8 H];refine b_ ?_;refine Zz (ks1:=ks1) (knd:=knd) d v c n ab m ?_ ?_ q λh' F W N p=>?_
   .split
    .exact f1
    .exact SetTable.fits_plain_off f1
   .split
    .exact X
    .exact O1 X _
   .exact b_ (aa h' F W N p)
  .refine a_ (b_ ?_)
   simp only[↓reduceIte];exact Zz (ks1:=ks1) (knd:=knd) d v c n ab m f1 X q λh' F W N p=>b_ (aa h' F W N p)
end
def Iz:Slot "set_iterator" "__next__" "set_iterator.__next__":=
 .of (owner:="set_iterator") (n:="__next__") (by rw[rO,nE];kernel_rfl) G G G (by first|exact .inl G|exact .inr G) (by rw[nW];kernel_rfl)
def Le:entryFor table "set_iterator.__next__"=g iQ.«set_iterator.__next__» := entryFor_of_fast (by kernel_rfl)
def Nk(a:eJ):vM "set_iterator.__next__" [#[a],[]]:=by unfold vM;kernel_rfl
def Zt:Slot "set_iterator" "__iter__" "set_iterator.__iter__":=
 .of (owner:="set_iterator") (n:="__iter__") (by rw[rO,nE];kernel_rfl) G G G (by first|exact .inl G|exact .inr G) (by rw[nW];kernel_rfl)
def GC(a:eJ):vM "set_iterator.__iter__" [#[a],[]]:=by unfold vM;kernel_rfl
def BM:entryFor table "set_iterator.__iter__"=g iQ.«dict_keyiterator.__iter__» :=
 entryFor_alias (id':="dict_keyiterator.__iter__") (by kernel_rfl) I G (by kernel_rfl)
def HH:entryFor table "set.__iter__"=g iQ.«frozenset.__iter__» :=
 entryFor_alias (id':="frozenset.__iter__") (by kernel_rfl) I G (by kernel_rfl)
def N3(h:fK)(B:J)(first:eJ)(i:Nat)(a:J)(n ep:Nat):Prop:=h.get? B=g { cls:=.type "set_iterator",dict:=U,data:=.fields #v[first,fY i,.ref a,fY n,fY ep],slots := #v[] }
section
variable {prog:eY} {w:fF} {A:fL} {E:eJ->eO->Prop} {s:eO} {b a:J} {i n ep slot nx:Nat} {x:eJ} {o:gS} {es:Array (Int×eJ)} {t:hZ} {Q:Option eJ->eO->Prop}
def Zw(j:N3 s.heap b (fY slot) i a n ep)(W:s.heap.get? a=g o)(H:o.data=.set es ep t)(C:t.fits es.size=eP)(R:es.size=n)
  (N:∀(T:fL) (S:Option (eJ×Nat)->eO->Prop) (O:eJ->eO->Prop),S (g (x,nx)) s->eV (fC prog w) T (rZ a slot i ep) S O s)
  (h:∀h',N3 h' b (fY nx) (i+1) a n ep->i_ b s.heap h'->Q (g x) { s with heap:=h' }):eV (fC prog w) A (kQ (.ref b)) Q E s:=by
 let M:s.TypeIs (.ref b) "set_iterator":=[_,j,I];unfold kQ;refine a_ (jF (iS (name:=fM "__next__") M Iz (gR Iz M Le ?_ (Nk _))));unfold iQ.«set_iterator.__next__»;refine a_ (m:=sP "__next__" 0 _) (b_ (a_ (nR j I ?_)))
 dsimp only[fY]
 refine a_ (jT W H C ?_);rw[R];rw[eQ zZ];refine a_ (N _ _ _ ?_)
 dsimp only
 refine a_ (iX j zZ λK B F=>?_);refine a_ (iX B zZ λP X L=>?_);refine b_ [_,I,b_ (h P ?_ (F.trans L))];unfold N3;rw[X];simp[fY]
end
theorem Me{B:Type}:∀{l:List B} {i:Nat} (h:i<l.length),(l[i]::l.eraseIdx i).Perm l
 |[],_,h=>fA h (t_ _)
 |x::l,0,_=>jQ _
 |x::l,i+1,h=>(pD x _ _).trans ((Me (l:=l) (i:=i) (by simpa using h)).cons x)
theorem W0{C:Type}(f:Nat->Nat):∀(m k:Nat) (l:List C) (out:Array C),l.length=m->(pY f m k l out).toList.Perm (out.toList++l)
 |0,k,l,out,h=>by
  let e:l=[]:=List.length_eq_zero_iff.mp h;subst e;unfold pY;rw[lq]
 |m+1,k,l,out,h=>by
  let B:f k%l.length<l.length:=Nat.mod_lt _ Z;unfold pY;rw[hD B]
  dsimp only
  refine(W0 f m (k+1) _ _ (by rw[tZ,eR B];lia)).trans ?_;rw[uZ,vj];exact(Me B).append_left _
def cI{B:Type}(f:Nat->Nat)(xs:Array B):(lA f xs).toList.Perm xs.toList:=by
 unfold lA;exact(W0 f xs.size 0 xs.toList #v[] hH).trans zZ
def Ix(p:Array Nat)(i:Nat):Nat:=if i=0 then 0 else p.getD (i-1) 0+1
def Sk{p:Array Nat}(r:Rs p){i:Nat}(M:i<=p.size):fX p (Ix p i)=i:=by
 let b:=Tb (j:=Ix p i) r;unfold Ix at b⊢;by_cases c:i=0
 .rw[eR c]at b⊢
  rw[c];rcases vR (fX p 0)with z|z
  .exact z
  .have H:0<p.size:=k_ z b.le
   exact fA (b.lo 0 H z) (t_ _)
 .rw[eQ c]at b⊢
  let C:i-1<p.size:=by lia
  let e:p.getD (i-1) 0=p[i-1]:=by simp[pc,C]
  rw[e]at b⊢;rcases wb (fX p (p[i-1]+1)) i with z|z|z
  .have:=b.hi (i-1) C Z
   lia
  .exact z
  .have B:i<p.size:=k_ z b.le
   let L:=b.lo i B z;let F:=U1 r (i:=i-1) (k:=i) Z B
   lia
section
variable {prog:eY} {w:fF} {A:fL} {E:eJ->eO->Prop} {s:eO} {a:J} {o:gS} {es:Array (Int×eJ)} {ep:Nat} {t:hZ}
def Qp{Q:Bool->eO->Prop}(h:Q (w.params.followText "set-order") s):eV (fC prog w) A setsByText Q E s:=by
 unfold setsByText;exact a_ (qS (b_ h))
def Vt{slot i:Nat}{Q:Option (eJ×Nat)->eO->Prop}(F:w.params.followText "set-order"=eP)(j:s.heap.get? a=g o)(S:o.data=.set es ep t)(L:t.fits es.size=eP)
  (h:Q (((lA (w.params.setOrder a ep) es)[i]?).map λe=>(e.2,slot)) s):eV (fC prog w) A (rZ a slot i ep) Q E s:=by
 unfold rZ;refine a_ (iJ j S L ?_)
 dsimp only
 refine a_ (Qp ?_);rw[F,eR I,eQ zZ];refine a_ ?_;unfold setWalk;refine a_ (iJ j S L ?_)
 dsimp only
 refine a_ (Qp ?_);rw[F,eR I];exact a_ (qS (b_ (b_ h)))
def Qt{slot i:Nat}{Q:Option (eJ×Nat)->eO->Prop}(L:w.params.followText "set-order"=eM)(F:s.heap.get? a=g o)(B:o.data=.set es ep t)(S:t.fits es.size=eP)(C:t.led=eP)(H:(!t.plain&&decide (es.size>1))=eM)
  (h:Q (match es[fX t.place slot]?,t.place[fX t.place slot]? with
   |some (_,x),g j=>g (x,j+1)
   | _,_=>U) s):eV (fC prog w) A (rZ a slot i ep) Q E s:=by
 unfold rZ;refine a_ (iJ F B S ?_)
 dsimp only
 refine a_ (Qp ?_);rw[L,eQ f_];show eV _ _ (if (!t.plain&&decide (es.size>1))=eP then _ else _) _ _ _;rw[H,eQ f_];refine a_ ?_;show eV _ _ (if (!t.led && !es.isEmpty)=eP then unsupported "set:maker-not-led" else pure ()) _ _ _;rw[C,eQ zZ];exact b_ (b_ h)
def K8{place:Nat}{k:Int}{x:eJ}{Q:eJ->eO->Prop}(j:s.heap.get? a=g o)(F:o.data=.set es ep t)(S:t.fits es.size=eP)(L:es[place]?=g (k,x))(h:Q x s):eV (fC prog w) A (setNextDrawn a place ep) Q E s:=by
 unfold setNextDrawn;refine a_ (iJ j F S ?_)
 dsimp only
 rw[eQ zZ,L];exact b_ h
def G5{n:Nat}{Q:Nat->eO->Prop}(j:n≠0)(h:∀i,i<n->Q i { s with drawn:=s.drawn.bump b }):eV (fC prog w) A (choose b n) Q E s:=λx x x=>by
 unfold choose;rw[Sem.wp_choose];exact[j,h _ (Nat.mod_lt _ Z)]
theorem Rz{H:Type}:∀(n:Nat) (xs:List H) (s:eO) (Q:List H->eO->Prop),xs.length=n->(∀ys d,ys.Perm xs->Q ys { s with drawn:=d })->eV (fC prog w) A (drawOrder n xs) Q E s
 |0,xs,s,Q,C,h=>by
  let e:xs=[]:=List.length_eq_zero_iff.mp C;subst e;unfold drawOrder;exact b_ (h [] s.drawn (jQ _))
 |n+1,xs,s,Q,C,h=>by
  cases xs with
  |nil=>simp at C
  |cons x xs=>
   unfold drawOrder;refine a_ (G5 zZ λi B=>?_);rw[hD B]
   dsimp only
   refine a_ (Rz n _ _ _ (by rw[tZ,eR B];lia) λys d p=>b_ ?_);exact h _ d ((p.cons _).trans (Me B))
end
section
variable {prog:eY} {w:fF} {A:fL} {E:eJ->eO->Prop} {s:eO} {f a T:J} {i n ep slot:Nat} {o:gS} {es:Array (Int×eJ)} {t:hZ} {Q:Option eJ->eO->Prop}
def HJ{L:Nat}{pl:Nat}{tk:vN}{k:Int}{x:eJ}(j:N3 s.heap f (.ref T) i a n ep)(hT:s.heap.get? T=g { cls:=.type "tuple",dict:=U,data:=.seq places L,slots := #v[] })(M:s.heap.get? a=g o)(C:o.data=.set es ep t)(H:t.fits es.size=eP)(P:es.size=n)
  (R:places[i]?=g (.int (pl:Int) tk)) (N:es[pl]?=g (k,x))
  (h:∀h',N3 h' f (.ref T) (i+1) a n ep->i_ f s.heap h'->Q (g x) { s with heap:=h' }):eV (fC prog w) A (kQ (.ref f)) Q E s:=by
 let B:s.TypeIs (.ref f) "set_iterator":=[_,j,I];unfold kQ;refine a_ (jF (iS (name:=fM "__next__") B Iz (gR Iz B Le ?_ (Nk _))));unfold iQ.«set_iterator.__next__»;refine a_ (m:=sP "__next__" 0 _) (b_ (a_ (nR j I ?_)))
 dsimp only[fY]
 refine a_ (jT M C H ?_);rw[P,eQ zZ];refine a_ (wpAny_seqItems hT I ?_)
 dsimp only
 rw[show((i:Int)).toNat=i from rfl,R]
 dsimp only
 refine a_ (K8 M C H (place:=pl) N ?_);refine a_ (iX j zZ λO S F=>?_);refine b_ [_,I,b_ (h O ?_ F)];unfold N3;rw[S];simp[fY]
def Rg{B:Type}{Q:B->eO->Prop}(j:A.handled=U)(h:∀h' e,(∀b o,s.heap.get? b=g o->h'.get? b=g o)->mS { s with heap:=h' } e "StopIteration"->E e { s with heap:=h' }):eV (fC prog w) A (newExc (.type "StopIteration") [] >>= raiseNew) Q E s:=by
 refine a_ ?_;simp only[newExc,newTuple];refine a_ (gM ?_ (by size_fits));refine a_ (m:=firstArgMember _ _) (jK (a:=fP) (by first|rfl|(simp only[firstArgMember];rfl)) ?_);refine gM ?_ (by size_fits);refine wpAny_raiseNew_none j (h _ _ (λb F e=>dv _ (dv _ e)) [_,h_ _ I,I])
def R9(H:A.handled=U)(j:N3 s.heap f (fY slot) i a n ep)(k:s.heap.get? a=g o)(C:o.data=.set es ep t)(B:t.fits es.size=eP)(W:es.size=n)
  (N:∀(K:fL) (L:Option (eJ×Nat)->eO->Prop) (P:eJ->eO->Prop),L U s->eV (fC prog w) K (rZ a slot i ep) L P s)
  (h:∀h',pO f s.heap h'->Q U { s with heap:=h' }):eV (fC prog w) A (kQ (.ref f)) Q E s:=by
 let M:s.TypeIs (.ref f) "set_iterator":=[_,j,I];unfold kQ;refine a_ (jF (iS (name:=fM "__next__") M Iz (gR Iz M Le ?_ (Nk _))));unfold iQ.«set_iterator.__next__»;refine a_ (m:=sP "__next__" 0 _) (b_ (a_ (nR j I ?_)))
 dsimp only[fY]
 refine a_ (jT k C B ?_);rw[W,eQ zZ];refine a_ (N _ _ _ ?_)
 dsimp only
 refine a_ (iX j zZ λc p F=>?_);refine Rg (s:={ s with heap:=c }) (by exact H) λO e d R=>?_
 dsimp only
 refine a_ (qR (T:="StopIteration") (b:=eP) R isSubtype_stop ?_);exact b_ (h O (λb X l S=>d b X ((F.2 b l).trans S)))
def LN{k:Nat}(B:A.handled=U)(j:N3 s.heap f (.ref T) i a n ep)(hT:s.heap.get? T=g { cls:=.type "tuple",dict:=U,data:=.seq places k,slots := #v[] })(l:s.heap.get? a=g o)(d:o.data=.set es ep t)(K:t.fits es.size=eP)(R:es.size=n)(X:places[i]?=U)
  (h:∀h',pO f s.heap h'->Q U { s with heap:=h' }):eV (fC prog w) A (kQ (.ref f)) Q E s:=by
 let M:s.TypeIs (.ref f) "set_iterator":=[_,j,I];unfold kQ;refine a_ (jF (iS (name:=fM "__next__") M Iz (gR Iz M Le ?_ (Nk _))));unfold iQ.«set_iterator.__next__»;refine a_ (m:=sP "__next__" 0 _) (b_ (a_ (nR j I ?_)))
 dsimp only[fY]
 refine a_ (jT l d K ?_);rw[R,eQ zZ];refine a_ (wpAny_seqItems hT I ?_)
 dsimp only
 rw[show((i:Int)).toNat=i from rfl,X]
 dsimp only
 refine a_ (iX j zZ λp H F=>?_);refine a_ (iX H zZ λN q L=>?_);refine Rg (s:={ s with heap:=N }) (by exact B) λc e O P=>?_
 dsimp only
 refine a_ (qR (T:="StopIteration") (b:=eP) P isSubtype_stop ?_);exact b_ (h c (λb W S C=>O b W ((L.2 b S).trans ((F.2 b S).trans C))))
def Xc{first:eJ}{Q:eJ->eO->Prop}(j:N3 s.heap f first i a n ep)(h:Q (.ref f) s):eV (fC prog w) A (sQ (.ref f)) Q E s:=by
 let B:s.TypeIs (.ref f) "set_iterator":=[_,j,I];refine wpAny_pyIter_slot B Zt (gR Zt B BM ?_ (GC _));unfold iQ.«dict_keyiterator.__iter__»;exact a_ (m:=sP "__iter__" 0 _) (b_ (b_ [_,I,"set_iterator",_,B,Iz.lookup,h]))
def A1:Slot "set" "__iter__" "set.__iter__":=
 .of (owner:="set") (n:="__iter__") (by rw[rO,nE];kernel_rfl) G G G (by first|exact .inl G|exact .inr G) (by rw[nW];kernel_rfl)
def EG(a:eJ):vM "set.__iter__" [#[a],[]]:=by unfold vM;kernel_rfl
def aM(w:fF)(C h:fK)(f a:J)(es:Array (Int×eJ))(ep:Nat)(t:hZ):Prop:=
 (N3 h f (fY 0) 0 a es.size ep/\(w.params.followText "set-order"=eP\/(w.params.followText "set-order"=eM/\(!t.plain&&decide (es.size>1))=eM))) \/
 ∃T B,N3 h f (.ref T) 0 a es.size ep/\h.get? T=g { cls:=.type "tuple",dict:=U,data:=.seq ((B:List Nat).map λi:Nat=>fY i).toArray 0,slots := #v[] }/\B.Perm (kw es.size)/\T≠f/\C.get? T=U
def GS{Q:eJ->eO->Prop}(hc:o.cls=.type "set")(S:s.heap.get? a=g o)(C:o.data=.set es ep t)(H:t.fits es.size=eP)(u:es.size<=sizeLine)
  (h:∀h' d f,aM w s.heap h' f a es ep t->(∀b j,s.heap.get? b=g j->h'.get? b=g j)->s.heap.get? f=U->Q (.ref f) { s with heap:=h',drawn:=d }):eV (fC prog w) A (sQ (.ref a)) Q E s:=by
 let P:s.TypeIs (.ref a) "set":=[_,S,hc];refine wpAny_pyIter_slot P A1 (gR A1 P HH ?_ (EG _));unfold iQ.«frozenset.__iter__»;refine a_ (m:=Builtin.Frozenset.slot0 "__iter__" _) (b_ ?_);refine a_ (a_ (jT S C H (b_ ?_)));refine a_ ?_;unfold setDrawn;refine a_ (iJ S C H ?_)
 dsimp only
 refine a_ (Qp (b_ ?_));show eV _ _ (if (!(w.params.followText "set-order")&&(!t.plain&&decide (es.size>1)))=eP then _ else _) _ _ _;let O:∀(M:eJ) (N:fK) (L:Drawn),(∀b j,s.heap.get? b=g j->N.get? b=g j)->⇑s<=N.objs.size->(∀F,(∀b j,N.get? b=g j->F.get? b=g j)->N3 F N.objs.size M 0 a es.size ep->aM w s.heap F N.objs.size a es ep t) ->
   eV (fC prog w) A.in1 (do
    let x <- setEpoch a
    let y <- newFields "set_iterator" #[M,fY 0,fD a,fY ↑es.size,fY ↑x]
    ret y) (λq X=>∃v,q=.done (.ret v)/\∃K r,X.TypeIs v K/\mO (gO K) (fM "__next__")=pure (g r)/\Q v X) E { s with heap:=N,drawn:=L }:=λM N L R l k=>by
  refine a_ ?_;unfold setEpoch;refine a_ (iJ (s:={ s with heap:=N,drawn:=L }) (R _ _ S) C H (b_ ?_));refine a_ (gM (b_ [_,I,"set_iterator",_,[_,h_ _ I,I],Iz.lookup,?_]));refine h _ L N.objs.size (k _ (λb j e=>dv _ e) (h_ _ I)) (λb j e=>dv _ (R b j e)) ?_;cases z:s.heap.get? N.objs.size with
  |none=>rfl
  |some j=>
   let:=dn z;exact fA l (Nat.not_le.mpr this)
 by_cases c:(!(w.params.followText "set-order")&&(!t.plain&&decide (es.size>1)))=eP
 .rw[eR c]
  refine a_ (Rz _ _ _ _ u4 λps d p=>?_);refine a_ (sK ?_ (by rw[cn,p.length_eq,u4];exact u));refine O _ _ d (λb j e=>dv _ e) (by rw[rz];exact nh _) λF W B=>.inr [⇑s,ps,B,W _ _ (h_ _ I),p,?_,?_]
  .show ⇑s≠(s.heap.push _).objs.size
   rw[rz];exact fj (vn _)
  .cases z:s.heap.get? ⇑s with
   |none=>rfl
   |some j=>exact fA (dn z) (nS _)
 .rw[eQ c]
  refine a_ (b_ ?_);let e:s={ s with heap:=s.heap,drawn:=s.drawn }:=by cases s;rfl
  rw[e];refine O _ s.heap s.drawn (λ_ _ z=>z) (b' _) λF W B=>.inl [B,?_];cases b:w.params.followText "set-order" with
  |true=>exact .inl I
  |false=>
   rw[b]at c;exact .inr [I,by simpa using c]
end
section
variable {prog:eY} {w:fF} {A:fL} {E:eJ->eO->Prop} {c a:J} {es:Array (Int×eJ)} {ep:Nat} {t:hZ}
def Y0(h:fK)(a:J)(es:Array (Int×eJ))(ep:Nat)(t:hZ):Prop:=∃o,h.get? a=g o/\o.data=.set es ep t
def Th(j:t.fits es.size=eP):t.place.size=es.size:=by
 unfold SetTable.fits at j;simp at j;exact j.1
def N2(es:Array (Int×eJ)):(kw es.size).map (λp=>(es.getD p (0,.none)).2)=es.toList.map (·.2):=by
 refine vV λi=>?_;rw[jk,jk];by_cases h:i<es.size
 .rw[uM h,rr,qd h]
  simp[pc,h]
 .rw[lZ (by simpa using h),rr,ww Z]
  rfl
def Mh{s:eO}{h':fK}(j:i_ c s.heap h'):Moved #[c] (λx y:Array lH=>y=x) s { s with heap:=h' }:=[λb o F e=>(j.2 b (λz=>F (by rw[z];exact d_.mpr I))).trans e,I,I,I,b' _]
def Nz{s:eO}{h':fK}(j:pO c s.heap h'):Moved #[c] (λx y:Array lH=>y=x) s { s with heap:=h' }:=[λb o F e=>j b o (λz=>F (by rw[z];exact d_.mpr I)) e,I,I,I,b' _]
def P4(R:A.handled=U)(N:w.params.followText "set-order"=eP)(C:t.fits es.size=eP)(W:a≠c) :
  WalksS prog w A c #[c,a] #[c] (λx y=>y=x) es.size (λi v=>(((lA (w.params.setOrder a ep) es).toList.map (·.2))[i]?)=g v) (λi s=>N3 s.heap c (fY 0) i a es.size ep/\Y0 s.heap a es ep t) where
 sub:=λb d=>by rw[d_.mp d];exact fk
 grefl:=λz=>I
 gtrans:=λz z z K O=>O.trans K
 frame:=λi s M p ⟨L,o,F,j⟩ z k=>[k c fk _ L,o,k a zZ _ F,j]
 item:=λi s Q E l ⟨L,o,F,j⟩ h=>by
  let X:(lA (w.params.setOrder a ep) es).size=es.size:=by rw[<- hH,(cI _ es).length_eq,hH]
  let B:(lA (w.params.setOrder a ep) es)[i]?=g ((lA (w.params.setOrder a ep) es)[i]'(Z)):=qd Z;refine Zw (slot:=0) (nx:=0) L F j C I (λT f P q=>Vt N F j C (by rw[B];exact q)) λM H S=>?_;refine h _ _ ?_ [H,o,(S.2 a W).trans F,j] (Mh S);rw[jk,rr,B];rfl
 done:=λs Q E ⟨L,o,F,j⟩ h=>by
  let X:(lA (w.params.setOrder a ep) es).size=es.size:=by rw[<- hH,(cI _ es).length_eq,hH]
  refine R9 (slot:=0) R L F j C I (λT f P q=>Vt N F j C (by rw[ww Z];exact q)) λM S=>h _ (Nz S)
 self:=λi s Q E ⟨L,_⟩ h=>Xc L h
def Zb(p:A.handled=U)(W:w.params.followText "set-order"=eM)(S:t.fits es.size=eP)(P:t.led=eP)(R:Rs t.place)(N:(!t.plain&&decide (es.size>1))=eM)(r:a≠c) :
  WalksS prog w A c #[c,a] #[c] (λx y=>y=x) es.size (λi v=>((es.toList.map (·.2))[i]?)=g v) (λi s=>N3 s.heap c (fY (Ix t.place i)) i a es.size ep/\Y0 s.heap a es ep t) where
 sub:=λb l=>by rw[d_.mp l];exact fk
 grefl:=λ_=>I
 gtrans:=λ_ _ _ z X=>X.trans z
 frame:=λi s M e ⟨L,o,F,j⟩ _ k=>[k c fk _ L,o,k a zZ _ F,j]
 item:=λi s Q E T ⟨L,o,F,j⟩ h=>by
  let u:=Th S;let H:=Sk R (i:=i) Z;let O:es[i]?=g (es[i]'T):=qd T;let d:t.place[i]?=g (t.place[i]'(Z)):=qd Z;let m:Ix t.place (i+1)=t.place[i]'(Z)+1:=by
   unfold Ix;rw[eQ Z,Nat.add_sub_cancel];simp[pc,show i<t.place.size by lia]
  refine Zw (slot:=Ix t.place i) (nx:=Ix t.place (i+1)) L F j S I (λf n K q=>Qt W F j S P N (by rw[H,O,d];dsimp only;rw[<- m];exact q)) λM B C=>?_;refine h _ _ ?_ [B,o,(C.2 a r).trans F,j] (Mh C);rw[jk,rr,O];rfl
 done:=λs Q E ⟨L,o,F,j⟩ h=>by
  let u:=Th S;let H:=Sk R (i:=es.size) Z;refine R9 (slot:=Ix t.place es.size) p L F j S I (λf n K q=>Qt W F j S P N (by rw[H,ww (b' _)];exact q)) λM C=>h _ (Nz C)
 self:=λi s Q E ⟨L,_⟩ h=>Xc L h
def Za{T:J}{ps:List Nat}(P:A.handled=U)(N:t.fits es.size=eP)(C:ps.Perm (kw es.size))(W:a≠c)(nT:T≠c) :
  WalksS prog w A c #[c,a,T] #[c] (λx y=>y=x) es.size (λi v=>((ps.map λp=>(es.getD p (0,.none)).2)[i]?)=g v)
   (λi s=>N3 s.heap c (.ref T) i a es.size ep/\Y0 s.heap a es ep t/\s.heap.get? T=g { cls:=.type "tuple",dict:=U,data:=.seq (ps.map λi:Nat=>fY i).toArray 0,slots := #v[] }) where
 sub:=λb d=>by rw[d_.mp d];exact fk
 grefl:=λz=>I
 gtrans:=λz z z X O=>O.trans X
 frame:=λi s M tk ⟨j,⟨o,L,F⟩,hT⟩ z k=>[k c fk _ j,[o,k a zZ _ L,F],k T zZ _ hT]
 item:=λi s Q E f ⟨j,⟨o,L,F⟩,hT⟩ h=>by
  let R:ps.length=es.size:=by rw[C.length_eq,u4]
  let B:ps[i]?=g (ps[i]'(Z)):=hD Z;let pl:ps[i]'(Z)<es.size:=wk.mp (C.mem_iff.mp (vk _));let K:es[ps[i]'(Z)]?=g (es[ps[i]'(Z)]'pl):=qd pl;refine HJ (pl:=ps[i]'(Z)) (k:=(es[ps[i]'(Z)]'pl).1) (x:=(es[ps[i]'(Z)]'pl).2) j hT L F N I (tk:=0) ?_ K λM H S=>?_
  .rw[wy,jk,B]
   rfl
  .refine h _ _ ?_ [H,[o,(S.2 a W).trans L,F],(S.2 T nT).trans hT] (Mh S)
   rw[jk,B];simp[pc,pl]
 done:=λs Q E ⟨j,⟨o,L,F⟩,hT⟩ h=>by
  let R:ps.length=es.size:=by rw[C.length_eq,u4]
  refine LN P j hT L F N I ?_ λM S=>h _ (Nz S);rw[wy,jk,lZ Z];rfl
 self:=λi s Q E ⟨j,_⟩ h=>Xc j h
def AT(S:A.handled=U){P h:fK}(N:Y0 h a es ep t)(C:t.fits es.size=eP)(H:Lk (w.params.followText "set-order") t)(O:a≠c)(M:P.get? c=U)(b:aM w P h c a es ep t) :
  ∃(W:List eJ) (Q:List J) (St:Nat->eO->Prop),W.Perm (es.toList.map (·.2))/\WalksS prog w A c Q #[c] (λx y=>y=x) es.size (λi v=>W[i]?=g v) St/\(∀s:eO,s.heap=h->St 0 s)/\∀x∈Q,x=a\/P.get? x=U:=by
 rcases b with ⟨L,F|⟨F,X⟩⟩|⟨T,K,L,hT,R,nT,B⟩
 .refine[_,_,_,(cI (w.params.setOrder a ep) es).map _,P4 S F C O,λs e=>by rw[e];exact[L,N],λx j=>?_]
  rcases cr.mp j with z|z
  .rw[z];exact .inr M
  .exact .inl (d_.mp z)
 .refine[_,_,_,jQ _,Zb S F C (H.ld F) H.rs X O,λs e=>by rw[e];exact[L,N],λx j=>?_]
  rcases cr.mp j with z|z
  .rw[z];exact .inr M
  .exact .inl (d_.mp z)
 .refine[_,_,_,(R.map _).trans (List.Perm.of_eq (N2 es)),Za S C R O nT,λs e=>by rw[e];exact[L,N,hT],λx j=>?_]
  rcases cr.mp j with z|z
  .rw[z];exact .inr M
  .rcases cr.mp z with z|z
   .exact .inl z
   .rw[d_.mp z];exact .inr B
end
section
variable {prog:eY} {w:fF} {A:fL} {E:eJ->eO->Prop} {s:eO} {a:J} {o:gS} {es:Array (Int×eJ)} {ep:Nat} {t:hZ}
def KR:mO (.type "set") (fM "__len__")=pure (g (.builtin "set.__len__")):=F.slot_set_len.lookup
def PN:isSubtype (.type "set") (.type "set")=pure eP:=by rw[nW];kernel_rfl
def EL{Q:Bool->eO->Prop}(B:s.TypeIs (.ref a) "set")(h:Q eM s):eV (fC prog w) A (nK (.ref a)) Q E s:=by
 unfold nK;refine a_ (rN B KR ?_);generalize j:("set.__len__" : String)=F
 wp_delta
 rw[show splitId F=g ("set","__len__") from by subst j;decide +kernel];subst j;refine a_ (qR B PN ?_);show eV _ A (sM (fD a) >>= _) _ _ _;refine a_ (mM B ?_);exact b_ h
def Zs{Q:List eJ->eO->Prop}(hh:A.handled=U)(k:o.cls=.type "set")(T:s.heap.get? a=g o)(hd:o.data=.set es ep t)(r:t.fits es.size=eP)(B:Lk (w.params.followText "set-order") t)(y:es.size<=sizeLine)
  (h:∀s' vs,vs.Perm (es.toList.map (·.2))->(∀b P,s.heap.get? b=g P->s'.heap.get? b=g P)->s'.gens=s.gens->s'.os=s.os->Q vs s'):eV (fC prog w) A (collect (.ref a)) Q E s:=by
 unfold collect;refine a_ (wpAny_runValue (jX F.entry_proto_collect ?_));rw[jC F.plain_proto_collect _];show eV _ A.in1 (vG [] >>= λl=>again (.builtin "list.__iadd__" [#[l,.ref a],[]])) _ _ s;refine a_ (gM (b_ [pG F.plain_list_iadd _,jX F.entry_list_iadd ?_]));rw[jC F.plain_list_iadd _];let p:a<⇑s:=dn T;let S:∀b P,s.heap.get? b=g P->(s.heap.push { cls:=.type "list",data:=.seq ([]:List eJ).toArray }).get? b=g P:=λb P e=>dv _ e;let O:(s.heap.push { cls:=.type "list",data:=.seq ([]:List eJ).toArray }).get? ⇑s=g { cls:=.type "list",data:=.seq ([]:List eJ).toArray }:=h_ _ I;generalize c:⇑s=L at O;generalize s.heap.push { cls:=.type "list",data:=.seq ([]:List eJ).toArray }=H at S O;let v:s.heap.get? L=U:=by
  cases z:s.heap.get? L with
  |none=>rfl
  |some P=>exact fA (dn z) (by rw[c];exact nS _)
 show eV _ A.in1 (iL (.ref L) (.ref a) (.ref L)) _ _ { s with heap:=H };unfold iL;let ty:mS { s with heap:=H } (.ref a) "set":=[_,S _ _ T,k];refine a_ (mM ty ?_);let c1:oP (.ref L) (.ref a)=eM:=by
  let:L≠a:=by rw[<- c];exact ny p
  simp[oP,this]
 rw[eQ (by rw[c1];decide)];refine a_ (GS (s:={ s with heap:=H }) k (S _ _ T) hd r y λR d C bg X M=>?_);let ak:mS { s with heap:=R,drawn:=d } (.ref a) "set":=[_,X _ _ (S _ _ T),k];refine a_ (fV (EL ak ?_));show eV _ A.in1 (rule "list.extend.makes-room" >>= λ_=>Builtin.List.listTouch (.ref L) >>= λ_=>again (.builtin "list.extend.loop" [#[.ref L,.ref C,.ref L],[]])) _ _ _;refine a_ (sJ (a_ ?_));show eV _ A.in1 (updateSeq L (·.push .none) >>= λ_=>updateSeq L (·.pop)) _ _ _;let x:=X _ _ O;refine a_ (wpAny_updateSeq (s:={ s with heap:=R,drawn:=d }) x rfl ?_);let i:=p_ (fJ (·.push fP)) x I;refine wpAny_updateSeq i I ?_;let af:=p_ (fJ (·.pop)) i I;let n:∀b P,b≠L->R.get? b=g P->((R.update L (fJ (·.push fP))).update L (fJ (·.pop))).get? b=g P:=λb P nb e=>
  (n_ _ _ (fQ nb)).trans ((n_ _ _ (fQ nb)).trans e)
 let ah:a≠C:=λz=>by
  rw[<- z]at M;let:=S _ _ T;let N:H.get? a=U:=M;rw[this]at N;cases N
 let am:L≠C:=λz=>by
  rw[<- z]at M;let N:H.get? L=U:=M;rw[O]at N;cases N
 let[vs,fp,St,u,W,ai,al]:=AT (prog:=prog) (A:=A.in1.in1) (by exact hh) (h:=R) [o,X _ _ (S _ _ T),hd] r B ah M bg;let m:L∉fp:=λz=>by
  rcases al L z with e|e
  .exact fA e (by rw[<- c];exact ny p)
  .have K:H.get? L=U:=e
   rw[O]at K;cases K
 let aj:=W.frame 0 { s with heap:=R,drawn:=d } _ s.toks (ai _ rfl) (b' _) λb hb P e=>n b P (λz=>m (z▸hb)) e;refine b_ [pG F.plain_extend_loop _,codeAny_extend_loopS W.of_in1 y L m _ es.size 0 _ _ _ I (de _) aj af (ItemsOf.nil _) λs' ad c' f ag ae=>?_];show eV _ A (load L >>= _) _ _ s';refine a_ (wpAny_load ag (b_ ?_));let ea:ad.toList=vs:=by
  let[z1,z2]:=ae;let lv:vs.length=es.size:=by rw[u.length_eq,cn,hH]
  refine vV λj=>?_;rw[rr];by_cases q:j<ad.size
  .rw[qd q]
   exact(z2 j _ (qd q)).symm
  .rw[ww zY,lZ zY]
 rw[ea];refine h s' vs u (λb P e=>f.heap b P (λz=>?_) (n b P (λz=>?_) (X b P (S b P e)))) f.gens f.os
 .rcases cr.mp z with z|z
  .rw[z,v]at e
   cases e
  .rw[d_.mp z]at e
   let K:=S _ _ e;let N:H.get? C=U:=M;rw[K]at N;cases N
 .rw[z,v]at e
  cases e
end
section
variable {prog:eY} {w:fF} {A:fL} {E:eJ->eO->Prop} {s:eO}
def LV{x:eJ}{Q:eJ->eO->Prop}(h:Q (.ref ⇑s) { s with heap:=s.heap.push { cls:=.type "set",dict:=U,data:=.set #v[] 0 (.fresh 0 0 (!w.params.followText "set-order")) } }) :
  jI (fC prog w) A (.call (.builtin "set.__new__") [#[.type "set",x],[]]) (wants Q E) s:=by
 refine rR ?_;show eV _ A.in1 (do qV "set.__new__" [#[.type "set",x],[]];again (.builtin "set.__new__" [#[.type "set",x],[]])) _ _ s;refine a_ (jK (F.newCall_set_1 x) (b_ [pG F.plain_set_new _,jX F.entry_set_new ?_]));rw[jC F.plain_set_new _];unfold iQ.«set.__new__» Builtin.Frozenset.newClass;let j:=sub_set_self;let[H,L,d,B,C]:=s
 dsimp only
 wp_walk
 refine qS (b_ ?_)
 dsimp only
 simp only[newObj];exact a_ (wpAny_alloc (b_ (b_ h)))
variable {R:sZ->eO->Prop} {d:J} {fp wr:List J} {f:Array lH->Array lH->Prop} {n:Nat} {P:Nat->eJ->Prop} {St:Nat->eO->Prop}
def cO.keep{h h':fK}{a:J}{K:Type}[DecidableEq K]{knd:KeyKind prog w K}{ks:List K}(B:cO knd h a ks)(k:∀o,h.get? a=g o->h'.get? a=g o):cO knd h' a ks:=by
 let[o,H,C,t,j,r]:=B;exact[o,H,C,t,k o j,r]
def D9{K:Type}[DecidableEq K]{knd:KeyKind prog w K}{mk:K->Nat->eJ}(aa:∀k t,knd.is k (mk k t)=eP)(ad:∀k t,(mk k t).scannable=eP)(W:WalksS prog w A.in1 d fp wr f n P St)(S:J)(u:S∉fp)(N:Nat->K)(hv:∀i v,P i v->∃t,v=mk (N i) t)(M:n+1<jO) :
  ∀(k i:Nat) (s:eO) (ks:List K),n-i=k->i<=n->St i s->cO knd s.heap S ks->(∀y,y∈ks↔∃j,j<i/\N j=y)->ks.length<=i ->
   (∀s' F,Moved (S::wr) f s s'->cO knd s'.heap S F->(∀y,y∈F↔∃j,j<n/\N j=y)->F.length<=n->R (.ok (.ret .none)) s') ->
   jI (fC prog w) A (.builtin "set.update.loop" [#[.ref S,.ref d],[]]) R s:=by
 let q:S∉wr:=λz=>u (W.sub _ z);let Q:∀b∈wr,b∈S::wr:=λb M=>e_ _ M;intro k
 induction k with
 |zero=>
  intro i s ks hk hi p B O X H;let e:i=n:=by lia
  subst e;refine jX lB ?_;rw[jC iT _];show eV _ A.in1 (kQ (.ref d) >>= _) _ _ s;refine a_ (W.done s _ _ p λs' T=>?_);show eV _ A.in1 (ret fP) _ _ s';exact b_ (H s' ks (T.mono Q) (B.keep λo e=>T.heap S o q e) O X)
 |succ k ih=>
  intro i s ks hk hi p B O X H;refine jX lB ?_;rw[jC iT _];show eV _ A.in1 (kQ (.ref d) >>= _) _ _ s;refine a_ (W.item i s _ _ Z p λv s' hP ae T=>?_);let[h,rfl]:=hv i v hP;let g':=B.keep λo e=>T.heap S o q e;show eV _ A.in1 (iY #[mk (N i) h] (setAdd S (mk (N i) h)) >>= _) _ _ s';refine a_ (fV ?_);unfold setAdd;refine fV (a_ (knd.pyHash (k:=N i) (aa _ _) ?_));refine US (knd:=knd) (s:={ s' with toks:=s'.toks+1 }) (aa _ _) (ad _ _) g' Z λb h' F x g2 r=>?_;let C:F.length<=i+1:=by
   rw[r.length_eq]
   split
   .lia
   .rw[fy,o5];lia
  let ab:∀y,y∈F↔∃j,j<i+1/\N j=y:=λy=>by
   rw[r.mem_iff];constructor
   .intro l
    split at l
    .let[j,a,L]:=(O y).mp l
     exact[j,Z,L]
    .rcases gw.mp l with z|z
     .let[j,a,L]:=(O y).mp z
      exact[j,Z,L]
     .exact[i,Z,(d_.mp z).symm]
   .rintro ⟨j,a,L⟩
    let ac:∀{z},z∈ks->z∈(if N i∈ks then ks else ks++#[N i]):=λ{z} m=>by
     split
     .exact m
     .exact vv _ m
    by_cases c:j<i
    .exact ac ((O y).mpr [j,c,L])
    .have e:j=i:=by lia
     subst e
     split
     .rw[<- L];assumption
     .rw[<- L];exact mu _ (d_.mpr I)
  refine b_ [pG iT _,ih (i+1) _ F Z Z (W.frame _ s' _ _ ae (nh _) λb M o e=>?_) g2 ab C λs2 af ag g3 m3 l3=>?_]
  .rw[x.2 b (λz:b=S=>u (by rw[<- z];exact M))];exact e
  .refine H s2 af (Moved.trans W.gtrans ((T.mono Q).then_heap (nh _) λb o M e=>?_) ag) g3 m3 l3
   rw[x.2 b (λz:b=S=>M (by rw[z];exact fk))];exact e
end
section
variable {prog:eY} {w:fF} {A:fL} {E:eJ->eO->Prop} {s:eO}
abbrev Uk(w:fF):gS:={ cls:=.type "set",dict:=U,data:=.set #v[] 0 (.fresh 0 0 (!w.params.followText "set-order")) }
def DT{h:fK}{a:J}{K:Type}[DecidableEq K]{knd:KeyKind prog w K}(j:h.get? a=g (Uk w)):cO knd h a []:=by
 refine[_,#v[],0,_,j,[I,I,I],I,.nil,vi,Y,I,?_];exact O4 (w.params.followText "set-order")
set_option maxRecDepth 100000 in
def D3{K:Type}[DecidableEq K]{knd:KeyKind prog w K}{mk:K->Nat->eJ}(ag:∀k t,knd.is k (mk k t)=eP)(af:∀k t,(mk k t).scannable=eP)(dd:K){l:J}{items:Array eJ}{ns:List K}{Q:eJ->eO->Prop}(hh:A.handled=U)(hl:s.heap.IsList l items)(hi:∀(i:Nat) (v:eJ),items[i]?=g v->∃t,v=mk (ns.getD i dd) t)(f:items.size=ns.length)(hb:items.size+1<jO)
  (h:∀(h':fK) (tk:Nat) (ks:List K),cO knd h' ⇑s ks->(∀y,y∈ks↔y∈ns)->ks.length<=items.size->(∀b o,s.heap.get? b=g o->h'.get? b=g o)->Q (.ref ⇑s) { s with heap:=h',toks:=tk }) :
  eV (fC prog w) A (call (.type "set") #[.ref l]) Q E s:=by
 let[c,tl,ak]:=F.called_set.mro;let aj:=F.called_set.made;let al:=F.called_set.sub;let h1:=F.called_set.notType;let h2:=F.called_set.canCreate;let ap:=F.typeCall_set_1 (.ref l);refine iE (rR (show eV _ _ (callAny (.type "set") _) _ _ _ from ?_));refine b_ [nP _ G,jX F.entry_type_call ?_];rw[Around.under_plain (weight_type_call_type "set" #[.ref l] []) I]
 repeat (any_goals (first|assumption|wp_step))
 refine hJ (LV (x:=.ref l) (E:=E) (Q:=λv N=>v=.ref ⇑s/\N={ s with heap:=s.heap.push (Uk w) }) [rfl,rfl]) λr N W=>?_;cases r with
 |error e=>exact W
 |ok n=>
  cases n with
  |ret a0=>
   let[rfl,rfl]:=W;let M:(s.heap.push (Uk w)).get? ⇑s=g (Uk w):=h_ _ I;let hT:mS { s with heap:=s.heap.push (Uk w) } (.ref ⇑s) "set":=[_,M,rfl];let an:=F.called_set.init.lookup;let ao:=F.called_set.init.bind (.ref ⇑s)
   repeat (any_goals (first|assumption|wp_step))
   refine hJ (jL (R:=wants (λr O=>r=.none/\∃h' tk ks,O={ s with heap:=h',toks:=tk }/\cO knd h' ⇑s ks/\(∀y,y∈ks↔y∈ns)/\ks.length<=items.size/\(∀b o,s.heap.get? b=g o->h'.get? b=g o)) E)
    F.called_set.init.plain F.entry_set_init (check_set_init_1 hT ?_)) λP O L=>?_
   .let[[oc,od,am,a],S,B,q,H]:=id hl
    simp only at B H;subst B H;let ac:(s.heap.push (Uk w)).get? l=g { cls:=.type "list",dict:=od,data:=.seq items q,slots:=a }:=dv _ S;let u:(s.heap.push (Uk w)).IsList l items:=[_,ac,I,q,I];let d:l<⇑s:=dn S;let u1:=F.sub_list_set;let u2:=F.sub_list_frozenset;let u3:(gO "list"== gO "dict")=eM:=by lk
    unfold iQ.«set.__init__» noKeywords Builtin.Frozenset.updateFrom;generalize ah:sQ=PI
    wp_walk
    subst ah;refine pT u (a_ (wpAny_runValue ?_));let X:(s.heap.push (Uk w)).objs.size=⇑s+1:=rz ..;let ne:l≠(s.heap.push (Uk w)).objs.size:=by rw[X];exact fj (vu d)
    let h3:A.in1.in1.in1.handled=U:=by simp[hh]
    let nf:⇑s∉#[(s.heap.push (Uk w)).objs.size,l]:=by
     rw[X];intro z;rcases cr.mp z with z|z
     .exact fA z (fj (vn _))
     .exact fA (d_.mp z) (ny d)
    refine D9 ag af ((Walks.list h3 _ l ne items).toS) ⇑s nf (λi=>ns.getD i dd) hi hb (items.size-0) 0 _ [] Z (de _) [[_,h_ _ I,I,I],u.push _] (DT (dv _ M)) (λy=>[λz=>(nomatch z),λ⟨j,z,_⟩=>fA z (t_ _)]) (de _) λs' ks T C m ab=>?_;let[h',g',d',aa,ad]:=s';let eg:g'=s.gens:=T.gens;let ed:d'=s.drawn:=T.drawn;let eo:ad=s.os:=T.os;subst eg ed eo;refine b_ (b_ [I,h',aa,ks,I,C,λy=>?_,ab,λb o e=>?_])
    .rw[m y]
     constructor
     .rintro ⟨j,z1,z2⟩
      rw[<- z2];show ns.getD j dd∈ns;rw[l_,hD Z];exact vk _
     .intro z
      let[j,hj,e]:=pb z;refine[j,Z,?_];show ns.getD j dd=y;rw[l_,hD hj];exact e
    .refine T.heap b o (λz=>?_) (dv _ (dv _ e))
     let p:=dn e;rcases cr.mp z with z|z
     .exact fA z (fj p)
     .exact fA (d_.mp z) (by rw[X];exact fj (vu p))
   .cases P with
    |error e=>exact L
    |ok ae=>
     cases ae with
     |ret r=>
      let[rfl,h',tk,ks,rfl,C,m,f,k]:=L
      repeat (any_goals (first|assumption|wp_step))
      exact h _ _ ks C m f k
     |_=>exact L.elim
  |_=>exact W.elim
def set_of_list{l:J}{items:Array eJ}{ns:List Int}{Q:eJ->eO->Prop}(j:A.handled=U)(C:s.heap.IsList l items)(B:PyProof.Rows.IntsAre items.toList ns)(F:items.size+1<jO)
  (h:∀(h':fK) (tk:Nat) (ks:List Int),cO (intKind prog w) h' ⇑s ks->(∀y,y∈ks↔y∈ns)->ks.length<=items.size->(∀b o,s.heap.get? b=g o->h'.get? b=g o)->Q (.ref ⇑s) { s with heap:=h',toks:=tk }) :
  eV (fC prog w) A (call (.type "set") #[.ref l]) Q E s:=
 D3 (mk:=.int) (λx x=>intKind_is _ _ _ _) (λx x=>I) 0 j C (λi v e=>uW B i v (by rw[rr];exact e)) (by rw[<- hH];exact B.length) F h
end
end CST
namespace CST
open PySem PyProof.Rows
section
variable {prog:eY} {w:fF} {A:fL} {E:eJ->eO->Prop} {s:eO}
theorem Pi:∀{l} {ks:List Int},jU (OL (intKind prog w)) l ks->iP (l.map (·.2)) ks
 |_,_,.nil=>.nil
 |e::l,k::ks,.cons r t=>by
  let[B,h]:=uU r.1;rw[iw,h];exact .cons k B (Pi t)
def AO:∀{vs us},vs.Perm us->∀{ns:List Int},iP us ns->∃j:List Int,iP vs j/\j.Perm ns:=by
 intro vs us p;let q:=p.symm;clear p
 induction q with
 |nil=>intro ns h;exact[ns,h,jQ _]
 |cons x _ N=>
  intro ns h;cases h with
  |cons n t r=>
   let[j,M,L]:=N r;exact[n::j,.cons n t M,L.cons n]
 |swap x y l=>
  intro ns h;cases h with
  |cons n t r=>
   cases r with
   |cons m u C=>exact[_,.cons m u (.cons n t C),pD _ _ _]
 |trans _ _ F S=>
  intro ns h;let[P,M,B]:=F h;let[H,L,O]:=S M;exact[H,L,O.trans B]
def sorted_set{a:J}{ks:List Int}{Q:eJ->eO->Prop}(p:A.handled=U)(B:cO (intKind prog w) s.heap a ks)(aa:ks.length<64)
  (h:∀(s':eO) (l:J) (out:Array eJ) (S:List Int) (e:Nat),iP out.toList S->S.Perm ks->S.Pairwise (· <= ·)->(∀b o,s.heap.get? b=g o->s'.heap.get? b=g o)->a<l->s'.heap.get? l=g (fU "list" out e)->s'.gens=s.gens->s'.os=s.os->Q (.ref l) s') :
  eV (fC prog w) A (call (.builtin "sorted") #[.ref a]) Q E s:=by
 let[o,T,ep,t,W,H,y,R,x,hb,K,u]:=B;let M:T.size=ks.length:=by rw[<- hH];exact kC R
 let j:T.size<=sizeLine:=by rw[ck];lia
 refine qN kind_sorted vF vK (args_sorted1 _) ?_;unfold iQ.«sorted»;refine a_ (m:=checkCount "sorted" 1 1 _) (b_ (a_ (Zs (by exact p) H.1 W y K u j λs' N C k X q=>?_)));let c:N.length=ks.length:=by rw[C.length_eq,cn,hH,M]
 let[S,v,d]:=AO C (Pi R);refine a_ (lR ?_ (by rw[c,<- M];exact j));let F:(s'.heap.push (fU "list" N.toArray 0)).get? ⇑s'=g (fU "list" N.toArray 0):=h_ _ I;refine a_ (fV (gR sN [_,F,I] rQ (list_sort_tree (s:={ s' with heap:=s'.heap.push (fU "list" N.toArray 0) }) F v Z λout P n f r=>[_,I,?_]) (args_list_sort _)));refine b_ [_,I,?_];let[e,i]:=sortedHeap_at (out:=out) F;let O:∀b L,s.heap.get? b=g L->b<⇑s':=λb L z=>dn (k b L z);refine h _ ⇑s' out P e n (f.trans d) r (λb L z=>?_) ?_ i X q
 .show (sortedHeap _ _ _ _).get? b=_
  rw[sortedHeap_old (fj (O b L z)) (by rw[size_push'];exact vu (O b L z))];exact dv _ (k b L z)
 .exact O a o W
end
end CST
namespace L2
open PySem PySem.Spec PyProof.Rows PySem.W
theorem Uq:∀{us} {ns:List Int},iP us ns->Ap (ns.map V.int) us
 |_,_,.nil=>.nil
 |_,_,.cons n t r=>.cons [t,I] (Uq r)
section
variable {X:Cx}
def GW(K:a')(N:TE):TE:=λM H Q=>N M H λx C=>∃(a:J) (B:List Int),x=.ref a/\Am K C a (B.map V.int)/\B.length<64 /\
 ∀(l:J) (L:List Int),C l=U->L.Pairwise (· < ·)->(∀y,y∈L↔y∈B)->Q (.ref l) (upd C l (.lst (L.map V.int)))
theorem Pq:∀{j:List Int},j.Pairwise (· <= ·)->j.Nodup->j.Pairwise (· < ·)
 |[],_,_=>.nil
 |x::j,h,n=>by
  rw[o0]at h;rw[lj]at n;rw[o0];refine[λy F=>?_,Pq h.2 n.2];let:=h.1 y F;let B:x≠y:=λz=>n.1 (by rw[z];exact F)
  lia
def K7{e:gK}(he:PE X e i)(hc:X.calm=eP)(O:Gl X "sorted")(ab:X.mg "sorted"=U)(aa:Gl X "set")(ae:X.mg "set"=U)
  (ac:fz "sorted"=g (.builtin "sorted"):=by rfl) (K:fz "set"=g (.type "set"):=by rfl)
  (R:eX #[.Call (.Name "set" f) #[e] [] c] X.env=#[(eM,gC (.Call (.Name "set" f) #[e] [] c) X.env)]:=by rfl) (W:eX #[e] X.env=#[(eM,gC e X.env)]:=by rfl) :
  PE X (.Call (.Name "sorted" p1) #[.Call (.Name "set" f) #[e] [] c] [] d) (GW X.K i):=by
 intro P s σ H Q C h;refine gB (Fy C O ab ac ?_ Y Y);refine jS ?_ R I;rw[R];show eV _ _ (pV ((eM,gC (.Call (.Name "set" f) #[e] [] c) X.env)::gH d [])) _ _ s;refine gJ ?_;refine gB (Fy C aa ae K ?_ Y Y);refine gG ?_ W I;rw[W];show eV _ _ (pV ((eM,gC e X.env)::gH c [])) _ _ s;refine gJ (Ct (he P s σ H _ C h) λu N h9=>?_);let[x,r,F,r1,a,ns,ex,hq,af,q]:=h9;subst ex;cases r1;refine gU ?_;let[M,t,w,hz]:=F.list hq;let hl:=t.length;rw[cn]at hl;let v:X.A.handled=U:=C.ok.hd hc;refine CST.set_of_list (items:=M.toArray) (ns:=ns) v w.isList (Sj t) (by rw[dw];unfold jO;lia) λm tk ks B p A k2=>?_;refine gU ?_;rw[dw]at A;refine CST.sorted_set (s:={ N with heap:=m,toks:=tk }) v B Z λs' l o j ee im k pw k3 al ad eg eo=>?_;let S:j.Nodup:=by
  let[_,_,_,_,_,_,_,_,S,_]:=B;exact k.nodup_iff.mpr S
 let n:=Pq pw S;let kk:∀b T,N.heap.get? b=g T->s'.heap.get? b=g T:=λb T z=>k3 b T (k2 b T z);let L:⇑N<=l:=uu al;let lp:(j.map V.int).length<=sizeLine:=by rw[cn,k.length_eq,ck];lia
 let E:Cf X.prog X.w (upd r l (.lst (j.map V.int))) s'.heap l (.lst (j.map V.int)):=[lp,o.toList,ee,Uq im,ad];refine[.ref l,upd r l (.lst (j.map V.int)),F.call' (s':=s') (ch:=[]) eo (Un.laid kk L (F.hok.fresh L)) (F.hok.laid kk L E) (by rw[eg];exact F.bare) (λb z=>(nomatch z)),I,q l j (F.hok.fresh L) n λy=>?_];rw[k.mem_iff];exact p y
def Qz{ns:List Int}{its:List eJ}(L:Ap (ns.map V.int) its):∃ys,its.toArray=nX ys/\ys.size=ns.length/\∀i,(h:i<ns.length)->rE ys i=ns[i]:=by
 let M:iP its ns:=Sn L;let[ys,j]:=M.allInts.items;let F:its.length=ns.length:=M.length;let O:ys.size=ns.length:=by
  let z:=gF Array.size j;rw[dw]at z;unfold nX at z;rw[Array.size_map]at z
  lia
 refine[ys,j,O,λi h=>?_];let[u,N,t,B]:=L.get (i:=i) (x:=.int ns[i]) (by rw[jk,hD h];rfl);let C:(nX ys)[i]?=g u:=by rw[<- j,wy];exact N
 let[P,S]:=intItems_at C;rw[B]at S;injection S with H;exact H.symm
def ML(K:a')(L:Int->Int->Prop):List V->Hp->VK->Prop:=λC H Q=>∃p,∃B:List Int,C=#[.ref p]/\Am K H p (B.map V.int)/\B≠[]/\∀m∈B,(∀k∈B,L m k)->Q (.int m) H
def AL(C:X.calm=eP):Fm X (.builtin "min") (ML X.K (λm k=>m<=k)):=by
 intro R s σ H y us Q B r h;let[p,P,rfl,d,F,q]:=h;let[u,rfl,E]:=Ku r;cases E;let[aa,f,W,n]:=B.list d;let[O,K,a,S]:=Qz f;let c:s.heap.IsList p (nX O):=K▸W.isList;let T:0<P.length:=List.length_pos_iff.mpr F;refine min_intList (B.ok.hd C) c Z λv w x b N=>?_;let[l,M]:=argBest_lt (rE O) (O.size-1);let[t,rfl]:=intItems_at b;generalize argBest (λi j=>decide (rE O i<rE O j)) (O.size-1)=z at l M;let o:z<P.length:=by lia
 refine[.int (rE O z),H,B.kept N,[t,I],q _ ?_ λk L=>?_]
 .rw[S z o]
  exact vk _
 .let[j,A,e]:=pb L
  rw[<- e,<- S j A];exact M j Z
def BB(C:X.calm=eP):Fm X (.builtin "max") (ML X.K (λm k=>k<=m)):=by
 intro R s σ H y us Q B r h;let[p,P,rfl,d,F,q]:=h;let[u,rfl,E]:=Ku r;cases E;let[aa,f,W,n]:=B.list d;let[O,K,a,S]:=Qz f;let c:s.heap.IsList p (nX O):=K▸W.isList;let T:0<P.length:=List.length_pos_iff.mpr F;refine max_intList (B.ok.hd C) c Z λv w x b N=>?_;let[l,M]:=argBest_gt (rE O) (O.size-1);let[t,rfl]:=intItems_at b;generalize argBest (λi j=>decide (rE O i>rE O j)) (O.size-1)=z at l M;let o:z<P.length:=by lia
 refine[.int (rE O z),H,B.kept N,[t,I],q _ ?_ λk L=>?_]
 .rw[S z o]
  exact vk _
 .let[j,A,e]:=pb L
  rw[<- e,<- S j A];exact M j Z
def CJ:V->List V->Hp->VK->Prop:=λx L H Q=>∃l b C B,x=.ref l/\L=#[.ref b]/\H l=g (.lst C)/\H b=g (.tup B)/\C.length+B.length<=sizeLine/\Q .non (upd H l (.lst (C++B)))
def L3:MO X "list.extend" CJ:=by
 intro O s i H x y v us Q B W A h;let[l,b,k,E,rfl,rfl,C,d,o,q]:=h;cases W;let[u,rfl,c]:=A.one;cases c;let[z,L,n,r,p,e]:=B.lstM C;let[t,j,N,w,P,S,f,M]:=(show Cf X.prog X.w H s.heap b (.tup E) from B.hok b _ d);let m:=r.length;let a:=N.length;let K:L.toArray.size+j.toArray.size<=sizeLine:=by rw[dw,dw];lia
 let R:¬(!L.toArray.isEmpty&&jB (L.toArray.size+j.toArray.size))=eP:=by rw[Zq K,mr];exact f_
 refine gR F.slot_list_extend [_,e,I] wM ?_ (vX _ _);show eV _ _ (iL (.ref l) (.ref b) .none) _ _ _;unfold iL;refine a_ (mM (T:="tuple") [_,P,S] ?_);rw[eR zZ];refine a_ (mQ P M (a_ (mQ e I ?_)));rw[eQ R];refine a_ (jG e I ?_ (by rw[dw];lia) (by rw[Array.size_append];lia));refine b_ [_,I,.non,_,B.lset (its':=L++j) C e zZ (r.append N) ?_,I,q];rw[fy]
 lia
end
end L2
namespace L2
open PySem PySem.Spec PyProof.Rows
structure LS where
 d:Int
 th:eU
 ca:eU
 ct:Int
def VD(H:Hp)(t:J)(x:LS):Prop:=∃B,∃n:Int,H t=g (.tup #[.int n,.int x.d,.str B,.str x.th,.str x.ca,.int x.ct])
structure Ki(P:eY)(w:fF)(K:a')(mg:eU->Option eJ)(base:fK)(k:Nat)(C:J)(m:eU)(ps:List eU)(sp:Sp):Prop where
 ex:∃f fd,Bp P w K mg base (Tg P w) k f fd ps sp/\Hi K fd ps []/\K6 K C m f
 cl:dD K C
section
variable {X:Cx} {k:Nat} {C:J} {m:eU} {ps:List eU} {sp:Sp} {e o:gK} {es:List gK} {apos pos:nA} {ta:TE} {t:TA} {W:St->XK}
inductive EX(C:J)(m:eU)(x:V)(H:Hp)(R:J->Prop):Prop
 |mk (a dx:J) (fs:List (eU×V)) (e:x=.ref a) (h:H a=g (.ins C dx fs)) (n:fs.lookup m=U) (q:R a)
def ON(C:J)(m:eU)(sp:Sp)(W:St->XK)(ta:TE)(t:TA):TE:=λB H Q=>ta B H λx L=>EX C m x L λa=>t B L λN M=>sp (.ref a::N) M Q (W B)
def Gh{pl:rV Bool}(M:Ki X.prog X.w X.K X.mg X.base k C m ps sp)(d:Bv k X.A)(N:cW X W)(i:PE X o ta)(P:PA X (e::es) t)
  (j:eX (e::es) X.env=(eM,gC e X.env)::eX es X.env:=by rfl) (T:(gH pos (eX es X.env)).any (·.1)=eM:=by rfl)
  (n:gC (.Call (.Attribute o m apos) (e::es) [] pos) X.env=(do
   let A <- gC o X.env
   kF apos.atName
   let (f,first) <- iY #[A] (jH A m pl)
   kN pos f first (gH pos (eX (e::es) X.env)) (jM pos (hX [] X.env))):=by rfl) :
  PE X (.Call (.Attribute o m apos) (e::es) [] pos) (ON C m sp W ta t):=by
 intro R s E H Q B h;let[f,fd,F,b,O]:=M.ex;refine tj (pl:=pl) (Ct (i R s E H _ B h) λu w z=>?_) n;let[x,v,S,p,a,dx,fs,y,c,l,q]:=z;subst y;obtain rfl:u=fD a:=p;refine Gc S c M.cl O l ?_;refine pi (first:=#[.ref a]) (h₀:=X.base) B.ok.mod.kin O.kp (Ct (P pos R w E v _ S q) λus s2 ⟨vs,H2,L,r,K⟩=>[L.kIn,?_]) j T;exact T6 (us:=.ref a::us) (vs:=.ref a::vs) F d b N L (.cons I r) K
end
end L2
namespace L2
open PySem PySem.Spec PyProof PyProof.Rows
def IJ(e:J)(c:eJ)(d:Option J):HO:=.ext λh=>∃B t,h.get? e=g B/\B.cls=c/\B.dict=d/\B.data=.fields #v[.ref t,.none,.none,.none,.bool eM,.none]
def unt(H:Hp)(e:J):Hp:=λb=>if b=e then U else H b
def Td{e:J}:unt H e e=U:=eR I
def Mj{e b:J}(n:b≠e):unt H e b=H b:=eQ n
section
variable {X:Cx} {pins:List (J×gS)} {σ:St} {H:Hp} {s:eO} {e:J}
def Ak.excN{c:eJ}{d:Option J}(B:Ak X pins σ H s)(h:H e=g (IJ e c d)):∃j t,s.heap.get? e=g j/\j.cls=c/\j.dict=d/\j.data=.fields #v[.ref t,.none,.none,.none,.bool eM,.none]:=
 (show Cf X.prog X.w H s.heap e (IJ e c d) from B.hok e _ h).1
def Cf.unt{w:fF}{h:fK}{a e:J}{M:fK->Prop}(j:H e=g (.ext M)):∀{o},Cf P w H h a o->Cf P w (L2.unt H e) h a o:=by
 intro o;let N:∀{b:J} {B:HO},H b=g B->(∀O,B≠.ext O)->L2.unt H e b=g B:=λ{b B} q n=>by
  rw[Mj]
  .exact q
  .intro z
   rw[z,j]at q;exact n M (gD q).symm
 induction o with
 |dT T=>
  intro x;let[L,F,Q,p,r]:=x;refine[L,F,Q,?_,r];exact Paired.mapP p λa b q=>[q.1,N q.2.1 (λy z=>by cases z),q.2.2]
 |ins C W A=>
  intro x;let[L,r]:=x;exact[N L (λy z=>by cases z),r]
 |frz o u R=>
  intro x;exact[x.1,R x.2]
 |_=>intro x;exact x
def Ak.unt{O:fK->Prop}(B:Ak X pins σ H s)(j:H e=g (.ext O)):Ak X pins σ (L2.unt H e) s:=by
 let N:∀{b:J} {M:HO},H b=g M->(∀P,M≠.ext P)->L2.unt H e b=g M:=λ{b M} q n=>by
  rw[Mj]
  .exact q
  .intro z
   rw[z,j]at q;exact n O (gD q).symm
 let C:∀{b:J},H b=U->L2.unt H e b=U:=λ{b} q=>by
  by_cases z:b=e
  .rw[z,Td]
  .rw[Mj z,q]
 refine[B.ok,B.os,B.bare,[B.base.keep,B.base.slot,λb o q n S=>C (B.base.free b o q n S),B.base.there,λb Q q=>N (B.base.tups b Q q) (λy z=>by cases z),λb o u q=>N (B.base.frzs b o u q) (λy z=>by cases z),λb W q=>?_],B.loc,B.cell,C B.free,λx c q=>C (B.freeC x c q),λp R=>?_,λb u q=>?_,B.len]
 .let[m,z]:=B.base.tbls b W q
  exact[m,N z (λy z=>by cases z)]
 .let[T,L,F]:=B.pin p R
  exact[T,C L,F]
 .have n:b≠e:=λz=>by rw[z,Td]at q;cases q
  rw[Mj n]at q;exact(B.hok b u q).unt j
end
section
variable {M:pH} {A:fL} {E:eJ->eO->Prop} {env:mB}
variable {nm q:eU} {C N:J} {bs bm:List eJ} {hdct:Bool} {sn:List eU} {sub:List eJ} {ab:Bool} {col:Option Bool} {dd:Option J} {k0 k1 k2 k3 k5:Option eJ} {newId:String}
def Pp{s:eO}{x:rV eJ}{Q:Flow->eO->Prop}(j:bm.contains (.type "BaseException")=eP)(T:A.handled=U)
  (h:eV M A x (λv L=>∃e O t,v=.ref e/\L.heap.get? C=g (lO nm q C N bs bm hdct sn sub ab col dd k0 k1 k2 k3 k5 newId) /\
   L.heap.get? e=g O/\O.cls=.ref C/\O.data=.fields #v[.ref t,.none,.none,.none,.bool eM,.none]/\E (.ref e) L) E s) :
  eV M A (raiseStmt env (g x) U) Q E s:=by
 let B:(fD C::bm).contains (.type "BaseException")=eP:=by rw[uY,j,Bool.or_true]
 unfold raiseStmt;refine a_ (gI h (λv L R=>?_) λy y x=>x);let[e,O,t,rfl,H,X,S,F,W]:=R;let[b,P,d,c,K]:=L;cases O;simp only at S F;subst S F
 repeat (first|with_reducible refine kE X ?_|with_reducible refine kE H ?_|(with_reducible refine wpAny_isSubtype_exc H ?_;rw[B])|wp_step)
 exact wpAny_raiseNew_none T W
end
section
variable {X:Cx} {x f:eU} {C:J} {np cpos pos apos:nA} {e o value:gK} {es:List gK} {t:TA} {ta tv:TE} {W:St->XK}
def UJ(K:a')(ta tv:TE)(f:eU):TS:=λD B H=>tv B H λy M=>ta B M λx L=>∃a C,x=.ref a/\L a=g (IJ a (.ref C) U)/\XSet K C f /\
 ∀d,L d=U->d≠a->D.nx B (upd (upd L a (IJ a (.ref C) (g d))) d (.xd #[(f,y)]))
def Q2(ha:PE X o ta)(i:PE X value tv)(b:kY value (g (.Attribute o f apos)) pos.line X.env=pure eM):PS X (.Assign #[.Attribute o f apos] value pos) (UJ X.K ta tv f):=by
 intro Q s R H D M h;refine qJ (Ct (i Q s R H _ M h) λu s1 ⟨y,v,m,ry,q⟩=>Ct (ha Q s1 R v _ m q) λov j h9=>?_) b;let[x,r,F,l,a,C,ex,P,N,d]:=h9;subst ex;obtain rfl:ov=fD a:=l;let[oe,t0,K,O,w,T]:=F.excN P;refine KL N F.kIn K O w T λc tk L n k=>?_;let S:j.heap.get? ⇑j=U:=sD (b' _);let E:=F.no S;let A:⇑j≠a:=(fj (dn K)).symm;let p:Ak X Q R (upd r a (IJ a (.ref C) (g ⇑j))) { j with heap:=c,toks:=tk }:=by
  refine F.write (x:=a) (e:=a) (by rw[P];exact hV) (.inl I) k [_,L] ?_;refine[[_,t0,L,O,I,T],[_,L],λp1 p2 pp kk=>?_];let[o1,v1,y1,y2]:=pp;exact[o1,v1,kk _ y1,y2]
 refine[R,_,p.trackO (o:=.xd #[(f,y)]) (F.fxOk S (by rw[Aj A];exact E)) [_,n,λB=>?_],d _ E A];by_cases z:B=f
 .subst z
  rw[eR I];simp only[q5,gV];exact ry
 .rw[eQ z]
  let:(B==f)=eM:=beq_eq_false_iff_ne.mpr z;simp only[q5,this];trivial
def KA(C:J)(sp:Sp)(W:St->XK)(t:TA):TS:=λy B H=>t B H λN M=>N.length<=sizeLine/\∀a,M a=U->sp (.ref a::N) (upd M a (IJ a (.ref C) U)) (λv L=>v=.non/\∃d,L a=g (IJ a (.ref C) (g d))/\W B (.ref C) (g d) (unt L a)) E0
def Vi{k:Nat}{ps}{sp}(hW:cW X W)(hc:X.calm=eP)(M:KH X.prog X.w X.K X.mg X.base k x C ps sp)(hr:Bv (k+1) X.A)(hg:Gl X x)(ha:PA X (e::es) t)
  (m:(x==("__debug__" : eU))=eM:=by lk) (he:eX (e::es) X.env=(eM,gC e X.env)::eX es X.env:=by rfl) (a5:(gH cpos (eX es X.env)).any (·.1)=eM:=by rfl) :
  PS X (.Raise (g (.Call (.Name x np) (e::es) [] cpos)) U pos) (KA C sp W t):=by
 intro O s σ H D L h;let[f,fd,[[a6,b,y,B,q,FB],fn,kp],F,hb,j]:=M.ex;let[bm,N,nm,qn,bs,l,sn,a0,ab,a4,dd,k0,k1,k2,k3,k5,mN,hC,hN,a2,T]:=F4 L.mod.kin q;let R:eV (fC X.prog X.w) X.A (gC (.Call (.Name x np) (e::es) [] cpos) X.env) (λv A=>∃a c t,v=.ref a/\A.heap.get? C=g (lO nm qn C N bs bm l sn a0 ab a4 dd k0 k1 k2 k3 k5 b) /\
   A.heap.get? a=g c/\c.cls=.ref C/\c.data=.fields #v[.ref t,.none,.none,.none,.bool eM,.none]/\X.xe (.ref a) A) X.xe s:=by
  refine gB (Ev L hg j ?_ m);refine pi (h₀:=X.base) L.ok.mod.kin kp (Ct (ha cpos O s σ H _ L h) λK s1 ⟨vs,H1,S,r,hl,q1⟩=>[S.kIn,?_]) he a5;let[of,lf,cf]:=pe.mp (show(X.K.lookup f).map (·.cls)=g (.type "function") from beq_iff_eq.mp fn);let i:=S.bk _ _ hC;let a3:=hN.keeps S.bk;let T1:=T.keeps S.bk;let[hh,gg,d,tk,os]:=s1;refine DQ FB T1 i a3 a2 (S.kIn _ _ lf) cf (by show K.length<=_;rw[<- r.length];exact hl) λh' P j=>?_;let[t0,ht,a7,_]:=j.there;let nH:=S.no j.new;let fx:cA X O H1 P:=S.fxOk j.new nH;let w:=(S.kept (t':=tk) j.keeps).trackO (o:=IJ P (.ref C) U) fx [[_,t0,ht,I,I,I],[_,ht],λp1 p2 pp kk=>by
   let[o1,v1,y1,y2]:=pp;exact[o1,v1,kk _ y1,y2]]
  let hq:=q1 P nH;let r2:Ap (V.ref P::vs) (fD P::K):=.cons I r;let e2:(fD P::K)++[]=fD P::K:=lq _;let a1:((fD P::K)++[]).length=ps.length:=by
   let z:=r2.length;rw[F.len _ _ _ _ hq]at z;rw[e2];exact z.symm
  let bd:=hb _ (fD P::K) w.kIn a1;rw[e2]at bd;refine iE (hJ (F.run _ X.stack _ _ [fD P::K,[]] (fD P::K) _ _ E0 (hr.make C K []) (w.env0.make C K []) bd r2 hq) λr s' E=>?_);cases r with
  |error e=>exact Mv O σ _ _ e s' w E
  |ok fl=>
   cases fl with
   |ret u=>
    let[v,H',n,rv,ev,d',eH,hw]:=w.after E;subst ev;let[c,t1,h1,h2,h3,h4]:=n.excN eH;exact[rv,P,c,t1,I,n.bk _ _ hC,h1,h2,h4,hW O σ (unt H' P) s' P (.ref C) (g d') (n.unt eH) [c,_,h1,h2,h3,h4,by show 1<6;decide,I,[Td,fx.2],.inl I] hw]
   |next=>exact fS E
   |brk=>exact fS E
   |cont=>exact fS E
 let hB:=T.hasType FB.hasBase;let hd:=L.ok.hd hc;rw[arm_exec_Raise]
 first
  |exact a_ (iB (Pp hB hd (a_ (gI R (λv p Q=>a_ (iB (b_ Q))) λ_ _ z=>z))))
  |(simp only[evalOpt,Option.map];exact a_ (iB (Pp hB hd (a_ (gI R (λv p Q=>a_ (iB (b_ Q))) λ_ _ z=>z)))))
end
def E8{X}{K}{f}{B}{e}{C}(F:PE X e C)(L:iC e f X.env (gC e X.env)=gC e X.env)(j:X.K=K:=by rfl):PE X (.Attribute e f B) (MB K C f):=j▸KO F L
def Jt{X}{K}{f}{B}{e}{C}(F:PE X e C)(L:iC e f X.env (gC e X.env)=gC e X.env)(j:X.K=K:=by rfl):PE X (.Attribute e f B) (WP K C f):=j▸Bd F L
def D8{X:Cx}:Ko X (jD .Mult) (λx y H Q=>∃(l:List Nat) (n:Int),x=.str (tx l)/\y=.int n/\0<=n/\n<=1000/\l.length<=1000/\Q (.str (tx (kq n.toNat l).flatten)) H):=by
 intro M s N H x y v u Q C j F h;let[l,n,rfl,rfl,O,L,S,q]:=h;by_cases c:1<=n
 .exact M0 M s N H _ _ v u Q C j F [l,n,I,I,c,L,S,q]
 .obtain rfl:n=0:=by lia
  let[t,rfl]:=j;let[B,rfl]:=F;exact PySem.P.mul_str_none Y Y [.str lK,H,C.tok _,[_,I],q]
end L2
namespace CST
open PySem
section
variable {prog:eY} {w:fF} {A:fL} {E:eJ->eO->Prop} {s:eO}
def set_of_strs{l:J}{items:Array eJ}{ns:List eU}{Q:eJ->eO->Prop}(j:A.handled=U)(B:s.heap.IsList l items)(C:∀(i:Nat) (v:eJ),items[i]?=g v->∃t,v=.str (ns.getD i lK) t)(F:items.size=ns.length)(L:items.size+1<jO)
  (h:∀(h':fK) (tk:Nat) (ks:List eU),cO (strKind prog w) h' ⇑s ks->(∀y,y∈ks↔y∈ns)->ks.length<=items.size->(∀b o,s.heap.get? b=g o->h'.get? b=g o)->Q (.ref ⇑s) { s with heap:=h',toks:=tk }) :
  eV (fC prog w) A (call (.type "set") #[.ref l]) Q E s:=
 D3 (mk:=.str) (λx x=>strKind_is _ _ _ _) (λx x=>I) lK j B C F L h
end
end CST
namespace L2
open PySem PySem.Spec PyProof PyProof.Rows
section
variable {α:Type} [DecidableEq α]
theorem Mq:∀{ks ss:List α},ks.Nodup->(∀y∈ks,y∈ss)->ks.length<=ss.length
 |[],_,_,_=>de _
 |k::ks,ss,j,h=>by
  rw[lj]at j;let L:=h k fk;let B:=Mq (ks:=ks) (ss:=ss.erase k) j.2 λy F=>(wu (λz=>j.1 (by rw[<- z];exact F))).mpr (h y (e_ _ F));rw[wz L]at B;let:0<ss.length:=wo L;rw[c_]
  lia
theorem E4:∀{ss:List α},¬ss.Nodup->∃x,x∈ss/\x∈ss.erase x
 |[],h=>fA vi h
 |y::t,h=>by
  by_cases c:y∈t
  .exact[y,fk,by rw[List.erase_cons_head];exact c]
  .let[x,B,j]:=E4 (ss:=t) (λz=>h (lj.mpr [c,z]))
   let C:¬(y==x)=eP:=λz=>c (by rw[beq_iff_eq.mp z];exact B);exact[x,e_ _ B,by rw[List.erase_cons_tail C];exact e_ _ j]
def FF{ks ss:List α}(F:ks.Nodup)(m:∀y,y∈ks↔y∈ss):(ss.Nodup->ks.length=ss.length)/\(¬ss.Nodup->ks.length<ss.length):=by
 refine[λh=>Nat.le_antisymm (Mq F λy j=>(m y).mp j) (Mq h λy j=>(m y).mpr j),λh=>?_];let[x,B,L]:=E4 h;let:=Mq (ss:=ss.erase x) F λy j=>by
  by_cases c:y=x
  .rw[c];exact L
  .exact(wu c).mpr ((m y).mp j)
 rw[wz B]at this;let:0<ss.length:=wo B
 lia
end
theorem U6:∀{ss:List eU} {us:List eJ},Ap (ss.map V.str) us->∀(i:Nat) (v:eJ),us[i]?=g v->∃t,v=.str (ss.getD i lK) t
 |[],_,.nil,i,v,e=>by simp at e
 |_::_,_::_,.cons r _,0,v,e=>by
  simp at e;subst e;let[t,rfl]:=r;exact[t,I]
 |_::ss,_::us,.cons _ q,i+1,v,e=>by
  let[t,rfl]:=U6 q i v (by simpa using e);exact[t,zZ]
def LU(K:a')(M:TE):TE:=λL H Q=>M L H λx C=>∃a B,x=.ref a/\Am K C a (iF V.str B)/\B.length<60/\∀n:Nat,(B.Nodup->n=B.length)->(¬B.Nodup->n<B.length)->Q (.int (n:Int)) C
section
variable {X:Cx}
def AG{e:gK}{d:TE}{w W F j:nA}(he:PE X e d)(hc:X.calm=eP)(S:Gl X "len")(O:X.mg "len"=U)(N:Gl X "set")(ab:X.mg "set"=U)
  (M:fz "len"=g (.builtin "len"):=by rfl) (E:fz "set"=g (.type "set"):=by rfl)
  (R:eX #[.Call (.Name "set" W) #[e] [] j] X.env=#[(eM,gC (.Call (.Name "set" W) #[e] [] j) X.env)]:=by rfl) (T:eX #[e] X.env=#[(eM,gC e X.env)]:=by rfl) :
  PE X (.Call (.Name "len" w) #[.Call (.Name "set" W) #[e] [] j] [] F) (LU X.K d):=by
 intro P s σ H Q C h;refine gB (Fy C S O M ?_ Y Y);refine jS ?_ R I;rw[R];show eV _ _ (pV ((eM,gC (.Call (.Name "set" W) #[e] [] j) X.env)::gH F [])) _ _ s;refine gJ ?_;refine gB (Fy C N ab E ?_ Y Y);refine gG ?_ T I;rw[T];show eV _ _ (pV ((eM,gC e X.env)::gH j [])) _ _ s;refine gJ (Ct (he P s σ H _ C h) λu s1 h9=>?_);let[x,n,k,r1,a,f,ex,hq,ac,q]:=h9;subst ex;cases r1;refine gU ?_;let[L,p,r,hz]:=k.list hq;let l:=p.length;rw[cn]at l;let hh:X.A.handled=U:=C.ok.hd hc;let hv:∀(i:Nat) (v:eJ),L.toArray[i]?=g v->∃t,v=.str (f.getD i lK) t:=λi v e=>by
  rw[wy]at e;exact U6 p i v e
 refine CST.set_of_strs (items:=L.toArray) (ns:=f) hh r.isList hv (by rw[dw];exact l.symm) (by rw[dw];unfold jO;lia) λc tk b B K A k2=>?_;refine gU ?_;rw[dw]at A;let[o,es,ep,t,ho,aa,hd,y,m,ad,z,_]:=B;let[z1,z2]:=FF m K;let le:es.size=b.length:=by rw[<- hH];exact y.length
 refine call_len_set (s:={ s1 with heap:=c,toks:=tk }) ho aa hd z Z ?_;exact[.int (b.length:Int),n,k.kept (h':=c) k2,[_,by rw[le]],q b.length z1 z2]
end
end L2
namespace L2
open PySem PySem.Spec PyProof.Rows PySem.W
section
variable {prog:eY} {w:fF} {A:fL} {E:eJ->eO->Prop} {s:eO}
def W8:eJ->Prop
 |.int _ _=>True
 |.str _ _=>True
 |_=>False
theorem A5{Q:Bool->eO->Prop}:∀{xs:List eJ} (i:Nat),(∀v∈xs,W8 v)->Q eM s->KatLex prog w A eP eM Q (xs.zip xs) i s
 |[],i,_,h=>kat_nil h
 |v::xs,i,p,h=>by
  let B:=A5 (xs:=xs) (i+1) (λu j=>p u (e_ _ j)) h;let pv:=p v fk;rw[nO];cases v with
  |int n t=>
   refine kat_cons (mD ?_);rw[gV];exact kat_yes B
  |str n t=>
   refine kat_cons (wpAny_eqBool_str ?_);rw[eT I];exact kat_yes B
  |_=>exact pv.elim
def cZ(h:fK):List eJ->List Int->Prop
 |[],[]=>True
 |v::H,r::C=>(∃(t:J) (u:vN) (B:List eJ),v=.ref t/\tO h t (jR r u::B).toArray/\∀z∈B,W8 z)/\cZ h H C
 |_,_=>False
theorem cZ.keep{h h':fK}(j:∀b o,h.get? b=g o->h'.get? b=g o):∀{vs} {B:List Int},cZ h vs B->cZ h' vs B
 |[],[],_=>trivial
 |[],_::_,z=>z.elim
 |_::_,[],z=>z.elim
 |v::vs,r::B,[[t,u,m,e,[o,F,L],z],q]=>[[t,u,m,e,[o,j _ _ F,L],z],q.keep j]
theorem cZ.at{h:fK}:∀{vs} {C:List Int} {i:Nat},cZ h vs C->i<vs.length->∃(t:J) (u:vN) (B:List eJ),vs.getD i fP=.ref t/\tO h t (jR (C.getD i 0) u::B).toArray/\∀z∈B,W8 z
 |[],[],_,_,z=>by simp at z
 |[],_::_,_,z,_=>z.elim
 |_::_,[],_,z,_=>z.elim
 |v::vs,r::C,0,[[t,u,m,e,z],q],_=>[t,u,m,e,z]
 |v::vs,r::C,i+1,[_,q],l=>q.at (i:=i) (by simpa using l)
theorem cZ.len{h:fK}:∀{vs} {B:List Int},cZ h vs B->vs.length=B.length
 |[],[],_=>rfl
 |[],_::_,z=>z.elim
 |_::_,[],z=>z.elim
 |v::vs,r::B,z=>by rw[c_,c_,z.2.len]
theorem cZ.firsts{h:fK}:∀{vs} {N:List Int},cZ h vs N->∃M:List eJ,KatTups h vs M/\M.length=vs.length/\∀v∈M,∃(n:Int) (t:vN),v=.int n t
 |[],[],_=>[[],trivial,I,λx z=>nomatch z]
 |[],_::_,z=>z.elim
 |_::_,[],z=>z.elim
 |v::vs,r::N,[[t,u,m,e,[o,S,F,n,j],B],q]=>by
  let[M,O,L,C]:=q.firsts;refine[.int r u::M,[[t,o,_,n,e,S,F,j,zZ],O],by rw[c_,c_,L],λy H=>?_];rcases cr.mp H with z|z
  .exact[r,u,z]
  .exact C y z
def JC{B:List Int}(S:B.Nodup){i j:Nat}(C:i<B.length)(F:j<B.length)(e:B.getD i 0=B.getD j 0):i=j:=by
 rw[l_,l_,hD C,hD F]at e;let L:B[i]=B[j]:=e;rcases wb i j with c|c|c
 .exact fA L ((s0.mp S) i j C F c)
 .exact c
 .exact fA L.symm ((s0.mp S) j i F C c)
def Yp{vs:List eJ}{N:List Int}(T:cZ s.heap vs N)(W:N.Nodup)(ac:2<=vs.length):CW prog w A vs cS (λi=>#[N.getD i 0]) s:=by
 let[fs,f,h,K]:=T.firsts;let x:=T.len;refine[tuples' (gO "int" != gO "tuple"),λQ E q=>kat_kind f Z (λv d=>?_) I q,λi j l P C F=>?_]
 .let[n,t,rfl]:=K v d
  exact Vz n t
 .have r:(gO "int" != gO "tuple")=eP:=by ac_nf
  rw[r];let[t,u,m,e,[o,H,hc,n,S],R]:=T.at l;by_cases c:i=j
  .subst c
   rw[e];refine kat_lt H S H S ?_;rw[eZ (nS _)];rw[show cS.blt #[N.getD i 0] #[N.getD i 0]=eM from Lz _]at F;refine A5 0 (λz b=>?_) F;rcases cr.mp b with y|y
   .rw[y];trivial
   .exact R z y
  .let[a,X,k,p,[o',M,aa,n',L],ab]:=T.at P
   let O:¬N.getD i 0=N.getD j 0:=λz=>c (JC W Z Z z);rw[e,p];refine kat_lt H S M L ?_;show KatLex prog w A eP _ C ((jR (N.getD i 0) u::m).zip (jR (N.getD j 0) X::k)) 0 s;rw[nO];refine kat_cons (mD ?_);rw[show(N.getD i 0==N.getD j 0)=eM by simpa using O];refine kat_no (oneLt_int ?_);let B:cS.blt #[N.getD i 0] #[N.getD j 0]=decide (N.getD i 0<N.getD j 0):=by
    show HT.lexLt #[N.getD i 0] #[N.getD j 0]=_;rw[HT.lexLt_cons,eQ O]
   rw[B]at F;exact F
end
def EN:V->Bool
 |.int _=>eP
 |.str _=>eP
 |_=>eM
def dX(K:a')(H:Hp):List V->List Int->Prop
 |[],[]=>True
 |y::L,r::C=>(∃t B,y=.ref t/\Bh K H t (.int r::B)/\B.all EN=eP)/\dX K H L C
 |_,_=>False
theorem Qs:∀{j} {us},j.all EN=eP->Ap j us->∀z∈us,W8 z
 |_,_,_,.nil,_,h=>nomatch h
 |x::j,u::us,a,.cons r q,z,h=>by
  rw[v_,gd]at a;rcases cr.mp h with e|e
  .subst e
   cases x with
   |int n=>let[t,rfl]:=r;trivial
   |str n=>let[t,rfl]:=r;trivial
   |_=>exact fA a.1 f_
  .exact Qs a.2 q z e
section
variable {X:Cx}
theorem dX.vals{pins:List (J×gS)}{s:eO}(M:Ak X pins b H s):∀{ys} {O:List Int} {us},dX X.K H ys O->Ap ys us->cZ s.heap us O
 |[],[],_,_,.nil=>trivial
 |[],_::_,_,z,_=>z.elim
 |_::_,[],_,z,_=>z.elim
 |y::ys,r::O,_,[[t,m,e,h,N],q],.cons S B=>by
  subst e;cases S;let[L,j,p,_]:=M.tuple h;cases j with
  |cons C F=>
   let[u,rfl]:=C;exact[[t,u,_,I,p,Qs N F],q.vals M B]
def RN(K:a'):List V->Hp->VK->Prop:=λL H Q=>∃a B C,L=#[.ref a]/\Am K H a B/\B.length<64/\dX K H B C/\C.Nodup /\
 ∀(l:J) (p:Array Nat),H l=U->CRS.Pm B.length p->CRS.Up (O:=cS) (λi=>#[C.getD i 0]) p B.length->Q (.ref l) (upd H l (.lst (p.toList.map λi=>B.getD i .non)))
def Xd:Fm X (.builtin "sorted") (RN X.K):=by
 intro R s z H t m Q B r h;let[a,l,d,rfl,c,y,T,A,q]:=h;let[u,rfl,E]:=Ku r;cases E;let[j,F,M,w]:=B.list c;let K:=F.length;let k:=T.vals B F;refine AZ (O:=cS) (key:=λi=>#[d.getD i 0]) M.isList Z (λv W N L=>Yp (s:={ s with heap:=W }) (k.keep N) A L) λp P S=>?_;let[e,C]:=sortedAll_at s.heap j (Hy j p).toArray;let f:(p.toList.map λi=>l.getD i .non).length<=sizeLine:=by
  rw[cn,hH,P.size]
  lia
 rw[<- K]at P S;exact[.ref (⇑s+1),_,B.laid (t':=s.toks) (λb o q=>sortedAll_old q) (nh _) (show Cf X.prog X.w _ _ _ (.lst _) from [f,Hy j p,e,Rm F _,C]),I,q _ p (B.hok.fresh (nh _)) P S]
end
def Y3{M:Type}{S:List M}{d:M}{f:M->Int}{p:Array Nat}(R:CRS.Pm S.length p)(E:CRS.Up (O:=cS) (λi=>#[(S.map f).getD i 0]) p S.length)(K:(S.map f).Nodup) :
  (p.toList.map λi=>S.getD i d).Perm S/\(p.toList.map λi=>S.getD i d).Pairwise (λx y=>f x<f y):=by
 let N:p.toList.Perm (kw S.length):=by
  let:=vx.mp R
  simpa using this
 let e:(kw S.length).map (λi=>S.getD i d)=S:=by
  apply wI
  .simp
  .intro i w X
   simp[l_,hD X]
 let T:(p.toList.map λi=>S.getD i d).Perm S:=by
  let:=N.map (λi=>S.getD i d);rw[e]at this;exact this
 refine[T,?_];let r:((p.toList.map λi=>S.getD i d).map f).Nodup:=(T.map f).nodup_iff.mpr K;let v:=R.size;rw[s0];intro i j t A B;let L:i<p.size:=by simpa using t
 let C:j<p.size:=by simpa using A
 let u:=E i j Z Z;let P:∀k (F:k<p.size),p.getD k 0=p[k]/\p[k]<S.length:=λk F=>by
  refine[by simp[pc,F],?_];let m:p[k]∈p.toList:=by simp
  let:=N.mem_iff.mp m
  simpa using this
 let[s,c]:=P i L;let[l,q]:=P j C;let Q:∀k (F:k<S.length),(S.map f).getD k 0=f (S.getD k d):=λk F=>by
  simp[l_,jk,hD F]
 let o:f (S.getD p[i] d)≠f (S.getD p[j] d):=by
  let:=(s0.mp (wY.mp r)) i j (by simpa using L) (by simpa using C) B
  simpa using this
 let W:¬cS.blt #[(S.map f).getD (p.getD j 0) 0] #[(S.map f).getD (p.getD i 0) 0]=eP:=by
  let b:cS.blt #[(S.map f).getD (p.getD j 0) 0] #[(S.map f).getD (p.getD i 0) 0]=eM:=u;rw[b];exact f_
 rw[s,l,Q _ c,Q _ q]at W;let H:¬HT.lexLt #[f (S.getD p[j] d)] #[f (S.getD p[i] d)]=eP:=W;rw[HT.lexLt_cons,eQ o.symm]at H;let:¬f (S.getD p[j] d)<f (S.getD p[i] d):=λz=>H (eT z);simp only[pI,mJ]
 lia
end L2
namespace L2
open PySem PySem.Spec PyProof.Rows
def I9{K K'}{a}{xs}{A}{Q}{N}{ix:List Nat}{QQ:Hp->Prop}{W}{p}(j:Nat->List V->Hp->Prop)(r:j 0 [] (upd W p (.lst [])))
  (k:∀i ys H,i<=xs.length->j i ys H->H p=g (.lst ys)/\ys.length<=i/\Am K H a xs) (hn:xs.length<=sizeLine)
  (f:∀i x ys H,xs[i]?=g x->j i ys H->∃t y z u w,x=.ref t/\Bh K' H t #[y,z,u,w]/\A (g y::g z::g u::g w::Fa ix N) H λb c=>if b=eP then Q (g y::g z::g u::g w::Fa ix N) c λv d=>d p=g (.lst ys) /\
   (g y::g z::g u::g w::Fa ix N)=(g y::g z::g u::g w::Fa ix N)/\j (i+1) (ys++#[v]) (upd d p (.lst (ys++#[v]))) else(g y::g z::g u::g w::Fa ix N)=(g y::g z::g u::g w::Fa ix N)/\j (i+1) ys c)
  (h:∀ys H,j xs.length ys H->QQ H) :
  Pl (O9 K' 4 (Im (Dx 0) (Im (Dx 1) (Im (Dx 2) (Im (Dx 3) Z7))))) A Q 4 ix N (GT K a) p W QQ:=by
 refine[λi m ys O C=>m=xs.length-i/\i<=xs.length/\(∃o X E T,O=o::X::E::T::Fa ix N)/\j i ys C,[xs.length,zZ,de _,[U,U,U,U,I],r],?_];rintro i m ys O C ⟨rfl,n,⟨o,X,E,T,rfl⟩,pv⟩;let[M,aa,F]:=k i ys C n pv;refine[M,?_];by_cases S:i<xs.length
 .refine .inr [[xs,xs[i],F,by simp[S]],Z,λx H3 B=>?_]
  let[e,B]:=B;subst e;let[t,y,z,u,w,l,s,q]:=f i x ys _ (B xs F) pv;subst l;refine[λL P R=>P=(g y::g z::g u::g w::Fa ix N)/\j (i+1) L R,λL P R ⟨e,q⟩=>[xs.length-(i+1),Z,I,S,[_,_,_,_,e],q],?_];exact[t,_,I,s,I,_,_,I,_,_,I,_,_,I,_,_,I,I,q]
 .obtain rfl:i=xs.length:=by lia
  exact .inl [[xs,F,b' _],h ys C pv]
def TsAt{B:Type}(f:B->List V)(H:Hp):List V->List B->Prop
 |[],[]=>True
 |x::L,z::C=>(∃t,x=.ref t/\H t=g (.tup (f z)))/\TsAt f H L C
 |_,_=>False
section
variable {α:Type} {f:α->List V}
theorem TsAt.len:∀{xs} {B:List α},TsAt f H xs B->xs.length=B.length
 |[],[],_=>rfl
 |[],_::_,h=>h.elim
 |_::_,[],h=>h.elim
 |x::xs,p::C,h=>by rw[c_,c_,TsAt.len h.2]
theorem TsAt.mono{H H':Hp}(s:∀t j,H t=g (.tup j)->H' t=g (.tup j)):∀{xs} {B:List α},TsAt f H xs B->TsAt f H' xs B
 |[],[],_=>trivial
 |[],_::_,h=>h.elim
 |_::_,[],h=>h.elim
 |x::xs,p::C,[[t,e,h],r]=>[[t,e,s _ _ h],TsAt.mono s r]
theorem TsAt.snoc:∀{xs} {B:List α} {t} {z:α},TsAt f H xs B->H t=g (.tup (f z))->TsAt f H (xs++#[.ref t]) (B++#[z])
 |[],[],t,_,_,h=>[[t,I,h],trivial]
 |[],_::_,_,_,r,_=>r.elim
 |_::_,[],_,_,r,_=>r.elim
 |x::xs,p::C,_,_,[z,r],h=>[z,TsAt.snoc r h]
theorem TsAt.get:∀{xs} {B:List α} {i:Nat} {x},TsAt f H xs B->xs[i]?=g x->∃t z,B[i]?=g z/\x=.ref t/\H t=g (.tup (f z))
 |[],[],_,_,_,e=>by simp at e
 |[],_::_,_,_,h,_=>h.elim
 |_::_,[],_,_,h,_=>h.elim
 |x::xs,p::L,0,y,[[t,e,h],r],q=>by
  simp at q;subst q;exact[t,p,I,e,h]
 |x::xs,p::L,i+1,y,[_,r],q=>by
  let[t,j,C,F]:=TsAt.get (i:=i) r (by simpa using q);exact[t,j,by simpa using C,F]
end
structure DfIn(K:a')(x:eU)(st:gY)(f:J):Prop where
 ns:gn K fr x=g (g (.ref f))
 ex:∃(od an:Option J) (sl:Array (Option eJ)) (oc kV dc pm cd ct:eJ),K.lookup f=g [oc,od,.func (i' x x (Db st) (Bw st) (Ao st) .none kV dc pm an cd ct),sl]/\nN K cd x=eP
 kp:js K (.ref f)=eP
structure MtIn(K:a')(x qual:eU)(st:gY)(f:J):Prop where
 fn:pu K (.ref f)=eP
 ex:∃(od an:Option J) (sl:Array (Option eJ)) (oc kV dc pm cd ct:eJ),K.lookup f=g [oc,od,.func (i' x qual (Db st) (Bw st) (Ao st) .none kV dc pm an cd ct),sl]/\nN K cd qual=eP
 kp:js K (.ref f)=eP
structure cL(K:a')(x:eU)(C:J):Prop where
 ns:gn K fr x=g (g (.ref C))
 pg:wm K C lK=eP
 hd:u5 K C=eP
 po:nG K C=eP
 sa:ia K (.ref C) "__setattr__"=g (g (.builtin "object.__setattr__"))
 mi:vo K C=eP
 kp:js K (.ref C)=eP
def cL.cl{K}{x}{C}(c:cL K x C):dD K C:=[c.pg,c.hd,c.po,c.sa]
section
variable {K:a'} {x qual:eU} {st:gY} {f:J} {ps:List eU}
def MtIn.get(d:MtIn K x qual st f)
  (C:∀(kV L S:eJ) (B:Option J) (H j:eJ) (us:List eJ),us.length=ps.length->nY (i' x qual (Db st) (Bw st) (Ao st) .none kV L S B H j) [us,[]]=pure (ps.zip us)):∃M,cF K x qual st f M/\Hi K M ps []:=by
 let[N,B,O,P,kV,L,S,H,j,l,c]:=d.ex;let F:=Sg (x:=x) (qual:=qual) (st:=st) l c d.kp;exact[_,F,F.binds C]
end
def DfIn.of{K}{x}{st}{f}{od H}{C}{S kV L B j F}(n:gn K fr x=g (g (.ref f)))(l:K.lookup f=g [S,od,.func (i' x x (Db st) (Bw st) (Ao st) .none kV L B H j F),C])(c:nN K j x=eP)(k:js K (.ref f)=eP):DfIn K x st f:=[n,[od,H,C,S,kV,L,B,j,F,l,c],k]
def MtIn.of{K}{x qual}{st}{f}{od H}{C}{S kV L B j F}(n:pu K (.ref f)=eP)(l:K.lookup f=g [S,od,.func (i' x qual (Db st) (Bw st) (Ao st) .none kV L B H j F),C])(c:nN K j qual=eP)(k:js K (.ref f)=eP):MtIn K x qual st f:=[n,[od,H,C,S,kV,L,B,j,F,l,c],k]
def vC{B:Type}{l:List B}{a:B}{t:List B}{R:B->List B->Prop}(e:l=a::t)(h:R a t):∃v r,l=v::r/\R v r:=[a,t,e,h]
end L2
namespace L2
open PySem PySem.Spec PyProof.Rows PySem.W
section
variable {X:Cx}
def Nd{e:gK}:PE X e (λx x x=>False):=λx x x x x x h=>h.elim
end
def Jg{X}{K}(h:X.K=K):SK X (FW K):=h▸FM
end L2
namespace CRL
open PySem L2
def YF{B:Type}(key:B->List Int)(a b:B):Prop:=HT.lexLt (key b) (key a)=eM
def AN{B:Type}(d:B)(ps:List B):(kw ps.length).map (λi=>ps.getD i d)=ps:=by
 apply wI
 .simp
 .intro i C j
  simp[j]
def cI{M:Type}{p:Array Nat}{es:List M}(d:M)(key:M->List Int)(h:CRS.Pm es.length p)(u:CRS.Up (O:=cS) (λi=>(es.map key).getD i []) p es.length) :
  (p.toList.map λi=>es.getD i d).Perm es/\(p.toList.map λi=>es.getD i d).Pairwise (YF key):=by
 constructor
 .have z:=(vx.mp h).map λi=>es.getD i d
  simp only[nB]at z;rw[AN]at z;exact z
 .rw[s0]
  intro i j A P L;let T:=h.size;let S:j<es.length:=by simpa[T]using P
  let X:i<es.length:=by lia
  let H:0<es.length:=by lia
  let z:=u i j (uu L) S;let R:p.getD i 0=p[i]'(Z):=by simp[pc,show i<p.size by lia]
  let W:p.getD j 0=p[j]'(Z):=by simp[pc,show j<p.size by lia]
  let N:=h.lt H i;let Q:=h.lt H j;let F:∀k,k<es.length->(es.map key).getD k []=key (es.getD k d):=λk B=>by simp[B]
  let C:HT.lexLt ((es.map key).getD (p.getD j 0) []) ((es.map key).getD (p.getD i 0) [])=eM:=z;rw[F _ N,F _ Q]at C;rw[pI,pI,mJ,mJ,<- R,<- W];exact C
theorem _root_.L2.TsAt.pick{B:Type}{f:B->List V}{xs:List V}{es:List B}(d:B)(h:TsAt f H xs es):∀l:List Nat,(∀i∈l,i<xs.length)->TsAt f H (l.map λi=>xs.getD i .non) (l.map λi=>es.getD i d)
 |[],_=>trivial
 |i::l,M=>by
  let C:=M i fk;let[t,e,L,N,z]:=h.get (i:=i) (hD C);refine[[t,?_,?_],h.pick d l λj F=>M j (e_ _ F)]
  .show xs.getD i .non=_
   rw[l_,hD C];exact N
  .show H t=g (.tup (f (es.getD i d)))
   rw[l_,L];exact z
def W5{M:Type}{fv:M->List V}{K:a'}{a p:J}{xs:List V}{es:List M}{ix:List Nat}{QQ:Hp->Prop}(f:M->Bool)(N:b a=g (.lst xs))(O:b p=U)(h:TsAt fv b xs es)(A:es.length<=1000)
  (B:∀(t:J) (e:M) (j:Hp) (Q:Bool->Hp->Prop),e∈es->Ag b j->j t=g (.tup (fv e))->Q (f e) j->o (g (.ref t)::Fa ix d) j Q) (X:∀(x:V) (j:Hp) (Q:VK),Q x j->k (g x::Fa ix d) j Q)
  (T:∀ys,TsAt fv b ys (es.filter f)->QQ (upd b p (.lst ys))):Pl (Dx 0) o k 1 ix d (GT K a) p b QQ:=by
 let H:=h.len;let C:∀ys:List V,Ag b (upd b p (.lst ys)):=λys=>Aa O _;refine Cz (K:=K) (a:=a) (xs:=xs) (λi ys j=>j=upd b p (.lst ys)/\ys.length<=i/\TsAt fv b ys ((es.take i).filter f)) [I,b' _,by rw[List.take_zero];trivial] (λi ys j y ⟨e,l,_⟩=>[by rw[e];exact Ab,l,by rw[e];exact Am.of (C ys _ _ N)]) (by rw[ck];lia) (λi x ys j W ⟨e,l,L⟩=>?_) (λys j ⟨e,l,L⟩=>?_)
 .let[t,F,S,P,z]:=h.get W
  subst e P;refine B t F _ _ (kS S) (C ys) (C ys _ _ z) ?_;let R:(es.take (i+1)).filter f=(es.take i).filter f++(if f F=eP then #[F] else []):=by
   rw[oO,S,vf]
   congr 1
   by_cases c:f F=eP
   .rw[eR c]
    exact vm c
   .rw[eQ c]
    exact wT c
  rw[R];by_cases c:f F=eP
  .rw[eR c,eR c]
   refine X _ _ _ [Ab,I,by rw[LH],by rw[fy];exact vt l,L.snoc z]
  .rw[eQ c,eQ c,lq]
   exact[I,I,Z,L]
 .rw[H,j']at L
  rw[e];exact T ys L
end CRL
namespace L2
open PySem PySem.Spec PyProof.Rows
section
variable {X:Cx}
def Pa{k:Nat}{C:J}{m:eU}{ps:List eU}{sp:Sp}{o:gK}{pl:rV Bool}(M:F6 X.prog X.w X.K X.mg X.base k C m ps sp)(H:Bv k X.A)(L:PE X o d)
  (j:gC (.Call (.Attribute o m apos) [] [] c) X.env=(do
   let B <- gC o X.env
   kF apos.atName
   let (f,first) <- iY #[B] (jH B m pl)
   kN c f first (gH c (eX [] X.env)) (jM c (hX [] X.env))):=by rfl) :
  PE X (.Call (.Attribute o m apos) [] [] c) (U3 C m sp [] E0 d F8):=by
 let[f,N,F,b,S]:=M.ex;exact FK L M.cl S F H b .nil Mv j
end
section
variable {X:Cx} {K:a'}
def Sv(h:X.K=K):SK X (TN K):=h▸JZ
def Di(h:X.K=K):Fm X (.type "list") (R3 K):=h▸Xz
def EM{l:gK}(h:X.K=K)(B:PE X l tl):PI X b l (CP K tl):=h▸JA B
end
section
variable {x qual:eU} {st:gY} {ps:List eU}
abbrev X8(x qual:eU)(st:gY)(ps:List eU):Prop:=∀(kV M L:eJ) (N:Option J) (H C:eJ) (B:List eJ),B.length=ps.length->nY (i' x qual (Db st) (Bw st) (Ao st) .none kV M L N H C) [B,[]]=pure (ps.zip B)
end
def Ma{lo:Int}{n:Nat}{C:TG}{O:TS}{D:Jy}{M:St}{H:Hp}(j:Nat->St->Hp->Prop)(Q:j 0 M H)
  (P:∀i M H,i<n->j i M H->∀N:St->Hp->Prop,(∀M H,j (i+1) M H->N M H)->C (.int (lo+i)) M H λL F=>O { D with nx:=N,ct:=N,bk:=D.nx } L F) (R:∀M H,j n M H->D.nx M H) :
  ∃W:Nat->Nat->St->Hp->Prop,(∃m,W 0 m M H)/\∀i m M H,W i m M H ->
   ((IH lo n).stop i H/\D.nx M H)\/((IH lo n).go i H/\∃N:St->Hp->Prop,(∀B H',N B H'->∃S,S<m/\W (i+1) S B H')/\∀x H',(IH lo n).yld i H x H'->C x M H' λL F=>O { D with nx:=N,ct:=N,bk:=D.nx } L F):=
 Ky j Q (λi M H T p=>P i M H T p _ λy y z=>z) R
def Ei{K:a'}{a:J}{xs:List V}{C:TG}{O:TS}{D:Jy}{M:St}{H:Hp}(j:Nat->St->Hp->Prop)(Q:j 0 M H)(X:∀i M H,i<=xs.length->j i M H->Am K H a xs)
  (P:∀i x M H,xs[i]?=g x->j i M H->∀N:St->Hp->Prop,(∀M H,j (i+1) M H->N M H)->C x M H λL F=>O { D with nx:=N,ct:=N,bk:=D.nx } L F) (R:∀M H,j xs.length M H->D.nx M H) :
  ∃W:Nat->Nat->St->Hp->Prop,(∃m,W 0 m M H)/\∀i m M H,W i m M H ->
   ((GT K a).stop i H/\D.nx M H)\/((GT K a).go i H/\∃N:St->Hp->Prop,(∀B H',N B H'->∃S,S<m/\W (i+1) S B H')/\∀x H',(GT K a).yld i H x H'->C x M H' λL F=>O { D with nx:=N,ct:=N,bk:=D.nx } L F):=
 Fq j Q X (λi x M H T p=>P i x M H T p _ λy y z=>z) R
def Y8{K K':a'}{a:J}{xs:List V}{L C:Nat}{P:TS}{D:Jy}{O:St}{H:Hp}(j:Nat->St->Hp->Prop)(R:j 0 O H)(A:∀i O H,i<=xs.length->j i O H->Am K H a xs)
  (Q:∀i x O H t,xs[i]?=g x->j i O H->H t=U->∀N:St->Hp->Prop,(∀O H,j (i+1) O H->N O H)->P { D with nx:=N,ct:=N,bk:=D.nx } ((O.set L (g (.int i))).set C (g x)) (upd H t (.tup #[.int i,x]))) (T:∀O H,j xs.length O H->D.nx O H) :
  ∃W:Nat->Nat->St->Hp->Prop,(∃m,W 0 m O H)/\∀i m O H,W i m O H ->
   ((LY K a).stop i H/\D.nx O H)\/((LY K a).go i H/\∃N:St->Hp->Prop,(∀S H',N S H'->∃F,F<m/\W (i+1) F S H')/\∀x H',(LY K a).yld i H x H'->O9 K' 2 (Im (Dx L) (Im (Dx C) Z7)) x O H' λB M=>P { D with nx:=N,ct:=N,bk:=D.nx } B M):=
 My j R A (λi x O H t X p n=>Q i x O H t X p n _ λy y z=>z) T
section
variable {P:eY} {w:fF} {K:a'} {mg:eU->Option eJ} {base:fK} {x y qual:eU} {st:gY} {C:J} {k:Nat} {ps:List eU} {sp:Sp}
abbrev Fw(K:a')(x:eU)(st:gY):Prop:=∃f,DfIn K x st f
abbrev Ig(K:a')(C:J)(x qual:eU)(st:gY):Prop:=∃f,ia K (.ref C) x=g (g (.ref f))/\MtIn K x qual st f
def Ib(K:a')(x:eU)(n:Int):Prop:=∃t,gn K fr x=g (g (.int n t))
def QV(K:a')(x:eU)(y:eU):Prop:=∃t,gn K fr x=g (g (.str y t))
def MtD(K:a')(C:J)(x qual:eU)(st:gY)(ds:Array eJ):Prop:=∃(f B:J) (N W:Option J) (O:Array (Option eJ)) (T kV M R H Q:eJ) (L:Nat),ia K (.ref C) x=g (g (.ref f))/\pu K (.ref f)=eP /\
 K.lookup f=g [T,N,.func (i' x qual (Db st) (Bw st) (Ao st) (.ref B) kV M R W H Q),O]/\nN K H qual=eP/\js K (.ref f)=eP/\K.lookup B=g [.type "tuple",U,.seq ds L,#v[]]
def MtC(K:a')(C:J)(x qual:eU)(st:gY)(T:J):Prop:=∃(f c:J) (H Q:Option J) (L:Array (Option eJ)) (O kV B N M:eJ),ia K (.ref C) x=g (g (.ref f))/\pu K (.ref f)=eP /\
 K.lookup f=g [O,H,.func (i' x qual (Db st) (Bw st) (Ao st) .none kV B N Q (.ref c) M),L]/\nN K (.ref c) qual=eP/\js K (.ref f)=eP/\oB K c T=eP
def BsE(K:a')(C:J)(x qual:eU)(st:gY):Prop:=∃f,oY K (.ref C) (.type "type") x=g (.val (.ref f))/\vl K (.ref C) "__getattribute__"=g (g (.builtin "type.__getattribute__"))/\oW K C (.type "type")=eP/\MtIn K x qual st f
def MtD.of{K}{C}{x qual}{st}{ds}{f j}{od O}{N}{H kV S B F L}{M:Nat}(a:ia K (.ref C) x=g (g (.ref f)))(i:pu K (.ref f)=eP)
  (l:K.lookup f=g [H,od,.func (i' x qual (Db st) (Bw st) (Ao st) (.ref j) kV S B O F L),N]) (c:nN K F qual=eP) (k:js K (.ref f)=eP) (d:K.lookup j=g [.type "tuple",U,.seq ds M,#v[]]):MtD K C x qual st ds:=[_,_,_,_,_,_,_,_,_,_,_,_,a,i,l,c,k,d]
def MtC.of{K}{C T}{x qual}{st}{f c}{od B}{H}{L kV F S j}(a:ia K (.ref C) x=g (g (.ref f)))(i:pu K (.ref f)=eP)
  (l:K.lookup f=g [L,od,.func (i' x qual (Db st) (Bw st) (Ao st) .none kV F S B (.ref c) j),H]) (d:nN K (.ref c) qual=eP) (k:js K (.ref f)=eP) (h:oB K c T=eP):MtC K C x qual st T:=[_,_,_,_,_,_,_,_,_,_,a,i,l,d,k,h]
def BsE.of{K:a'}{C f:J}{x qual:eU}{st:gY}(b:oY K (.ref C) (.type "type") x=g (.val (.ref f)))(B:vl K (.ref C) "__getattribute__"=g (g (.builtin "type.__getattribute__")))(r:oW K C (.type "type")=eP)(i:MtIn K x qual st f):BsE K C x qual st:=[_,b,B,r,i]
def NT4(K:a')(x p q r s:eU):Prop:=∃(w:J) (n:Nat) (a b c d:vN),gn K fr x=g (g (.ref w))/\K.lookup w=g [.type "tuple",U,.seq #v[.str p a,.str q b,.str r c,.str s d] n,#v[]]
def NT4.of{K}{x p q r s}{w}{n:Nat}{a b c d}(h:gn K fr x=g (g (.ref w)))(l:K.lookup w=g [.type "tuple",U,.seq #v[.str p a,.str q b,.str r c,.str s d] n,#v[]]):NT4 K x p q r s:=[_,_,_,_,_,_,h,l]
structure aS(K:a')(C:J):Prop where
 ha:ia K (.ref C) "__class__"=g (g (.builtin "object.__class__"))
 hm:mK K C (.type "object")=g eP
 gs:vl K (.builtin "object.__class__") "__get__"=g (g (.builtin "getset_descriptor.__get__"))
 tk:oV K (.builtin "object.__class__")=g eP
structure Zy(P:eY)(w:fF)(K:a')(mg:eU->Option eJ)(base:fK):Prop where
 nv:∀{x:eU} {v:eJ},gn K fr x=g (g v)->mg x=g v
 nn:∀{x:eU},gn K fr x=g U->mg x=U
def Zy.gi(z:Zy P w K mg base){n:Int}(h:Ib K x n):UZ mg x n:=h.imp λa=>z.nv
def Zy.gs(z:Zy P w K mg base){n:eU}(h:QV K x n):TY mg x n:=h.imp λa=>z.nv
def bD:Nat->(List eJ->Prop)->Prop
 |0,P=>P []
 |n+1,P=>∀a,bD n λl=>P (a::l)
theorem aY:∀{n:Nat} {j:List eJ->Prop},bD n j->∀us:List eJ,us.length=n->j us
 |0,_,h,[],_=>h
 |_+1,_,h,a::us,e=>aY (h a) us (Nat.succ.inj e)
def bd(h:X8 x qual st ps:=by exactλz z z z z z=>aY (by(repeat intro _);rfl)):X8 x qual st ps:=h
def bY(z:Zy P w K mg base)(d:Fw K x st)(j:X8 x x st ps)(h:∀f B,cF K x x st f B->Bp P w K mg base Fv k f B ps sp):SJ P w K mg base k x ps sp:=by
 let[_,d]:=d;let[_,_,_,_,_,_,_,_,_,l,c]:=d.ex;let F:=Sg l c d.kp;exact[_,_,h _ _ F,F.binds j,d.kp,z.nv d.ns]
def bV(z:Zy P w K mg base)(m:Ig K C x qual st)(c:dD K C)(j:X8 x qual st ps)(h:∀f H,cF K x qual st f H->Bp P w K mg base Fv k f H ps sp):F6 P w K mg base k C x ps sp:=by
 let[_,a,i]:=m;let[_,F,B]:=i.get j;exact[[_,_,h _ _ F,B,[a,i.fn,i.kp]],c]
def bA(z:Zy P w K mg base)(q:cL K y C)(m:Ig K C "__init__" qual st)(j:X8 "__init__" qual st ps)(h:∀f H,cF K "__init__" qual st f H->Bp P w K mg base Fv k f H ps sp):FQ P w K mg base k y C ps sp:=by
 let[_,a,i]:=m;let[_,F,B]:=i.get j;exact[_,_,[q.mi,a,i.fn,q.kp],h _ _ F,B,z.nv q.ns]
def bP{T:J}(H:K.In base)(m:MtC K C x qual st T)(c:dD K C)(h:∀f B c,cF K x qual st f B->B.code=.ref c->vQ base c T->Bp P w K mg base Fv k f B ps sp)(j:X8 x qual st ps):F6 P w K mg base k C x ps sp:=by
 let[_,_,_,_,_,_,_,_,_,_,a,i,l,d,e,t]:=m;let F:=Sg l d e;exact[[_,_,h _ _ _ F I (PySem.W.codeHd_of_K H t),F.binds j,[a,i,e]],c]
def bR(z:Zy P w K mg base)(q:cL K y C)(m:BsE K C x qual st)(h:∀f L,cF K x qual st f L->Bp P w K mg base Fv k f L ps sp)(j:X8 x qual st ps):OT P w K mg base k y x ps sp:=by
 let[_,b,H,r,i]:=m;let[_,F,B]:=i.get j;exact[_,_,_,h _ _ F,B,[H,r,b,i.kp],z.nv q.ns]
def bX{CX:IF}{f:J}(h:∀vs H Q E,¬sp vs H Q E):Bp P w K mg base CX k f b ps sp:=
 [λvs H Q E z=>fA z (h vs H Q E),λa a a a a a a a a a a a a z=>fA z (h _ _ _ _)]
end
section
variable {X:Cx} {pos pos' p:nA} {x:eU} {e a b:gK} {es:List gK} {te ta tb:TE} {t:TA} {ps:List eU} {sp:Sp} {d:kU} {k n:Nat}
def Dp(S:Bg X.N ps d)(i:Nat)(j:PE X e te)(L:X.N[i]?=g x:=by rfl)(C:NP X.env.scope x:=by exact Or.inl I)(B:kY e (g (.Name x pos')) pos.line X.env=pure eM:=by rfl)(H:X.fn x=eP\/X.env.scope.names.lookup x=g .local:=by first|exact .inl I|exact .inr I|assumption) :
  PS X (.Assign #[.Name x pos'] e pos) (P6 te (Dx i)):=Yn S.nd L C j B H
def Gi(S:Bg X.N ps d)(i:Nat)(H:X.N[i]?=g x:=by rfl)(B:NP X.env.scope x:=by exact Or.inl I)(C:X.fn x=eP\/X.env.scope.names.lookup x=g .local:=by first|exact .inl I|exact .inr I|assumption):PG X (.Name x pos) (Dx i):=Wu S.nd H B C
def Oh{NC:List eU}(i:Nat)(j:NC.Nodup:=by ac_nf)(H:(Kw X NC d f c l).N[i]?=g x:=by rfl)(B:NP (Kw X NC d f c l).env.scope x:=by exact Or.inl I)(C:(Kw X NC d f c l).fn x=eP\/(Kw X NC d f c l).env.scope.names.lookup x=g .local:=by first|exact .inl I|exact .inr I|assumption):PG (Kw X NC d f c l) (.Name x pos) (Dx i):=Wu j H B C
def Do(C:SJ X.prog X.w X.K X.mg X.base k x ps sp)(M:Bv n X.A)(F:PA X (e::es) t)(j:k<=n:=by lk)(N:Gl X x:=by exact I)(B:(x==("__debug__" : eU))=eM:=by lk)(L:eX (e::es) X.env=(eM,gC e X.env)::eX es X.env:=by rfl)(H:(gH pos (eX es X.env)).any (·.1)=eM:=by rfl) :
  PE X (.Call (.Name x p) (e::es) [] pos) (B1 sp [] E0 t):=DU C (M.mono j) N F B L H
def Ej(K:a')(F:PE X a ta)(L:PE X b tb)(j:X.K=K:=by exact I)(B:Xb b:=by exactλy y=>I):PE X (.Subscript a b pos) (MU (OE K) ta tb):=Zm (KN j) F L B
def Nv(K:a')(F:PE X a ta)(L:PE X b tb)(j:X.K=K:=by exact I)(B:Xb b:=by exactλy y=>I):PE X (.Subscript a b pos) (MU (NU K) ta tb):=Zm (GY j) F L B
def Nu{H}{r:List V->Hp->VK->Prop}(F:Fm X (.builtin H) r)(z:Zy X.prog X.w X.K X.mg X.base)(L:gn X.K fr x=g U)(j:PA X (e::es) t)(S:fz x=g (.builtin H):=by exact I)(O:Gl X x:=by exact I)(M:x ≠ "__name__":=by lk)(B:(x==("__debug__" : eU))=eM:=by lk)
  (N:eX (e::es) X.env=(eM,gC e X.env)::eX es X.env:=by rfl) (C:(gH pos (eX es X.env)).any (·.1)=eM:=by rfl):PE X (.Call (.Name x p) (e::es) [] pos) (aG r t):=Cw F O (z.nn L) S j M B N C
def Lb{i:Int}(z:Zy X.prog X.w X.K X.mg X.base)(h:Ib X.K x i)(j:Gl X x:=by exact I)(B:(x==("__debug__" : eU))=eM:=by lk):PE X (.Name x pos) (tC (.int i)):=JK (z.gi h) j B
def Jz(K:a'){C l:gK}(B:PE X l tl)(h:X.K=K:=by exact I):PI X C l (CP K tl):=EM h B
def Bz(j:PE X a ta)(B:eX #[a] X.env=(eM,gC a X.env)::eX [] X.env:=by rfl):PA X #[a] (Zh ta F8):=Ai j Eg B
def Ca(j:PE X a ta)(F:PE X b tb)(B:eX #[a,b] X.env=(eM,gC a X.env)::eX #[b] X.env:=by rfl)(C:eX #[b] X.env=(eM,gC b X.env)::eX [] X.env:=by rfl):PA X #[a,b] (Zh ta (Zh tb F8)):=Ai j (Ai F Eg C) B
end
section
variable {P:eY} {w:fF} {K:a'} {mg:eU->Option eJ} {base:fK} {x y qual:eU} {st:gY} {C:J} {k:Nat} {ps:List eU} {sp:Sp}
structure LR(x qual:eU)(st:gY)(N ps:List eU)(sp:Sp):Prop where
 b:X8 x qual st ps
 s:Bg N ps (Ao st)
 l:∀vs H Q E,sp vs H Q E->vs.length=ps.length
def df{N:List eU}(b:X8 x qual st ps:=by exact bd)(s:Bg N ps (Ao st):=by injections)(l:∀vs H Q E,sp vs H Q E->vs.length=ps.length:=by intro _ _ _ _ h;first|(cases h;subst_vars;rfl)|(let[_,rfl,_]:=h;rfl)|(let[_,_,rfl,_]:=h;rfl)|(let[_,_,_,rfl,_]:=h;rfl)):LR x qual st N ps sp:=[b,s,l]
def ZZ{f:J}(F:cF K x qual st f b)(N:List eU)(D:LR x qual st N ps sp)(h:∀{f:J} {B:eJ} {A:fL} {outer:List mB} {s:eO} {vs:List V} {E:XK},Bg N ps (Ao st)->∀(H:Hp) (Q:VK),Bv k (A.deeper (iI qual (Ao st) ⇑s f B))->sp vs H Q E ->
   ∃t,PSs (Hb Fv P w K mg base N qual (Ao st) f B A outer s H E).nox (Bw st) t/\t { nx:=λz H'=>Q .non H',rt:=Q } (Eh N vs) H):Bp P w K mg base Fv (k+1) f b ps sp:=F.ok D.s D.l λz z z z H z Q z=>h D.s H Q
def Iw(z:Zy P w K mg base)(d:Fw K x st)(N:List eU)(D:LR x x st N ps sp)(h:∀{f:J} {B:eJ} {A:fL} {outer:List mB} {s:eO} {vs:List V} {E:XK},Bg N ps (Ao st)->∀(H:Hp) (Q:VK),Bv k (A.deeper (iI x (Ao st) ⇑s f B))->sp vs H Q E ->
   ∃t,PSs (Hb Fv P w K mg base N x (Ao st) f B A outer s H E).nox (Bw st) t/\t { nx:=λa H'=>Q .non H',rt:=Q } (Eh N vs) H):SJ P w K mg base (k+1) x ps sp:=bY z d D.b λa a F=>ZZ F N D h
def BR(z:Zy P w K mg base)(m:Ig K C x qual st)(c:dD K C)(N:List eU)(D:LR x qual st N ps sp)(h:∀{f:J} {B:eJ} {A:fL} {outer:List mB} {s:eO} {vs:List V} {E:XK},Bg N ps (Ao st)->∀(H:Hp) (Q:VK),Bv k (A.deeper (iI qual (Ao st) ⇑s f B))->sp vs H Q E ->
   ∃t,PSs (Hb Fv P w K mg base N qual (Ao st) f B A outer s H E).nox (Bw st) t/\t { nx:=λa H'=>Q .non H',rt:=Q } (Eh N vs) H):F6 P w K mg base (k+1) C x ps sp:=bV z m c D.b λa a F=>ZZ F N D h
def SW(z:Zy P w K mg base)(q:cL K y C)(m:Ig K C "__init__" qual st)(N:List eU)(D:LR "__init__" qual st N ps sp)(h:∀{f:J} {B:eJ} {A:fL} {outer:List mB} {s:eO} {vs:List V} {E:XK},Bg N ps (Ao st)->∀(H:Hp) (Q:VK),Bv k (A.deeper (iI qual (Ao st) ⇑s f B))->sp vs H Q E ->
   ∃t,PSs (Hb Fv P w K mg base N qual (Ao st) f B A outer s H E).nox (Bw st) t/\t { nx:=λa H'=>Q .non H',rt:=Q } (Eh N vs) H):FQ P w K mg base (k+1) y C ps sp:=bA z q m D.b λa a F=>ZZ F N D h
end
end L2
namespace L2
open PySem PySem.Spec PyProof.Rows PySem.W
def XF(X:Cx)(L:St)(P:List (J×gS))(A:fL)(f:J)(n:Nat)(H:Hp)(ys:List V)(C:List (List Int)):Prop:=C.length=ys.length/\∀(j:Nat) y,ys[j]?=g y->∃r,C[j]?=g r/\r.length=n/\∀(e:J×gS) (B:Hp) (s:eO) (u:eJ) {E R:eJ->eO->Prop},Ak X (e::P) L B s->(∀b o,H b=g o->B b=g o)->Az y u ->
 (∀p M,Ak X (e::P) L (upd B p (.tup (r.map V.int))) M->B p=U->R (.ref p) M)->eV (fC X.prog X.w) A (call (.ref f) #[u]) R E s
section
variable {X:Cx} {pins:List (J×gS)} {σ:St} {H:Hp} {s:eO}
def AA{a f:J}{n:Nat}{A:fL}{ys:List V}{r:List (List Int)}{vs:List eJ}{nn:Nat}{E:eJ->eO->Prop}{R:rH->eO->Prop}
  (B:Ak X pins σ H s)
  (ha:s.heap.get? a=g (fU "list" vs.toArray nn)) (M:Hs X pins H a) (rv:Ap ys vs) (KY:XF X σ pins A f (n+1) H ys r) (a8:ys.length<64)
  (h:∀p s' H',Ak X pins σ H' s'->(∀b o,H b=g o->H' b=g o)->CRS.Pm ys.length p->CRS.Up (O:=cS) (λi=>r.getD i []) p ys.length->H' a=g (.lst (p.toList.map λi=>ys.getD i .non))->R (.done (.ret .none)) s') :
  eV (fC X.prog X.w) A (ksk_tree a (.ref f) eM) R E s:=by
 let lv:=rv.length;let L:∀k:Nat,k<64->k<=sizeLine:=λk c=>by rw[ck];lia
 let s1:=i_.update s.heap a (fJ λ_=>(#v[]:Array eJ));obtain⟨T,y⟩:∃T,(s.heap.update a (fJ λ_=>(#v[]:Array eJ))).get? a=g (fU "list" #v[] T):=[_,rP ha λ_ => #v[]];unfold ksk_tree;refine a_ (mQ ha I ?_);refine a_ (jG ha I ?_ (by rw[dw];exact L _ Z) (de _));refine a_ (nU y I ?_);refine a_ (sK ?_ (by show vs.length<=_;exact L _ Z));refine a_ (lR ?_ (de _));refine fV ?_;let J1:Ak X pins σ H { s with heap:=s.heap.update a (fJ λ_=>(#v[]:Array eJ)),toks:=s.toks }:=
  B.turned (λb o hb e=>(s1.2 b hb).trans e) M.1 M.2.1 M.2.2.2.1 M.2.2.2.2.1 M.2.2.2.2.2
 let w:Ak X pins σ H { s with heap:=(s.heap.update a (fJ λ_=>(#v[]:Array eJ))).push (fU "tuple" vs.toArray 0),toks:=s.toks }:=
  J1.kept λb o e=>dv _ e
 let l:((s.heap.update a (fJ λ_=>(#v[]:Array eJ))).push (fU "tuple" vs.toArray 0)).get? a=g (fU "list" #v[] T):=dv _ y;let nf:H ((s.heap.update a (fJ λ_=>(#v[]:Array eJ))).push (fU "tuple" vs.toArray 0)).objs.size=U:=w.fresh;let J3:=w.lnew (ys:=[]) (its:=[]) (t':=s.toks) .nil (de _);let a4:(((s.heap.update a (fJ λ_=>(#v[]:Array eJ))).push (fU "tuple" vs.toArray 0)).push (fU "list" #v[] 0)).get? a=g (fU "list" #v[] T):=dv _ l;let P:a≠((s.heap.update a (fJ λ_=>(#v[]:Array eJ))).push (fU "tuple" vs.toArray 0)).objs.size:=fj (dn l);show eV _ _ _ _ _ { s with heap:=((s.heap.update a (fJ λ_=>(#v[]:Array eJ))).push (fU "tuple" vs.toArray 0)).push (fU "list" #v[] 0),toks:=s.toks };let J4:Ak X ((a,fU "list" #v[] T)::pins) σ (upd H ((s.heap.update a (fJ λ_=>(#v[]:Array eJ))).push (fU "tuple" vs.toArray 0)).objs.size (.lst [])) { s with heap:=((s.heap.update a (fJ λ_=>(#v[]:Array eJ))).push (fU "tuple" vs.toArray 0)).push (fU "list" #v[] 0),toks:=s.toks }:=
  J3.pin1 a4 (by rw[Aj P];exact M.1) M.2.1 M.2.2.1 (λv z=>by cases z)
 revert J4
 generalize ((s.heap.update a (fJ λ_=>(#v[]:Array eJ))).push (fU "tuple" vs.toArray 0)).objs.size=Q at nf P⊢;intro J4;let S4:∀b o,H b=g o->upd H Q (.lst []) b=g o:=λb o e=>by rw[Aj (Af e nf)];exact e
 let a0:upd H Q (.lst []) Q=g (.lst []):=Ab;generalize upd H Q (.lst [])=H4 at J4 S4 a0;unfold ksk_rest;refine a_ (sJ ?_)
 first
  |rw[List.forIn_toArray]
  |(rw[<- uQ];simp only[nB])
  |rw[<- uQ]
 refine a_ (ksk_fold (λi s'=>∃H' F,Ak X ((a,fU "list" #v[] T)::pins) σ H' s'/\(∀b o,H b=g o->H' b=g o)/\H' Q=g (.lst F)/\cR X.K H' (n+1) F (r.take i))
  vs 0 _ [H4,[],J4,S4,a0,by rw[List.take_zero];trivial] (λj x s' hx ⟨H',F,C,t,c,TI⟩=>?_) (λs' ⟨H',F,C,t,c,TI⟩=>?_))
 .rw[tJ]at TI⊢
  let hj:j<vs.length:=(hI.mp hx).1;let d:j<ys.length:=by lia
  let[W,er,ln,ky]:=KY.2 j _ (hD d);let[u,hu,ru]:=rv.get (hD d);rw[hx]at hu;cases hu;refine a_ (jF (ky _ H' s' _ C t ru λp a2 w S=>?_));let K:upd H' p (.tup (W.map V.int)) Q=g (.lst F):=by rw[Aj (Af c S)];exact c
  let[z,its,n',ri,li,e]:=w.lstM K;let lt:=TI.len;let a6:F.length<=j:=by rw[lt,hQ];lia
  dsimp only
  refine a_ (jG e I ?_ (by rw[dw,<- li];exact L _ Z) (fO (tL (Array.size_push ..)) (by rw[dw,<- li,ck];lia)));let J3:=w.lset (t':=a2.toks) (f:=(·.push (.ref p))) (its':=its++#[.ref p]) (ys:=F++#[.ref p]) K e zZ (ri.append (Paired.cons (show Az (.ref p) (.ref p) from rfl) .nil)) (by rw[fy];exact L _ (by show F.length+1<64;lia));refine b_ [I,_,_,J3,λb o q=>?_,Ab,?_]
  .rw[Aj (Af q nf),Aj (Af (t _ _ q) S)]
   exact t _ _ q
  .have a5:Bh X.K (upd H' p (.tup (W.map V.int))) p (W.map V.int):=Bh.of Ab
   let T2:cR X.K (upd H' p (.tup (W.map V.int))) (n+1) F (r.take j):=TI.mono (C5 λb o q=>by rw[Aj (Af q S)];exact q);rw[oO,er];exact(T2.app a5 ln).mono (LO K)
 .rw[tJ]at TI
  let lr:=KY.1;rw[vw Z]at TI;let[z,its,n',ri,li,e]:=C.lstM c;let lt:=TI.len;refine a_ (mQ e I ?_);let a1:=(C.pin (a,fU "list" #v[] T) (mu _ zZ)).1;let m:=(C.pin (a,fU "list" #v[] T) (mu _ zZ)).2.1;refine OP (O:=cS) (key:=λi=>r.getD i []) e a1 (fQ P) Z Z (λa7=>Y9 (TI.vals C ri) Z) λp S hu=>?_;let J5:=C.unpin.lset (t':=s'.toks) (f:=λ_=>(#v[]:Array eJ)) (its':=[]) (ys:=[]) c e zZ .nil (de _);let s2:=i_.update (s'.heap.update Q (fJ λ_=>(#v[]:Array eJ))) a (fJ λ_=>(Hy vs p).toArray);let a3:(s'.heap.update Q (fJ λ_=>(#v[]:Array eJ))).get? a=g (fU "list" #v[] T):=(wx _ _ _ _ P).trans a1;let an:upd H' Q (.lst []) a=U:=by rw[Aj P];exact m
  let N:Hs X pins (upd H' Q (.lst [])) a:=[an,M.2.1,M.2.2.1,M.2.2.2.1,M.2.2.2.2.1,λq hq=>M.2.2.2.2.2 q (by
   exact hq)]
  let J6:=J5.turned (t':=s'.toks) (λb o hb e=>(s2.2 b hb).trans e) N.1 N.2.1 N.2.2.2.1 N.2.2.2.2.1 N.2.2.2.2.2;let lp:(p.toList.map λi=>ys.getD i .non).length<=sizeLine:=by
   rw[cn,hH,S.size];exact L _ Z
  let J7:=J6.trackN (o:=.lst (p.toList.map λi=>ys.getD i .non)) N [lp,Hy vs p,_,Rm rv _,rP a3 λ_=>(Hy vs p).toArray];rw[<- lv]at S hu;refine h p _ _ J7 (λb o q=>?_) S hu Ab;rw[Aj (Af q M.1),Aj (Af q nf)];exact t _ _ q
def Zo{l f:J}{k n:Nat}{ys:List V}{W:List (List Int)}{E:eJ->eO->Prop}{Q:VK}
  (t:Bv (k+2) X.A) (B:Ak X pins σ H s)
  (w:Am X.K H l ys) (v:∀A:fL,A.frames=g X.stack->Bv k A->XF X σ pins A f (n+1) H ys W) (R:ys.length<64)
  (h:∀p a H',H a=U->(∀b o,H b=g o->H' b=g o)->CRS.Pm ys.length p->CRS.Up (O:=cS) (λi=>W.getD i []) p ys.length->H' a=g (.lst (p.toList.map λi=>ys.getD i .non))->Q (.ref a) H') :
  eV (fC X.prog X.w) X.A (call (.builtin "sorted") #[.ref l] #[(fM "key",.ref f)]) (EP X pins σ Q) E s:=by
 let[L,T,c,x]:=B.list w;let y:=T.length;let N:L.length<=sizeLine:=by rw[ck];omega
 refine call_function_entry_kw kind_sorted vF vK (ksk_s1 _ _) ?_;unfold iQ.«sorted»;refine a_ (m:=checkCount "sorted" 1 1 _) (b_ (a_ (collect_list c.isList (a_ (lR ?_ N)))));let F:((s.heap.push (fU "list" #v[] 0)).update ⇑s (fJ (· ++ L.toArray))).objs.size=⇑s+1:=by rw[wL,size_push']
 let M:(((s.heap.push (fU "list" #v[] 0)).update ⇑s (fJ (· ++ L.toArray))).push (fU "list" L.toArray 0)).get? (⇑s+1)=g (fU "list" L.toArray 0):=by
  rw[<- F];exact h_ _ I
 let P:∀b o,s.heap.get? b=g o->(((s.heap.push (fU "list" #v[] 0)).update ⇑s (fJ (· ++ L.toArray))).push (fU "list" L.toArray 0)).get? b=g o:=λb o e=>
  dv _ (((i_.update (s.heap.push (fU "list" #v[] 0)) ⇑s (fJ (· ++ L.toArray))).2 b (fj (dn e))).trans (dv _ e))
 show eV (fC X.prog X.w) _ _ _ _ { s with heap:=((s.heap.push (fU "list" #v[] 0)).update ⇑s (fJ (· ++ L.toArray))).push (fU "list" L.toArray 0) };rw[F];let K:H (⇑s+1)=U:=B.hok.fresh (nh _);let C:=B.kept (t':=s.toks) P;let j:Hs X (pins) H (⇑s+1):=B.fpOk (nh _) K;refine a_ (fV (wpAny_call_entry_kw sN [_,M,I] rQ ?_ (ksk_l1 _ _)));rw[ksk_t1];refine AA (s:={ s with heap:=((s.heap.push (fU "list" #v[] 0)).update ⇑s (fJ (· ++ L.toArray))).push (fU "list" L.toArray 0) }) C M j T (v _ B.ok.frames ((t.in1).in1)) R λp z H' u d r q S=>[_,I,?_];exact b_ [_,I,.ref (⇑s+1),H',u,I,h p _ H' K d r q S]
def AS{c T:J}{qual:eU}{W e:gK}{p E F P:nA}(he:PE X e te)(B:OC X qual params W scope)(hr:Bv 3 X.A)(N:X.env.code=.ref c)(C:CodeHd X.base c T)(hb:BI X.mg X.base)(ac:sS scope X.env=pure [])
  (hq:X.env.qual++"<lambda>"=qual) (ab:defaultsOf params X.env=([],[])) (hg:Gl X "sorted") (hm:X.mg "sorted"=U) (hs:eX #[e] X.env=#[(eM,gC e X.env)]:=by rfl) :
  PE X (.Call (.Name "sorted" p) #[e] #[[g "key",.Lambda params W scope F,P]] E) (NR X.K T F qual te):=by
 intro pins s σ H Q M h;refine gB (Fy (u:=.builtin "sorted") M hg hm (by rfl) ?_);refine callWith_kw ?_ (by rw[hs];rfl) (by rw[hs];rfl);rw[hs];refine gJ (Ct (he pins s σ H _ M h) λu s1 ⟨x,w,I1,r1,q1⟩=>gU ?_);let[l,ys,rs,rfl,hl,KY,aa,L,q]:=q1;cases r1;show eV _ _ (evalAll ((do let v <- gC (.Lambda params W scope F) X.env;kF E;pure v)::[])) _ _ s1;refine wpAny_evalAll_cons (a_ (kla_eval ab ?_));rw[hq];refine FS I1 N C ac L hb λf c' pm ad h' tk H' R S nn hT hc fp hf=>?_;refine a_ (iB (b_ (wpAny_evalAll_nil ?_)));let nT:∀b u,w b=g u->(∀ps,u≠.tbl ps)->b≠T:=λb u e n z=>by
  rcases L with L|⟨_,L,_⟩
  .rw[z,L]at e;cases e;exact n _ I
  .rw[z,L]at e;cases e;exact n _ I
 let sT:∀t r,Bh X.K w t r->Bh X.K H' t r:=λt r z=>by
  rcases z with (z|⟨o,z⟩)|z
  .exact .inl (.inl (S _ _ z (nT _ _ z λ_ y=>by cases y)))
  .exact .inl (.inr [o,S _ _ z (nT _ _ z λ_ y=>by cases y)])
  .exact .inr z
 let sL:Am X.K H' l ys:=by
  rcases hl with (z|⟨o,z⟩)|z
  .exact .inl (.inl (S _ _ z (nT _ _ z λ_ y=>by cases y)))
  .exact .inl (.inr [o,S _ _ z (nT _ _ z λ_ y=>by cases y)])
  .exact .inr z
 let KZ:=KY.mono sT;refine Ct (Zo (k:=1) (n:=2) hr (R.pin1 hf fp.1 fp.2.1 fp.2.2.1 (λv z=>by cases z)) sL (λA hA hr=>[KZ.len.symm,λj y hy=>?_]) aa λp a O K i hp hu ha=>?_) λu s' ⟨x,O,I2,r2,q2⟩=>[x,O,I2.unpin,r2,q2]
 .let[t,d,k,m,v,rfl,ht,er]:=KZ.get hy
  refine[_,er,I,λe O s u {_ _} R S ru h=>?_];cases ru;let fo:=(R.pin _ (mu _ (e_ _ fk))).1;exact KG B hA hr R fo (S _ _ hc) (C5 S _ _ ht) h
 refine q p a O ?_ (λb o e n=>i _ _ (S b o e n)) (.inr [c',i _ _ hT,i _ _ hc]) hp hu ha;cases z:w a with
 |none=>rfl
 |some o=>
  by_cases n:a=T
  .rw[n,hT]at K;cases K
  .rw[S a o z n]at K;cases K
end
end L2
namespace L2
open PySem PySem.Spec PyProof.Rows
abbrev oR(a:J):Option V:=g (.ref a)
abbrev oN(i:Int):Option V:=g (.int i)
abbrev oS(x:eU):Option V:=g (.str x)
abbrev oL(xs:List V):Option HO:=g (.lst xs)
abbrev oT(xs:List V):Option HO:=g (.tup xs)
abbrev oI(C d:J)(B:List (eU×V)):Option HO:=g (.ins C d B)
end L2
namespace CRP
abbrev Tr3:=Int×Int×Int
def fwFrom:List (Int×Int)->Int->Int->Int
 |[],_,_ => -1
 |(a,b)::r,k,c=>if c<a\/b<=c then k else fwFrom r (k+1) c
def fw(sp:List (Int×Int))(c:Int):Int:=fwFrom sp 0 c
theorem T8{l c:Int}(h:l<=c):∀(sp:List (Int×Int)) (k:Int),(∀p∈sp,¬(l<p.1/\p.1<=c)/\¬(l<p.2/\p.2<=c))->fwFrom sp k c=fwFrom sp k l
 |[],_,_=>rfl
 |(a,b)::r,k,no=>by
  let C:=T8 h r (k+1) λp B=>no p (e_ _ B);let[F,j]:=no (a,b) fk;unfold fwFrom
  dsimp only at F j
  by_cases z:c<a\/b<=c
  .rw[eR z,eR Z]
  .rw[eQ z,eQ Z,C]
def Gp:List Tr3->Int->Int->Int->List Tr3
 |[],C,B,k=>#[(C,B,k)]
 |#[(l,h,k')],C,B,k=>if k'=k then #[(l,B,k)] else #[(l,h,k'),(C,B,k)]
 |x::y::r,C,B,k=>x::Gp (y::r) C B k
theorem stepP_snoc(l h j lo B k:Int):∀F:List Tr3,Gp (F++#[(l,h,j)]) lo B k=if j=k then F++#[(l,B,k)] else F++#[(l,h,j)]++#[(lo,B,k)]
 |[]=>by
  show Gp #[(l,h,j)] lo B k=_;unfold Gp;by_cases z:j=k
  .rw[eR z,eR z];rfl
  .rw[eQ z,eQ z];rfl
 |#[x]=>by
  let C:=stepP_snoc l h j lo B k [];show x::Gp #[(l,h,j)] lo B k=_;rw[show Gp #[(l,h,j)] lo B k=_ from C];by_cases z:j=k
  .rw[eR z,eR z];rfl
  .rw[eQ z,eQ z];rfl
 |x::y::r=>by
  let C:=stepP_snoc l h j lo B k (y::r);show x::Gp (y::r++#[(l,h,j)]) lo B k=_;rw[C];by_cases z:j=k
  .rw[eR z,eR z];rfl
  .rw[eQ z,eQ z];rfl
def Ch(f:Int->Int):Int->Option Int->List Tr3->Int->Prop
 |s,_,[],e=>s=e
 |s,lk,(l,h,k)::r,e=>l=s/\l<h/\lk≠g k/\(∀c,l<=c->c<h->f c=k)/\Ch f h (g k) r e
theorem Ch.step{f:Int->Int}{M k:Int}:∀{told} {s:Int} {F:Option Int} {e:Int},Ch f s F told e->e<M->(∀c,e<=c->c<M->f c=k)->(told=[]->F≠g k)->Ch f s F (Gp told e M k) M
 |[],s,F,e,h,h1,j,h3=>by
  let B:s=e:=h;subst B;exact[I,h1,h3 I,j,I]
 |#[(l,h,k')],s,F,e,[H,a2,L,S,C],h1,j,h3=>by
  let B:h=e:=C;subst B;unfold Gp;by_cases z:k'=k
  .rw[eR z]
   refine[H,Z,by rw[<- z];exact L,λc O N=>?_,I];by_cases q:c<h
   .rw[S c O q,z]
   .exact j c Z N
  .rw[eQ z]
   exact[H,a2,L,S,I,h1,λq=>z (gD q),j,I]
 |(l,h,k')::y::r,s,F,e,[H,a2,L,S,C],h1,j,h3=>by
  unfold Gp;exact[H,a2,L,S,Ch.step (told:=y::r) C h1 j λz=>by cases z]
def foldP(sp:List (Int×Int))(C:List Int)(i:Nat):List Tr3:=(kw i).foldl (λB j=>Gp B (C.getD j 0) (C.getD (j+1) 0) (fw sp (C.getD j 0))) []
def foldP_succ(sp:List (Int×Int))(j:List Int)(i:Nat):foldP sp j (i+1)=Gp (foldP sp j i) (j.getD i 0) (j.getD (i+1) 0) (fw sp (j.getD i 0)):=by
 unfold foldP;rw[pR,vT];rfl
theorem Vu(lo B k:Int):∀j:List Tr3,(Gp j lo B k).length<=j.length+1
 |[]=>by unfold Gp;simp
 |#[(l,h,F)]=>by unfold Gp;split<;>simp
 |x::y::r=>by
  let:=Vu lo B k (y::r);unfold Gp;simp only[c_]at *
  lia
theorem foldP_len(sp:List (Int×Int))(j:List Int):∀i,(foldP sp j i).length<=i
 |0=>de _
 |i+1=>by
  rw[foldP_succ];let:=foldP_len sp j i;let:=Vu (j.getD i 0) (j.getD (i+1) 0) (fw sp (j.getD i 0)) (foldP sp j i)
  lia
def get_lt{F:List Int}(h:F.Pairwise (· < ·)){i j:Nat}(L:i<j)(S:j<F.length):F.getD i 0<F.getD j 0:=by
 rw[l_,l_,hD Z,hD S];exact s0.mp h i j Z S L
theorem fold_ch{sp:List (Int×Int)}{F:List Int}(h:F.Pairwise (· < ·))(L:∀p∈sp,p.1∈F/\p.2∈F):∀i,i<F.length->F.getD 0 0=0->Ch (fw sp) 0 U (foldP sp F i) (F.getD i 0)
 |0,_,M=>M.symm
 |i+1,Q,M=>by
  let P:=fold_ch h L i Z M;rw[foldP_succ];refine P.step (get_lt h (vn _) Q) (λc H W=>?_) (λx z=>by cases z);refine T8 H sp 0 λp N=>?_;let O:∀y∈F,¬(F.getD i 0<y/\y<=c):=λy B ⟨X,R⟩=>by
   let[j,C,e]:=pb B;let T:F.getD j 0=y:=by rw[l_,hD C];exact e
   rcases wb j (i+1)with q|q|q
   .rcases lV j i with S|S
    .have:=get_lt h S Z;lia
    .have:j=i:=by lia
     subst this;lia
   .subst q;lia
   .have:=get_lt h q C;lia
  exact[O _ (L p N).1,O _ (L p N).2]
theorem Ch.head{f:Int->Int}{s:Int}{j:Option Int}{e:Int}:∀{ps},Ch f s j ps e->s<e->∃p,ps[0]?=g p/\p.1=s
 |[],h,z=>fA (show s=e from h) Z
 |(l,F,k)::r,h,_=>[_,I,h.1]
theorem Ch.get{f:Int->Int}:∀{ps} {s:Int} {L:Option Int} {e:Int} {i:Nat} {p},Ch f s L ps e->ps[i]?=g p->p.1<p.2.1/\(∀c,p.1<=c->c<p.2.1->f c=p.2.2)/\(p.2.1<e->∃q,ps[i+1]?=g q/\q.1=p.2.1)/\s<=p.1/\p.2.1<=e
 |[],_,_,_,_,_,_,z=>by simp at z
 |(l,h,k)::r,s,L,e,0,p,[a1,S,C,H,j],z=>by
  simp at z;subst z;refine[S,H,λq=>?_,by show s<=l;lia,?_]
  .let[p,M,F]:=j.head q
   exact[p,by simpa using M,F]
  .show h<=e
   cases r with
   |nil=>exact Int.le_of_eq (show h=e from j)
   |cons x r=>
    let:=Ch.get (i:=0) j I
    lia
 |(l,h,k)::r,s,L,e,i+1,p,[a1,S,C,H,j],z=>by
  let[N,P,O,b4,B]:=Ch.get (i:=i) j (by simpa using z);refine[N,P,λq=>?_,Z,B];let[y,M,F]:=O q;exact[y,by simpa using M,F]
end CRP
namespace CR
abbrev Rn:=Int×Int
def inR(ps:List Rn)(n:Int):Bool:=ps.any λp=>decide (p.1<=n)&&decide (n<p.2)
structure Frm(ps:List Rn):Prop where
 lt:∀p∈ps,p.1<p.2
 pw:ps.Pairwise λp q=>p.2<q.1
def cB{ps:List Rn}{n:Int}:inR ps n=eP↔∃p∈ps,p.1<=n/\n<p.2:=by
 unfold inR;rw[List.any_eq_true];constructor
 .rintro ⟨p,B,h⟩
  rw[gd,fR,fR]at h;exact[p,B,h]
 .rintro ⟨p,B,h⟩
  exact[p,B,by rw[gd,fR,fR];exact h]
def Qo(ps qs:List Rn)(n:Int):inR (ps++qs) n=(inR ps n||inR qs n):=by unfold inR;rw[List.any_append]
def Hc{a b:Bool}(h:a=eP↔b=eP):a=b:=by cases a<;>cases b<;>simp_all
def cutM(lo B:Int)(p:Rn):Rn:=(if lo>p.1 then lo else p.1,if B<p.2 then B else p.2)
def cutW(ps:List Rn)(lo B:Int):List Rn:=(ps.map (cutM lo B)).filter λp=>decide (p.1<p.2)
def cutW_in(ps:List Rn)(lo H n:Int):inR (cutW ps lo H) n=(inR ps n&&(decide (lo<=n)&&decide (n<H))):=by
 apply Hc;rw[gd,gd,fR,fR,cB,cB];constructor
 .rintro ⟨p,C,B,j⟩
  let[C,_]:=nw.mp C;let[q,F,rfl]:=g_.mp C;unfold cutM at B j;refine[[q,F,?_,?_],?_,?_]<;>(simp only at B j;split at B<;>split at j<;>omega)
 .rintro ⟨⟨q,F,B,j⟩,L,S⟩
  refine[cutM lo H q,nw.mpr [g_.mpr [q,F,I],?_],?_,?_]
  .rw[fR];unfold cutM;simp only;split<;>split<;>omega
  .unfold cutM;simp only;split<;>omega
  .unfold cutM;simp only;split<;>omega
def Kn{ps:List Rn}(lo B:Int)(h:ps.Pairwise λp q=>p.2<q.1):Frm (cutW ps lo B):=by
 refine[λp C=>?_,?_]
 .exact fE (nw.mp C).2
 .refine List.Pairwise.filter _ ?_
  rw[vy];refine h.imp ?_;intro p q h;unfold cutM;simp only
  split<;>split<;>lia
def below(ps:List Rn)(m:Int):Int:=(ps.map λp=>if p.1<m then(if m<p.2 then m else p.2)-p.1 else 0).sum
def lowW:List Rn->Int->List Rn
 |[],_=>[]
 |p::B,n=>(if 0<n then #[(p.1,if p.1+n<p.2 then p.1+n else p.2)] else [])++lowW B (n-(p.2-p.1))
def Su(p:Rn)(ps:List Rn)(m:Int):below (p::ps) m=(if p.1<m then(if m<p.2 then m else p.2)-p.1 else 0)+below ps m:=by
 unfold below;rw[iw,List.sum_cons]
theorem Rr:∀{ps} {m:Int},(∀p∈ps,m<=p.1)->below ps m=0
 |[],_,_=>by unfold below;simp
 |p::ps,m,h=>by
  let B:=Rr (ps:=ps) (m:=m) λq j=>h q (e_ _ j);let:=h p fk;rw[Su,B]
  split<;>lia
theorem Ux:∀{ps} {n:Int},(∀p∈ps,p.1<p.2)->n<=0->lowW ps n=[]
 |[],_,_,_=>rfl
 |p::ps,n,h,F=>by
  let:=h p fk;unfold lowW;rw[eQ Z,Ux (ps:=ps) (λq j=>h q (e_ _ j)) Z];rfl
theorem P7:∀{ps},Frm ps->∀n m:Int,inR (lowW ps n) m=(inR ps m&&decide (below ps m<n))
 |[],_,n,m=>by simp[lowW,inR]
 |p::ps,f,n,m=>by
  let T:=f.lt p fk;let Q:Frm ps:=[λq F=>f.lt q (e_ _ F),(o0.mp f.pw).2];let F:=(o0.mp f.pw).1;let P:=P7 Q (n-(p.2-p.1)) m;unfold lowW;rw[Qo,P,Su];let e:inR (p::ps) m=(inR #[p] m||inR ps m):=Qo #[p] ps m;rw[e];let M:∀q:Rn,inR #[q] m=(decide (q.1<=m)&&decide (m<q.2)):=λq=>by simp[inR]
  by_cases O:m<p.2
  ·
   let B:below ps m=0:=Rr λq h=>by let:=F q h;lia
   let H:inR ps m=eM:=by
    apply ra.mpr;intro h;let[q,N,j,_]:=cB.mp h;let:=F q N
    lia
   rw[B,H,M,qP,rK,rK];apply Hc;by_cases S:0<n
   .rw[eR S,M]
    simp only[gd,fR];constructor
    .rintro ⟨N,j⟩
     split at j<;>(refine[[N,O],?_];split<;>(try split)<;>lia)
    .rintro ⟨⟨N,j⟩,L⟩
     refine[N,?_]
     split at L
     .split<;>lia
     .split<;>lia
   .rw[eQ S]
    simp only[gd,fR];constructor
    .intro h;exact fA h (by simp[inR])
    .rintro ⟨⟨N,j⟩,L⟩
     split at L<;>(try split at L)<;>lia
  .have C:inR #[p] m=eM:=by rw[M];simp;lia
   let R:inR (if 0<n then #[(p.1,if p.1+n<p.2 then p.1+n else p.2)] else []) m=eM:=by
    split
    .rw[M];simp only[tQ,mR];right;split<;>lia
    .rfl
   rw[C,R,rL,rL,eR Z,eQ Z]
   congr 1
   apply Hc;rw[fR,fR]
   lia
theorem Zx:∀{ps} {n:Int} {q},q∈lowW ps n->∃p∈ps,q.1=p.1/\q.2<=p.2
 |[],_,_,h=>by simp[lowW]at h
 |p::ps,n,q,h=>by
  unfold lowW at h;rcases gw.mp h with h|h
  .split at h
   .rw[d_]at h
    subst h;refine[p,fk,I,?_];simp only
    split<;>lia
   .cases h
  .let[r,C,B,j]:=Zx h
   exact[r,e_ _ C,B,j]
theorem Yz:∀{ps} (n:Int),Frm ps->Frm (lowW ps n)
 |[],_,_=>[λx h=>(nomatch h),.nil]
 |p::ps,n,f=>by
  let L:=f.lt p fk;let F:Frm ps:=[λq j=>f.lt q (e_ _ j),(o0.mp f.pw).2];let j:=(o0.mp f.pw).1;let B:=Yz (n-(p.2-p.1)) F;unfold lowW
  split
  .refine[λq h=>?_,?_]
   .rcases gw.mp h with h|h
    .rw[d_]at h
     subst h;simp only
     split<;>lia
    .exact B.lt q h
   .rw[tM,o0]
    refine[λq h=>?_,B.pw];let[r,C,H,_]:=Zx h;let:=j r C;simp only
    split<;>lia
  .exact B
theorem lowW_len:∀(ps:List Rn) (n:Int),(lowW ps n).length<=ps.length
 |[],_=>b' _
 |p::ps,n=>by
  let:=lowW_len ps (n-(p.2-p.1));unfold lowW;rw[fy,c_]
  split<;>simp<;>lia
def maxI(a b:Int):Int:=if b>a then b else a
def minI(a b:Int):Int:=if b<a then b else a
def leftW(e:Int):Int->List Rn->List Rn
 |b,[]=>if b<e then #[(b,e)] else []
 |b,q::B=>(if b<minI q.1 e then #[(b,minI q.1 e)] else [])++leftW e (maxI b q.2) B
def outW(ps qs:List Rn):List Rn:=(ps.map λp=>leftW p.2 p.1 qs).flatten
theorem Ru(e:Int):∀{qs},(∀q∈qs,q.1<q.2)->(qs.Pairwise λp q=>p.2<q.1)->∀b m:Int,inR (leftW e b qs) m=((decide (b<=m)&&decide (m<e)) && !inR qs m)
 |[],_,_,b,m=>by
  unfold leftW;apply Hc
  split<;>simp[inR]<;>omega
 |q::qs,O,B,b,m=>by
  let E:=O q fk;let Q:=(o0.mp B).1;let R:=Ru e (λq h=>O q (e_ _ h)) (o0.mp B).2 (maxI b q.2) m;unfold leftW;let X:inR (q::qs) m=(inR #[q] m||inR qs m):=Qo #[q] qs m;rw[Qo,R,X];let N:∀q:Rn,inR #[q] m=(decide (q.1<=m)&&decide (m<q.2)):=λq=>by simp[inR]
  rw[N];let H:∀x,x<minI q.1 e↔x<q.1/\x<e:=λx=>by unfold minI;split<;>omega
  let A:inR (if b<minI q.1 e then #[(b,minI q.1 e)] else []) m=(decide (b<=m)&&(decide (m<q.1)&&decide (m<e))):=by
   apply Hc;by_cases L:b<minI q.1 e
   .rw[eR L,N]
    simp only[gd,fR];rw[H]
   .rw[eQ L]
    simp only[gd,fR];constructor
    .intro h;exact fA h (by simp[inR])
    .intro h
     exact fA ((H b).mpr [zY,zY]) L
  rw[A];let C:m<q.1->inR qs m=eM:=λh=>by
   apply ra.mpr;intro P;let[r,M,F,_]:=cB.mp P;let:=Q r M;omega
  let T:∀x,maxI b q.2<=x↔b<=x/\q.2<=x:=λx=>by unfold maxI;split<;>omega
  apply Hc;rw[pS];simp only[gd,fR,ql,Bool.or_eq_false_iff,tQ,mR];rw[T];constructor
  .rintro (⟨M,F,j⟩|⟨⟨⟨M,F⟩,j⟩,S⟩)
   .exact[[M,j],.inl zY,C F]
   .exact[[M,j],.inr zY,S]
  .rintro ⟨⟨M,F⟩,j,S⟩
   by_cases W:m<q.1
   .exact .inl [M,W,F]
   .refine .inr [[[M,?_],F],S]
    rcases j with j|j<;>omega
set_option tactic.hygienic true in
theorem Ik(e:Int):∀{qs} {b:Int} {r},r∈leftW e b qs->b<=r.1/\r.1<r.2/\r.2<=e
 |[],b,r,h=>by
  unfold leftW at h
  split at h
  .rw[d_]at h;subst h;simp only;lia
  .cases h
 |q::qs,b,r,h=>by
  unfold leftW at h;rcases gw.mp h with h|h
  .split at h
   .rw[d_]at h;subst h;rename_i B;simp only;refine[iH _,B,?_];unfold minI;split<;>lia
   .cases h
  .have:=Ik e h
   let j:b<=maxI b q.2:=by unfold maxI;split<;>lia
   lia
theorem D0(e:Int):∀{qs},(∀q∈qs,q.1<q.2)->∀b:Int,(leftW e b qs).Pairwise λp q=>p.2<q.1
 |[],_,b=>by unfold leftW;split<;>simp
 |q::qs,B,b=>by
  let j:=B q fk;let C:=D0 e (λq h=>B q (e_ _ h)) (maxI b q.2);unfold leftW
  split
  .rw[tM,o0]
   refine[λr h=>?_,C];let H:=Ik e h;let F:q.2<=maxI b q.2:=by unfold maxI;split<;>lia
   simp only;let:minI q.1 e<=q.1:=by unfold minI;split<;>lia
   lia
  .exact C
def outW_in{ps qs:List Rn}(j:Frm qs)(m:Int):inR (outW ps qs) m=(inR ps m && !inR qs m):=by
 apply Hc;rw[gd,ql,cB,cB];unfold outW;constructor
 .rintro ⟨r,B,C,F⟩
  let[l,M,B]:=wq.mp B;let[p,H,rfl]:=g_.mp M;let z:inR (leftW p.2 p.1 qs) m=eP:=cB.mpr [r,B,C,F];rw[Ru p.2 j.lt j.pw]at z;simp only[gd,fR,ql]at z;exact[[p,H,z.1.1,z.1.2],z.2]
 .rintro ⟨⟨p,H,C,F⟩,L⟩
  let z:inR (leftW p.2 p.1 qs) m=eP:=by
   rw[Ru p.2 j.lt j.pw];simp only[gd,fR,ql];exact[[C,F],L]
  let[r,B,h]:=cB.mp z;exact[r,wq.mpr [_,g_.mpr [p,H,I],B],h]
def outW_frm{ps qs:List Rn}(H:Frm ps)(F:Frm qs):Frm (outW ps qs):=by
 refine[λr B=>?_,?_]
 .let[l,C,B]:=wq.mp B
  let[p,M,rfl]:=g_.mp C;exact(Ik p.2 B).2.1
 .unfold outW
  rw[List.pairwise_flatten];refine[λl C=>?_,?_]
  .let[p,M,rfl]:=g_.mp C
   exact D0 p.2 F.lt p.1
  .rw[vy]
   refine H.pw.imp ?_;intro p q h r B t j;let N:=Ik p.2 B;let L:=Ik q.2 j;omega
theorem leftW_len(e:Int):∀(qs:List Rn) (b:Int),(leftW e b qs).length<=qs.length+1
 |[],b=>by unfold leftW;split<;>simp
 |q::qs,b=>by
  let:=leftW_len e qs (maxI b q.2);unfold leftW;rw[fy,c_]
  split<;>simp<;>lia
def outW_len(ps qs:List Rn):(outW ps qs).length<=ps.length*(qs.length+1):=by
 unfold outW
 induction ps with
 |nil=>simp
 |cons p ps B=>
  let:=leftW_len p.2 qs p.1;rw[iw,wh,fy,c_,Nat.add_mul];omega
def cutW_len(ps:List Rn)(lo B:Int):(cutW ps lo B).length<=ps.length:=by
 unfold cutW;let:=ni (λp:Rn=>decide (p.1<p.2)) (ps.map (cutM lo B));rw[cn]at this;exact this
def lowW_nil(n:Int):lowW [] n=[]:=rfl
def lowW_cons(p:Rn)(ps:List Rn)(n:Int):lowW (p::ps) n=(if 0<n then #[(p.1,if p.1+n<p.2 then p.1+n else p.2)] else [])++lowW ps (n-(p.2-p.1)):=rfl
def leftW_nil(e b:Int):leftW e b []=if b<e then #[(b,e)] else []:=rfl
def leftW_cons(e b:Int)(q:Rn)(qs:List Rn):leftW e b (q::qs)=(if b<minI q.1 e then #[(b,minI q.1 e)] else [])++leftW e (maxI b q.2) qs:=rfl
end CR
namespace CRT
open CR CRP
section
variable {ν:Type}
abbrev Sx(ν:Type):=Int×Int × ν × Int
abbrev Av(ν:Type):=ν × (Int×Int)×Option Int
def payW(c:Av ν)(B:List Rn):List Rn:=match c.2.2 with
 |none=>cutW B c.2.1.1 c.2.1.2
 |some n=>lowW (cutW B c.2.1.1 c.2.1.2) n
def tag(nm:ν)(k:Int)(ps:List Rn):List (Sx ν):=ps.map λp=>(p.1,p.2,nm,k)
def paidS:List (Av ν)->List Rn->List (Sx ν)
 |[],_=>[]
 |c::C,B=>tag c.1 (-1) (payW c B)++paidS C (outW B (payW c B))
def leftS:List (Av ν)->List Rn->List Rn
 |[],B=>B
 |c::C,B=>leftS C (outW B (payW c B))
def borneS(nm:ν)(B:Int->Int)(C:List Tr3)(H:List Rn):List (Sx ν):=(C.map λp=>tag nm (B p.2.2) (cutW H p.1 p.2.1)).flatten
def BD(S:List (Sx ν))(n:Int):Prop:=∃s∈S,s.1<=n/\n<s.2.1
def X2{S T:List (Sx ν)}{n:Int}:BD (S++T) n↔BD S n\/BD T n:=by
 unfold BD;constructor
 .rintro ⟨s,B,h⟩
  rcases gw.mp B with z|z
  .exact .inl [s,z,h]
  .exact .inr [s,z,h]
 .rintro (⟨s,B,h⟩|⟨s,B,h⟩)
  .exact[s,gw.mpr (.inl B),h]
  .exact[s,gw.mpr (.inr B),h]
def Qk{nm:ν}{k:Int}{ps:List Rn}{n:Int}:BD (tag nm k ps) n↔inR ps n=eP:=by
 rw[cB];unfold BD tag;constructor
 .rintro ⟨s,C,h⟩
  let[p,B,rfl]:=g_.mp C;exact[p,B,h]
 .rintro ⟨p,B,h⟩
  exact[_,g_.mpr [p,B,I],h]
def apart(s t:Sx ν):Prop:=(s.2.1<=t.1\/t.2.1<=s.1)/\(s.2.1=t.1\/t.2.1=s.1->s.2.2≠t.2.2)
structure Sep(S:List (Sx ν)):Prop where
 lt:∀s∈S,s.1<s.2.1
 pw:S.Pairwise apart
def Sep.nil:Sep ([]:List (Sx ν)):=[λx h=>(nomatch h),.nil]
def Q4{nm:ν}{k:Int}{ps:List Rn}(f:Frm ps):Sep (tag nm k ps):=by
 refine[λs C=>?_,?_]
 .let[p,B,rfl]:=g_.mp C
  exact f.lt p B
 .unfold tag
  rw[vy];refine f.pw.imp_of_mem λ{p q} B F h=>[.inl (by show p.2<=q.1;lia),λz=>?_];let:=f.lt p B;let:=f.lt q F;rcases z with z|z
  .have j:p.2=q.1:=z
   lia
  .have j:q.2=p.1:=z
   lia
def Wr{S T:List (Sx ν)}(a:Sep S)(b:Sep T)(F:∀n,BD S n->BD T n->False)(L:∀s∈S,∀t∈T,(s.2.1=t.1\/t.2.1=s.1)->s.2.2≠t.2.2):Sep (S++T):=by
 refine[λs M=>?_,List.pairwise_append.mpr [a.pw,b.pw,λs M t j=>[?_,L s M t j]]]
 .rcases gw.mp M with z|z
  .exact a.lt s z
  .exact b.lt s z
 .have N:=a.lt s M
  let O:=b.lt t j;by_cases H:s.2.1<=t.1
  .exact .inl H
  by_cases C:t.2.1<=s.1
  .exact .inr C
  exfalso;by_cases B:s.1<=t.1
  .exact F t.1 [s,M,B,Z] [t,j,Z,O]
  .exact F s.1 [s,M,Z,N] [t,j,Z,Z]
def payW_frm{c:Av ν}{B:List Rn}(f:Frm B):Frm (payW c B):=by
 unfold payW
 split
 .exact Kn _ _ f.pw
 .exact Yz _ (Kn _ _ f.pw)
def JV{c:Av ν}{B:List Rn}(f:Frm B){n:Int}(h:inR (payW c B) n=eP):inR B n=eP:=by
 unfold payW at h
 split at h
 .rw[cutW_in,gd]at h
  exact h.1
 .rw[P7 (Kn _ _ f.pw),gd,cutW_in,gd]at h
  exact h.1.1
theorem leftS_frm:∀{cs:List (Av ν)} {B:List Rn},Frm B->Frm (leftS cs B)
 |[],_,f=>f
 |c::cs,B,f=>leftS_frm (cs:=cs) (outW_frm f (payW_frm f))
theorem leftS_sub:∀{cs:List (Av ν)} {B:List Rn} {n:Int},Frm B->inR (leftS cs B) n=eP->inR B n=eP
 |[],_,_,_,h=>h
 |c::cs,B,n,f,h=>by
  let:=leftS_sub (cs:=cs) (outW_frm f (payW_frm f)) h;rw[outW_in (payW_frm f),gd]at this;exact this.1
theorem Sf:∀{cs:List (Av ν)} {B:List Rn} {n:Int},Frm B->(BD (paidS cs B) n↔inR B n=eP/\inR (leftS cs B) n=eM)
 |[],B,n,f=>by
  constructor
  .rintro ⟨s,H,_⟩
   cases H
  .rintro ⟨C,F⟩
   let j:inR B n=eM:=F;rw[C]at j;cases j
 |c::cs,B,n,f=>by
  let L:=outW_frm f (payW_frm (c:=c) f);unfold paidS leftS;rw[X2,Qk,Sf (cs:=cs) L,outW_in (payW_frm f),gd,ql];constructor
  .rintro (h|⟨⟨C,F⟩,S⟩)
   .refine[JV f h,?_]
    cases z:inR (leftS cs (outW B (payW c B))) n with
    |false=>rfl
    |true=>
     let:=leftS_sub L z;rw[outW_in (payW_frm f),gd,ql]at this;rw[h]at this;cases this.2
   .exact[C,S]
  .rintro ⟨C,F⟩
   cases z:inR (payW c B) n with
   |true=>exact .inl I
   |false=>exact .inr [[C,I],F]
theorem Nw:∀{cs:List (Av ν)} {B:List Rn} {s:Sx ν},s∈paidS cs B->s.2.2.2 = -1/\s.2.2.1∈cs.map (·.1)
 |[],_,_,h=>nomatch h
 |c::cs,B,s,h=>by
  unfold paidS at h;rcases gw.mp h with z|z
  .let[p,_,rfl]:=g_.mp z
   exact[I,fk]
  .let[a,b]:=Nw z
   exact[a,e_ _ b]
theorem Vh:∀{cs:List (Av ν)} {B:List Rn},Frm B->(cs.map (·.1)).Nodup->Sep (paidS cs B)
 |[],_,_,_=>Sep.nil
 |c::cs,B,f,F=>by
  rw[iw,lj]at F;let L:=outW_frm f (payW_frm (c:=c) f);unfold paidS;refine Wr (Q4 (payW_frm f)) (Vh L F.2) (λn C j=>?_) (λs H t S x e=>?_)
  .rw[Qk]at C
   rw[Sf L,outW_in (payW_frm f),gd,ql]at j;rw[C]at j;cases j.1.2
  .let[p,_,rfl]:=g_.mp H
   let:=(Nw S).2;rw[<- e]at this;exact F.1 this
def Mc(nm:ν)(B:Int->Int)(p:Tr3)(ps:List Tr3)(C:List Rn):borneS nm B (p::ps) C=tag nm (B p.2.2) (cutW C p.1 p.2.1)++borneS nm B ps C:=by
 unfold borneS;rw[iw,wh]
theorem NB{f:Int->Int}:∀{ps} {a:Int} {j:Option Int} {e:Int},Ch f a j ps e->a<=e
 |[],a,j,e,h=>by
  let H:a=e:=h
  lia
 |(l,h,k)::r,a,j,e,[B,S,L,C,F]=>by
  let:=NB F
  lia
theorem Qy{f:Int->Int}{nm:ν}{B:Int->Int}{O:List Rn}{n:Int}:∀{ps} {a:Int} {L:Option Int} {e:Int},Ch f a L ps e->(BD (borneS nm B ps O) n↔inR O n=eP/\a<=n/\n<e)
 |[],a,L,e,h=>by
  let Q:a=e:=h;constructor
  .rintro ⟨s,P,_⟩
   cases P
  .rintro ⟨_,N,F⟩
   lia
 |(l,h,k)::r,a,L,e,[a1,C,M,H,S]=>by
  let R:=NB S;rw[Mc,X2,Qk,Qy S,cutW_in,gd,gd,fR,fR]
  dsimp only
  constructor
  .rintro (⟨N,F,j⟩|⟨N,F,j⟩)
   .exact[N,Z,Z]
   .exact[N,Z,j]
  .rintro ⟨N,F,j⟩
   by_cases c:n<h
   .exact .inl [N,Z,c]
   .exact .inr [N,Z,j]
theorem La{nm:ν}{B:Int->Int}{C}{s}:∀{ps},s∈borneS nm B ps C->∃p∈ps,s.2.2=(nm,B p.2.2)/\∃q∈cutW C p.1 p.2.1,s.1=q.1/\s.2.1=q.2
 |[],h=>nomatch h
 |p::ps,h=>by
  rw[Mc]at h;rcases gw.mp h with z|z
  .let[q,N,rfl]:=g_.mp z
   exact[p,fk,I,q,N,I,I]
  .let[M,L,H]:=La z
   exact[M,e_ _ L,H]
def Wo{H:List Rn}{lo B:Int}{q:Rn}(h:q∈cutW H lo B):lo<=q.1/\q.2<=B/\q.1<q.2:=by
 unfold cutW at h;let[C,j]:=nw.mp h;let[p,_,rfl]:=g_.mp C;let:=fE j;unfold cutM at this⊢
 dsimp only at this⊢
 refine[?_,?_,this]
 .split<;>lia
 .split<;>lia
theorem Ur{f:Int->Int}{nm:ν}{B:Int->Int}{N}(O:Frm N):∀{ps} {a:Int} {lk:Option Int} {e:Int},Ch f a lk ps e->(∀p∈ps,∀q∈ps,B p.2.2=B q.2.2->p.2.2=q.2.2)->Sep (borneS nm B ps N)
 |[],_,_,_,_,_=>Sep.nil
 |(l,h,k)::r,a,lk,e,[a1,a2,a3,a4,a5],gi=>by
  rw[Mc];refine Wr (Q4 (Kn _ _ O.pw)) (Ur O a5 λp C q M=>gi p (e_ _ C) q (e_ _ M)) (λn P R=>?_) (λs T t u o v=>?_)
  .rw[Qk,cutW_in,gd,gd,fR,fR]at P
   rw[Qy a5]at R;let:=P.2.2
   dsimp only at this
   lia
  .let[q,M,rfl]:=g_.mp T
   let[S,d,b3]:=Wo M
   dsimp only at S d
   let[p,C,K,q',L,e1,e2]:=La u;let[c1,c2,c3]:=Wo L;let F:∀{ps:List Tr3} {b:Int} {lk:Option Int} {e:Int},Ch f b lk ps e->∀p∈ps,b<=p.1/\(p.1=b->lk≠g p.2.2):=by
    intro ps
    induction ps with
    |nil=>intro b lk e _ p C;cases C
    |cons x ps X=>
     let[E,w,k']:=x;rintro b lk e ⟨m,d2,Q,i,j⟩ p C;rcases cr.mp C with z|z
     .subst z
      exact[by show b<=E;lia,λ_=>Q]
     .have:=(X j p z).1
      exact[Z,λy=>Z]
   let[n1,W]:=F a5 p C;let H:B k=B p.2.2:=by
    let:=gF (λz:ν × Int=>z.2) (v.trans K);exact this
   let kk:=gi (l,h,k) fk p (e_ _ C) H;let c:p.1=h:=by
    rcases o with z|z
    .have A:q.2=t.1:=z
     lia
    .have A:t.2.1=q.1:=z
     lia
   exact W c (by rw[<- kk])
def allS(cs:List (Av ν))(nm:ν)(B:Int->Int)(C:List Tr3)(c:Int):List (Sx ν):=paidS cs #[(0,c)]++borneS nm B C (leftS cs #[(0,c)])
def frm_one{c:Int}(h:0<c):Frm #[((0:Int),c)]:=[λp B=>by rw[d_.mp B];exact h,List.pairwise_singleton _ _]
def in_one{c n:Int}:inR #[((0:Int),c)] n=eP↔0<=n/\n<c:=by
 rw[cB];constructor
 .rintro ⟨p,B,h⟩
  rw[d_.mp B]at h;exact h
 .intro h
  exact[_,d_.mpr I,h]
def all_sep{cs:List (Av ν)}{nm:ν}{B f:Int->Int}{C:List Tr3}{c:Int}(L:0<c)(E:(cs.map (·.1)).Nodup)(ch:Ch f 0 U C c)(W:∀p∈C,∀q∈C,B p.2.2=B q.2.2->p.2.2=q.2.2)
  (d:∀p∈C,B p.2.2 = -1->∀n,p.1<=n->n<p.2.1->inR (leftS cs #[(0,c)]) n=eM):Sep (allS cs nm B C c):=by
 unfold allS;let P:Frm (leftS cs #[((0:Int),c)]):=leftS_frm (frm_one L);refine Wr (Vh (frm_one L) E) (Ur P ch W) (λn N H=>?_) (λs Q t S j e=>?_)
 .rw[Sf (frm_one L)]at N
  rw[Qy ch]at H;rw[N.2]at H;cases H.1
 .let[p,T,b,q,O,l,o]:=La S
  let[A,k,K]:=Wo O;let R:=(Nw Q).1;let F:B p.2.2 = -1:=by
   let:=gF (λz:ν × Int=>z.2) (e.trans b);rw[<- R];exact this.symm
  let X:=d p T F q.1 A Z;let M:inR (cutW (leftS cs #[((0:Int),c)]) p.1 p.2.1) q.1=eP:=cB.mpr [q,O,iH _,K];rw[cutW_in,X]at M;cases M
def Sep.starts{S:List (Sx ν)}(h:Sep S):(S.map (·.1)).Nodup:=by
 rw[wY,vy];refine h.pw.imp_of_mem λ{s t} B j a e=>?_;let C:=h.lt s B;let H:=h.lt t j;rcases a.1 with z|z<;>lia
def EndsIn(B:List Int)(ps:List Rn):Prop:=∀p∈ps,p.1∈B/\p.2∈B
def AM{B:List Int}{ps:List Rn}{lo C:Int}(h:EndsIn B ps)(H:lo∈B)(F:C∈B):EndsIn B (cutW ps lo C):=λq j=>by
 unfold cutW at j;let[p,L,rfl]:=g_.mp (nw.mp j).1;let:=h p L;unfold cutM
 dsimp only
 refine[?_,?_]
 .split
  .exact H
  .exact this.1
 .split
  .exact F
  .exact this.2
theorem Vw:∀{ps} (n:Int),(∀p∈ps,p.1<p.2)->∃T:Int,∀B,EndsIn B ps->EndsIn (T::B) (lowW ps n)
 |[],n,_=>[0,λB x p H=>nomatch H]
 |p::ps,n,C=>by
  by_cases c:0<n/\p.1+n<p.2
  .refine[p.1+n,λB h q j=>?_]
   rw[lowW_cons,eR c.1,eR c.2,Ux (λq j=>C q (e_ _ j)) Z,lq]at j;rw[d_.mp j];exact[e_ _ (h p fk).1,fk]
  .let[T,hT]:=Vw (ps:=ps) (n-(p.2-p.1)) λq j=>C q (e_ _ j)
   refine[T,λB h q j=>?_];rw[lowW_cons]at j;rcases gw.mp j with z|z
   .by_cases F:0<n
    .rw[eR F,eQ (λy=>c [F,y])]at z
     rw[d_.mp z];let:=h p fk;exact[e_ _ this.1,e_ _ this.2]
    .rw[eQ F]at z
     cases z
   .exact hT B (λq j=>h q (e_ _ j)) q z
theorem So{B:List Int}{e:Int}(L:e∈B):∀{qs} {b:Int},b∈B->EndsIn B qs->EndsIn B (leftW e b qs)
 |[],b,F,_,q,j=>by
  rw[leftW_nil]at j
  split at j
  .rw[d_.mp j]
   exact[F,L]
  .cases j
 |x::qs,b,F,h,q,j=>by
  let S:=h x fk;rw[leftW_cons]at j;rcases gw.mp j with z|z
  .split at z
   .rw[d_.mp z]
    refine[F,?_];show minI x.1 e∈B;unfold minI
    split
    .exact L
    .exact S.1
   .cases z
  .refine So L (qs:=qs) (b:=maxI b x.2) ?_ (λq j=>h q (e_ _ j)) q z
   unfold maxI
   split
   .exact S.2
   .exact F
def Z1{B:List Int}{ps qs:List Rn}(h:EndsIn B ps)(C:EndsIn B qs):EndsIn B (outW ps qs):=λq j=>by
 unfold outW at j;let[l,L,F]:=wq.mp j;let[p,H,rfl]:=g_.mp L;exact So (h p H).2 (h p H).1 C q F
def EndsIn.mono{B j:List Int}{ps:List Rn}(h:EndsIn B ps)(s:∀x∈B,x∈j):EndsIn j ps:=λp C=>[s _ (h p C).1,s _ (h p C).2]
def AF(c:Av ν){B:List Int}{C:List Rn}(f:Frm C)(h:EndsIn B C):∃T,EndsIn (T::c.2.1.1::c.2.1.2::B) (payW c C):=by
 let H:EndsIn (c.2.1.1::c.2.1.2::B) (cutW C c.2.1.1 c.2.1.2):=AM (h.mono λx j=>by simp[j]) zZ zZ;unfold payW
 split
 .exact[0,H.mono λx j=>e_ _ j]
 .let[T,hT]:=Vw (ps:=cutW C c.2.1.1 c.2.1.2) (by assumption) (Kn _ _ f.pw).lt
  exact[T,hT _ H]
theorem paid_ends:∀{cs:List (Av ν)} {B:List Int} {M:List Rn},Frm M->EndsIn B M->∃j,j.length=B.length+3*cs.length/\(∀x∈B,x∈j)/\EndsIn j (leftS cs M)/\∀s∈paidS cs M,s.1∈j
 |[],B,M,f,h=>[B,I,λy z=>z,h,λs z=>nomatch z]
 |c::cs,B,M,f,h=>by
  let[T,hT]:=AF c f h;let C:EndsIn (T::c.2.1.1::c.2.1.2::B) M:=h.mono λx F=>by simp[F]
  let[j,S,L,H,b4]:=paid_ends (cs:=cs) (outW_frm f (payW_frm (c:=c) f)) (Z1 C hT);refine[j,by rw[S];simp only[c_];lia,λx F=>L x (by simp[F]),H,λs N=>?_];unfold paidS at N;rcases gw.mp N with z|z
  .let[p,O,rfl]:=g_.mp z
   exact L _ (hT p O).1
  .exact b4 s z
def few_of{l m:List Int}(j:l.Nodup)(h:∀x∈l,x∈m):l.length<=m.length:=by
 induction l generalizing m with
 |nil=>exact de _
 |cons x l B=>
  rw[lj]at j;let L:=h x fk;let:=B (m:=m.erase x) j.2 λy F=>(wu (λz=>j.1 (by rw[<- z];exact F))).mpr (h y (e_ _ F));rw[wz L]at this;let:0<m.length:=wo L;rw[c_]
  lia
def N0{ps:List Rn}{lo B:Int}{q:Rn}(h:q∈cutW ps lo B):q.1=lo\/∃p∈ps,q.1=p.1:=by
 unfold cutW at h;let[p,C,rfl]:=g_.mp (nw.mp h).1;unfold cutM
 dsimp only
 split
 .exact .inl I
 .exact .inr [p,C,I]
def all_len{cs:List (Av ν)}{nm:ν}{C f:Int->Int}{H:List Tr3}{c:Int}(R:0<c)(sp:Sep (allS cs nm C H c)):(allS cs nm C H c).length<=2+3*cs.length+H.length:=by
 let[B,O,A,T,b4]:=paid_ends (cs:=cs) (B:=#[0,c]) (frm_one R) (λp L=>by rw[d_.mp L];simp);let:=few_of (m:=H.map (·.1)++B) sp.starts λx P=>?_
 .rw[cn,fy,cn,O]at this
  simp only[c_,lW]at this
  lia
 .let[s,N,rfl]:=g_.mp P
  unfold allS at N;rcases gw.mp N with z|z
  .exact gw.mpr (.inr (b4 s z))
  .let[p,L,_,q,W,X,_]:=La z
   rw[X];rcases N0 W with y|⟨Q,M,y⟩
   .rw[y]
    exact gw.mpr (.inl (g_.mpr [p,L,I]))
   .rw[y]
    exact gw.mpr (.inr (T Q M).1)
end
end CRT
namespace L2
open PySem PySem.Spec PyProof.Rows
def M5(h:fK)(e:J)(c:eJ)(d:Option J)(H:J->Prop):Prop:=
 ∃C B T oT L M,h.get? e=g C/\C.cls=c/\C.dict=d/\C.data=.fields B/\1<B.size/\B[2]?=g fP/\H e /\
  B[1]?=g (.ref T)/\T≠e/\h.get? T=g oT/\oT.data=.fields L/\L[3]?=g M/\H T
section
variable {X:Cx} {pins:List (J×gS)} {σ:St} {H:Hp} {s:eO}
def Ak.field{T:J}{oT:gS}{v:eJ}{i:Nat}(M:Ak X pins σ H s)(hT:s.heap.get? T=g oT)(N:oT.data=.fields d)(f:cA X pins H T) :
  Ak X pins σ H { s with heap:=s.heap.update T (gE λz=>z.setIfInBounds i v) }:=by
 let O:∀b o,b≠T->s.heap.get? b=g o->(s.heap.update T (gE λz=>z.setIfInBounds i v)).get? b=g o:=λb o n q=>by
  rw[n_ _ _ (fQ n)];exact q
 let L:=jV N (λz=>z.setIfInBounds i v);let Q:=p_ (gE λz=>z.setIfInBounds i v) hT (iZ L);let u:Un (Tj X.stack) #[T] H H s.heap (s.heap.update T (gE λz=>z.setIfInBounds i v)):=by
  refine[λb o q x S j=>O b o (by simpa using j) q,λb o q x x j=>[o.slots,?_],λx x x n x=>n,λb o q j=>[o,O b o (by simpa using j) q],λx x q=>q,λx x x q=>q,λb R q=>[#v[],by rw[q];simp]];exact O b o (by simpa using j) q
 let F:cJ X.prog X.w H (s.heap.update T (gE λz=>z.setIfInBounds i v)):=λb o z=>(M.hok b o z).stay (λc v B q=>by
  let P:∃w,H c=g w:=by
   rcases B with r|r
   .exact[o,by rw[r];exact z]
   .exact[_,r]
  let[w,C]:=P;exact O c v (λy=>by rw[y,f.1]at C;cases C) q) (λx q=>q) λx x q=>q
 exact M.callN (g':=s.gens) (d':=s.drawn) (t':=s.toks) (ch:=#[T]) u F M.bare λb S=>by
  let z:b=T:=by simpa using S
  subst z;exact[f.2.2.2.1,f.2.1,f.2.2.2.2.1,f.2.2.2.2.2]
def Yl{M:pH}{e:J}{c:eJ}{d:Option J}{r:eJ->eO->Prop}{K:Unit->eO->Prop}(N:Ak X pins σ H s)(x:M5 s.heap e c d (cA X pins H))
  (h:∀h',Ak X pins σ H { s with heap:=h' }->M5 h' e c d (cA X pins H)->(b=U->dN h' e c d fP (cA X pins H))->K () { s with heap:=h' }):eV M w (kZ (.ref e) b) K r s:=by
 let[P,k,T,oT,u,v,q,p,C,W,o,A,l,R,L,hT,j,t,Q]:=x;unfold kZ;refine a_ (gQ q W R ?_);rw[eR (show(fD T != .none)=eP by simp)];let B:=(wf.mp t).1;refine iR hT j B ?_;let F:=jV j (λz=>z.setIfInBounds 3 (b.elim fP λf=>fY f));let S:=p_ (gE λz=>z.setIfInBounds 3 (b.elim fP λf=>fY f)) hT (iZ F);let O:(s.heap.update T (gE λz=>z.setIfInBounds 3 (b.elim fP λf=>fY f))).get? e=g P:=by
  rw[n_ _ _ L];exact q
 let E:(u.setIfInBounds 3 (b.elim fP λf=>fY f))[3]?=g (b.elim fP λf=>fY f):=mC B;refine h _ (N.field hT j Q) [P,k,T,_,_,_,O,p,C,W,o,A,l,R,L,S,F,E,Q] λz=>?_;subst z;exact[P,k,O,p,C,W,o,A,l,.inr [T,_,_,R,L,S,F,E,Q]]
def Qu{M:pH}{e L:J}{env1:mB}{outer1:List mB}{vs:Array eJ}{T:eJ}{j:Bool}{E:eJ->eO->Prop}{K:Unit->eO->Prop}(B:Ak X pins σ H s)(F:X.stack=env1::outer1)(am:env1.frame=g L)
  (he:s.heap.get? e=g d) (hd:d.data=.fields vs) (l:1<vs.size) (h2:vs[2]?=g fP) (N:cA X pins H e)
  (h:∀h',Ak X pins σ H { s with heap:=h' }->M5 h' e d.cls d.dict (cA X pins H)->K () { s with heap:=h' }) :
  eV M X.A (do let a <- frameOf env1;let pl <- entryPlaceOf L j;let b <- kD T a .none (fY L) .none pl;setField (.ref e) 1 b) K E s:=by
 let hl:s.heap.FunFrames X.base (env1::outer1):=by rw[<- F];exact B.stack
 let al:X.A.frames=g (env1::outer1):=by rw[<- F];exact B.ok.frames
 let ak:e∉(env1::outer1).filterMap (·.frame):=λS=>by
  let ah:e∈Tj X.stack:=by rw[F];exact S
  rcases cr.mp (B.stkSub e ah)with z|z
  .exact N.2.1 z
  .exact N.2.2.1 z
 refine a_ (wpAny_frameOf_fun al hl am λQ P=>?_);refine a_ (wpAny_entryPlaceOf λpl C=>?_);unfold kD;unfold newFields;refine a_ (gM ?_ (C.sizeOk5 _ _ _ _ _));let m:Q.get? e=g d:=(P.2.1 e ak).trans he;generalize t:({ cls:=.type "traceback",dict:=U,data:=.fields (#[T,.ref L,.none,fY L,.none]++(if pl.isEmpty then kq 6 fP else pl)).toArray }:gS)=O;let dO:∃W,O.data=.fields W/\3<W.size:=by
  refine[_,by rw[<- t],?_];rw[dw,fy,c_,c_,c_,c_,c_]
  lia
 let[W,ai,af]:=dO;let ad:=dv (h:=Q) O m;refine iR ad hd l ?_;let x:Q.objs.size≠e:=ny (dn m);let aa:=jV hd (λz=>z.setIfInBounds 1 (fD Q.objs.size));let ab:=p_ (gE λz=>z.setIfInBounds 1 (fD Q.objs.size)) ad (iZ aa);let i:((Q.push O).update e (gE λz=>z.setIfInBounds 1 (fD Q.objs.size))).get? Q.objs.size=g O:=
  (n_ _ _ (fQ x)).trans (h_ Q (by rw[<- t];rfl))
 generalize hF:(Q.push O).update e (gE λz=>z.setIfInBounds 1 (fD Q.objs.size))=A at ab i;let R:∀b o,b≠e->Q.get? b=g o->A.get? b=g o:=λb o an S=>by
  rw[<- hF,n_ _ _ (fQ an)];exact dv _ S
 let u:Un (Tj X.stack) #[e] H H s.heap A:=by
  refine[λb o q _ S f=>R b o (by simpa using f) ((P.2.1 b ?_).trans q),λb o q _ _ f=>?_,λ_ _ _ n _=>n,λb o q f=>?_,λ_ _ q=>q,λ_ _ _ q=>q,λb ps q=>[#v[],by rw[q];simp]]
  .rw[F]at S
   exact S
  .let[k,z]:=P.2.2 b o q
   exact[k,R b _ (by simpa using f) z]
  .let[k,z]:=P.2.2 b o q
   exact[_,R b _ (by simpa using f) z]
 let aj:cJ X.prog X.w H A:=λb o z=>(B.hok b o z).stay (λc v hc q=>by
  let hs:∃w,H c=g w:=by
   rcases hc with r|r
   .exact[o,by rw[r];exact z]
   .exact[_,r]
  let[w,p]:=hs;refine R c v (λy=>?_) ((P.2.1 c λy=>?_).trans q)
  .rw[y,N.1]at p;cases p
  .have n:=B.stkFree c (by rw[F];exact y)
   rw[p]at n;cases n) (λ_ q=>q) λ_ _ q=>q
 let I4:Ak X pins σ H { s with heap:=A }:=B.callN (g':=s.gens) (d':=s.drawn) (t':=s.toks) (ch:=#[e]) u aj B.bare λb S=>by
  let z:b=e:=by simpa using S
  subst z;exact[N.2.2.2.1,N.2.1,N.2.2.2.2.1,N.2.2.2.2.2]
 let gT:s.heap.get? Q.objs.size=U:=sD (by rw[P.1];exact b' _);let nT:H Q.objs.size=U:=B.hok.fresh (by rw[P.1];exact b' _);let a3:W[3]?=g W[3]:=qd af;refine h A I4 [_,_,Q.objs.size,O,W,_,ab,wF _ _,?_,aa,by simpa using l,?_,N,by simp[l],x,i,ai,a3,B.fxOk gT nT]
 .let[c0,d0,dt,k]:=d
  cases dt<;>rfl
 .rw[oQ Y]
  exact h2
def HE{M:pH}{e L:J}{env1 j:mB}{outer1:List mB}{c:eJ}{d:Option J}{E:eJ->eO->Prop}{K:Unit->eO->Prop}(N:Ak X pins σ H s)(C:X.stack=env1::outer1)(F:env1.frame=g L)(W:j.frame=g L)
  (x:dN s.heap e c d fP (cA X pins H)) (h:∀h',Ak X pins σ H { s with heap:=h' }->M5 h' e c d (cA X pins H)->K () { s with heap:=h' }):eV M X.A (mE (.ref e) j) K E s:=by
 let k:qY j=qY env1:=by unfold qY;rw[W,F]
 let[q,r,B,o,f,O,b,R,A,l]:=x;subst o f;unfold mE;simp only[W,k];rcases l with P|⟨T,oT,p,P,u,hT,S,Q,t⟩
 .refine a_ (gQ B O P ?_)
  rw[eQ (show ¬(fP != .none)=eP by lk)];exact Qu N C F B O b R A h
 .refine a_ (gQ B O P ?_)
  rw[eR (show(fD T != .none)=eP by simp)];refine a_ (gQ hT S Q ?_);rw[eQ (show ¬(fP==fY L)=eP by simp[fY])];refine a_ (iR hT S (wf.mp Q).1 ?_);rw[wV s.heap T oT p 3 .none hT S Q];exact Qu N C F B O b R A h
def G8{M:pH}{e:J}{c:eJ}{d:Option J}{E b:eJ->eO->Prop}{K:Unit->eO->Prop}(B:Ak X pins σ H s)(y:X.stack=X.env::X.outer)(F:X.env.frame=g X.env.locals)
  (x:M5 s.heap e c d (cA X pins H)) (h:∀h',Ak X pins σ H { s with heap:=h' }->dN h' e c d fP (cA X pins H)->K () { s with heap:=h' }) :
  eV M X.A (mE (.ref e) X.env) (λ_ r=>eV M A' (kZ (.ref e) U) K b r) E s:=by
 let k:=x;let[l,vs,T,oT,ts,f,W,hc,N,R,o,A,n,w,t,hT,j,Q,u]:=x;unfold mE;simp only[F];refine a_ (gQ W R w ?_);rw[eR (show(fD T != .none)=eP by simp)];refine a_ (gQ hT j Q ?_);by_cases q:(f==fY X.env.locals)=eP
 .rw[eR q]
  exact b_ (Yl B k λh' S _ P=>h h' S (P I))
 .rw[eQ q]
  let m:=(wf.mp Q).1;refine a_ (iR hT j m ?_);let p:=B.field (i:=3) (v:=fP) hT j u;let O:(s.heap.update T (gE λz=>z.setIfInBounds 3 fP)).get? e=g l:=by
   rw[n_ _ _ t];exact W
  subst hc N;exact Qu p y F O R o A n λh' S P=>Yl S P λC L _ a=>h C L (a I)
def ND(X:Cx)(W:St->XK):Prop:=∀(pins:List (J×gS)) (σ:St) (H:Hp) (s:eO) (e:J) (c:eJ) (d:Option J),Ak X pins σ H s->M5 s.heap e c d (cA X pins H)->W σ c d H->X.xe (.ref e) s
end
def CS{w:fF}{K:a'}{mg:eU->Option eJ}{N:List eU}{qual:eU}{f:J}{A:fL}{E:XK} :
  ND (Hb (Tg P w) P w K mg k N qual scope f p A outer l o E) (λy=>E):=by
 intro C O H s e c d B x S;show eV _ _ (vH _ (.ref e)) _ _ s;unfold vH;refine a_ (G8 B I I x λM j L=>?_);refine[e,c,d,H,I,j.os,j.bare,j.base,j.hok,L.imp λb F=>[?_,F.1],S];rcases F.2.2.2.1 with z|z
 .exact nomatch (show b∈([]:List J) from z)
 .exact z
section
def cA.ofB{X:Cx}{NC:List eU}{N H':Hp}{pins:List (J×gS)}{b:J}(H:Ak X pins l N d)(L:∀b∈k,Hs X pins N b)(F:X.stack=X.env::X.outer)(j:X.env.frame=g X.env.locals)(f:cA (Kw X NC scope d N k) [] H' b):cA X pins H' b:=by
 let BD:∀{a:J},a∈X.env.locals::X.fs->a∈Tj X.stack:=λh=>by
  rw[F];show _∈List.filterMap (·.frame) (X.env::X.outer);rw[vp,j];exact h
 let M:b∉Tj X.stack:=f.2.2.1;refine[f.1,λz=>M (BD (by rw[z];exact fk ..)),λz=>M (BD (e_ _ z)),?_,λx c e z=>?_,λp O z=>?_]
 .rcases f.2.2.2.1 with h|h
  .rcases (L b h).2.2.2.1 with q|q
   .exact .inl q
   .exact .inr (sD q)
  .by_cases S:b∈X.ex
   .exact .inl S
   refine .inr ?_;cases q:X.s₀.heap.get? b with
   |none=>rfl
   |some o=>
    let[P,B]:=H.base.there b o q S;rw[show d.heap.get? b=U from h]at B;cases B
 .rcases f.2.2.2.1 with h|h
  .exact(L b h).2.2.2.2.1 x c e z
  .let[v,o,C,_]:=H.cell x c e
   rw[z,show d.heap.get? b=U from h]at C;cases C
 .rcases f.2.2.2.1 with h|h
  .exact(L b h).2.2.2.2.2 p O z
  .have q:=(H.pin p O).1
   rw[z,show d.heap.get? b=U from h]at q;cases q
end
section
variable {P:eY} {w:fF} {K:a'} {mg:eU->Option eJ} {base:fK} {x y qual:eU} {st:gY} {C:J} {k:Nat} {ps:List eU} {sp:Sp}
def SM(z:Zy P w K mg base)(d:Fw K x st)(j:X8 x x st ps):eE K mg x st ps:=by
 let[_,d]:=d;let[_,_,_,_,_,_,_,_,_,l,c]:=d.ex;let F:=Sg l c d.kp;exact[_,_,F,F.binds j,z.nv d.ns]
def BQ(m:Ig K C x qual st)(c:dD K C)(j:X8 x qual st ps)(h:∀f H,cF K x qual st f H->Bp P w K mg base Fv k f H ps sp):F6 P w K mg base k C x ps sp:=by
 let[_,a,i]:=m;let[_,F,B]:=i.get j;exact[[_,_,h _ _ F,B,[a,i.fn,i.kp]],c]
def bE(m:Ig K C x qual st)(c:dD K C)(j:X8 x qual st ps)(h:∀f H,cF K x qual st f H->Bp P w K mg base (Tg P w) k f H ps sp):Ki P w K mg base k C x ps sp:=by
 let[_,a,i]:=m;let[_,F,B]:=i.get j;exact[[_,_,h _ _ F,B,[a,i.fn,i.kp]],c]
def EmE(K:a')(C:J)(qual:eU)(st:gY):Prop:=∃f,Ni K C f #[.type "ValueError",.type "Exception",.type "BaseException",.type "object"] "ValueError.__new__"=eP/\js K (.ref C)=eP/\MtIn K "__init__" qual st f
def EmE.of{f:J}(a:ia K (.ref C) "__init__"=g (g (.ref f)))(i:MtIn K "__init__" qual st f)(w:Ni K C f #[.type "ValueError",.type "Exception",.type "BaseException",.type "object"] "ValueError.__new__"=eP)(k:js K (.ref C)=eP):EmE K C qual st:=[f,w,k,i]
def bC(z:Zy P w K mg base)(q:gn K fr y=g (g (.ref C)))(m:EmE K C qual st)(j:X8 "__init__" qual st ps)(h:∀f H,cF K "__init__" qual st f H->Bp P w K mg base Fv k f H ps sp):KH P w K mg base k y C ps sp:=by
 let[_,o,e,i]:=m;let[_,F,B]:=i.get j;exact[_,_,[[_,_,_,_,o,pM],i.fn,e],h _ _ F,B,z.nv q]
end
section
variable {P:eY} {w:fF} {K:a'} {mg:eU->Option eJ} {base:fK} {x:eU} {C:J}
def GL(z:Zy P w K mg base)(q:gn K fr x=g (g (.ref C)))(r:vb K C #[.type "ValueError",.type "Exception",.type "BaseException",.type "object"] "ValueError.__new__"=eP):VA K x mg C:=[z.nv q,_,_,_,_,r,pM]
def aV(q:cL K x C)(y:aS K C){a B:J}{L:List (eU×V)}(h:H a=g (.ins C B L)):TyOf K H (.ref a) (.ref C):=.ins h q.cl y.ha y.gs y.tk y.hm
def WA{p q r s:eU}(z:Zy P w K mg base)(h:NT4 K x p q r s):UE K mg x #[.str p,.str q,.str r,.str s]:=by
 let[_,_,_,_,_,_,a,b]:=h;exact[_,z.nv a,λH=>.inr [_,_,_,b,I,I,by show 4<=sizeLine;rw[ck];decide,.cons [_,I] (.cons [_,I] (.cons [_,I] (.cons [_,I] .nil)))]]
def ZA(z:Zy P w K mg base)(q:cL K x C)(n:ia K (.ref C) "__init__"=g (g (.builtin "object.__init__"))):YR K mg x C:=[q.mi,n,q.kp,z.nv q.ns]
end
section
variable {P:eY} {w:fF} {K:a'} {mg:eU->Option eJ} {base:fK} {x qual:eU} {st:gY} {C:J} {k:Nat} {ps:List eU} {sp:Sp}
def dg{N:List eU}(l:∀vs H Q E,sp vs H Q E->vs.length=ps.length)(b:X8 x qual st ps:=by exact bd)(s:Bg N ps (Ao st):=by injections):LR x qual st N ps sp:=[b,s,l]
def aW{f:J}(F:cF K x qual st f b)(N:List eU)(D:LR x qual st N ps sp)(h:∀{f:J} {B:eJ} {A:fL} {outer:List mB} {s:eO} {vs:List V},Bg N ps (Ao st)->∀(H:Hp) (Q:VK) (E:XK),Bv k (A.deeper (iI qual (Ao st) ⇑s f B))->sp vs H Q E ->
   ∃t,PSs (Hb (Tg P w) P w K mg base N qual (Ao st) f B A outer s H E) (Bw st) t/\t { nx:=λy H'=>Q .non H',rt:=Q } (Eh N vs) H):Bp P w K mg base (Tg P w) (k+1) f b ps sp:=F.okX D.s D.l λy y y y H y Q E=>h D.s H Q E
def KQ(z:Zy P w K mg base)(d:Fw K x st)(N:List eU)(D:LR x x st N ps sp)(h:∀{f:J} {B:eJ} {A:fL} {outer:List mB} {s:eO} {vs:List V},Bg N ps (Ao st)->∀(H:Hp) (Q:VK) (E:XK),Bv k (A.deeper (iI x (Ao st) ⇑s f B))->sp vs H Q E ->
   ∃t,PSs (Hb (Tg P w) P w K mg base N x (Ao st) f B A outer s H E) (Bw st) t/\t { nx:=λy H'=>Q .non H',rt:=Q } (Eh N vs) H):Pw P w K mg base (k+1) x ps sp:=(SM z d D.b).calX λy y F=>aW F N D h
def SB(m:Ig K C x qual st)(c:dD K C)(N:List eU)(D:LR x qual st N ps sp)(h:∀{f:J} {B:eJ} {A:fL} {outer:List mB} {s:eO} {vs:List V},Bg N ps (Ao st)->∀(H:Hp) (Q:VK) (E:XK),Bv k (A.deeper (iI qual (Ao st) ⇑s f B))->sp vs H Q E ->
   ∃t,PSs (Hb (Tg P w) P w K mg base N qual (Ao st) f B A outer s H E) (Bw st) t/\t { nx:=λy H'=>Q .non H',rt:=Q } (Eh N vs) H):Ki P w K mg base (k+1) C x ps sp:=bE m c D.b λy y F=>aW F N D h
end
inductive BZ(x y:V)(H:Hp)(Q:VK):Prop
 |mk (a b:J) (xs ys:List V) (e:x=.ref a) (e':y=.ref b) (h:H a=g (.tup xs)) (h':H b=g (.tup ys)) (l:xs.length+ys.length<=sizeLine) (q:∀p H',Ag H H'->H' p=g (.tup (xs++ys))->Q (.ref p) H')
def Gy{X:Cx}:Ko X (jD .Add) BZ:=by
 intro O s z H x y v u Q B W E h;let[a,b,T,i,rfl,rfl,R,P,w,q]:=h;by_cases A:T=[]
 .subst A
  cases W
  cases E
  let[j,m,f,_]:=B.tuple (Bh.of R);let[F,r2,o,_]:=B.tuple (Bh.of P);let[[ad,r,ab,t],c,d,n,K]:=id f;let[[ac,C,aa,N],M,L,k,S]:=id o;simp only at d K L S;subst d K L S;let e:j=[]:=m.nil_iff.mpr I;exact vL [_,c,I] [_,M,I] qU uG lG kX (kR _ _)
   (tuple_addW0 a b j.toArray F.toArray n k r C t N (by simp[e])) [c,M,.ref b,H,B,I,q b H (Ag.refl _) P]
 .exact LD O s z H _ _ _ _ Q B W E [a,b,T,i,I,I,Bh.of R,Bh.of P,A,w,λy=>q a H (Ag.refl _) (by rw[y,lq];exact R),λ_ p l=>q p _ (Aa l _) Ab]
abbrev TH:=Jy->St->eJ->Option J->Hp->Prop
def PH(X:Cx)(M:List uP)(N:TH):Prop:=
 ∀(B:List (J×gS)) (s:eO) (L:St) (H:Hp) (D:Jy) (e:J) (c:eJ) (d:Option J) (C:eJ),Ak X B L H s->dN s.heap e c d C (cA X B H)->N D L c d H ->
  eV (fC X.prog X.w) X.A (handleBy (.ref e) X.env M) (SP X B D) X.xe s
inductive R8(K:a')(Ch:J)(i:Nat)(ts:TS)(th:TH)(D:Jy)(σ:St)(c:eJ)(d:Option J)(H:Hp):Prop
 |hit (C:J) (e0:c=.ref C) (m:pa K (.ref C) (.ref Ch)=g eP)
   (q:∀e,H e=U->ts { nx:=λσ H=>D.nx (σ.map λ_=>U) H,rt:=D.rt,bk:=λσ H=>D.bk (σ.map λ_=>U) H,ct:=λσ H=>D.ct (σ.map λ_=>U) H } (σ.set i (g (.ref e))) (upd H e (BS e c d)))
 |skip (C:J) (e0:c=.ref C) (m:pa K (.ref C) (.ref Ch)=g eM) (q:th D σ c d H)
def XX:TH:=λx x x x x=>False
section
variable {X:Cx} {x n:eU} {Ch:J} {i:Nat} {body suite:List gY} {b₀:gY} {tb:(St->XK)->TS} {ts:TS} {np hpos pos:nA} {h0:uP} {hs:List uP} {th:TH}
def RM:PH X [] XX:=λy y y y y y y y y y y z=>z.elim
def XG(l:Gl X x)(o:X.mg x=g (.ref Ch))(w:X.N.Nodup)(hi:X.N[i]?=g n)(T:X.env.kindOf n=g .local)(af:∀e,PSs (X.sup e) (b₀ :: suite) ts)(h:PH X hs th)
  (B:(x==("__debug__" : eU))=eM:=by lk):PH X (.ExceptHandler (g (.Name x np)) (g n) (b₀ :: suite) hpos::hs) (R8 X.K Ch i ts th):=by
 intro O s σ H D e c d ac F E hw;let[oe,vs,b,K,ab,hd,_,_,r,_]:=id E;rcases hw with ⟨C,rfl,A,W⟩|⟨C,rfl,A,W⟩
 .refine wpAny_handleBy_cons (wB (Ev (F.sup (e:=e)) l o ?_ B)) (by intro q;cases q)
  refine(uV F.kIn (Tc b K) A).here ?_;refine codeAny_handlers_suite_as (N6 E ?_);let I3:=(F.track r b K ab hd).sup (e:=e);refine Sa (X:=X.sup e) I3 w hi (.inl T) (v:=.ref e) I (λs4 m=>?_) (.inr T);refine gI (af e O s4 _ _ _ m (W e r.1)) (λf k P=>?_) λ_ _ z=>fS z;let Q:∀{L:St} {M:Hp} {R:Unit->eO->Prop} {p:eJ->eO->Prop},Ak (X.sup e) O L M k->(∀N,Ak X O (L.map λ_=>U) M N->R () N) ->
    eV (fC X.prog X.w) X.A (do bindName X.env n .none;unbindBehindTheSuite X.env n hpos) R p k:=λ{L M R p} j t=>by
   let[m5,ad,_]:=j.loc;refine wpAny_nameGoes T ad ?_ λh6 m6 aa a=>t _ ((j.unsup F.ok).forget aa a);rw[F.ok.kind];rfl
  cases f with
  |next=>let[L,M,j,q]:=P;exact Q j λN S=>[_,_,S,q]
  |brk=>let[L,M,j,q]:=P;exact Q j λN S=>[_,_,S,q]
  |cont=>let[L,M,j,q]:=P;exact Q j λN S=>[_,_,S,q]
  |ret u=>let[v5,L,M,j,y,q]:=P;exact Q j λN S=>[v5,_,_,S,y,q]
 .refine wpAny_handleBy_cons (wB (Ev (F.sup (e:=e)) l o ?_ B)) (by intro q;cases q)
  refine(uV F.kIn (Tc b K) A).here ?_;exact h O s σ H D e _ d ac F E W
def BU(L:X.stack=X.env::X.outer)(F:X.env.frame=g X.env.locals)
  (K:∀pn E W,dW (X.tr pn E) W->PassesOwn (fC X.prog X.w) X.A X.env E->PSs (X.tr pn E) body (tb W)) (k:PH X (h0::hs) th) :
  PS X (.Try body (h0::hs) [] [] pos) (λD Q H=>tb (th D) D Q H):=by
 intro O s Q H D B h;refine wpAny_Try_except ?_;refine gI (K (X.pn++O) _ _ ?_ ?_ [] s Q H D B.tr h) (λf l q=>?_) λe l q=>q
 .intro P M R A e c d S o T r
  let C:Ak X O M R A:=o.untr;exact Wm C L F (T.imp λb t=>t.untr) λv N p=>k O _ M R D e c d S N p r
 .exact PassesOwn.looking
 .have j:=q.untr
  cases f with
  |next=>exact mV j
  |brk=>exact j
  |cont=>exact j
  |ret u=>exact j
def LZ(F:X.stack=X.env::X.outer)(j:X.env.frame=g X.env.locals)
  (B:∀pn E W,cW (X.tr pn E) W->PassesOwn (fC X.prog X.w) X.A X.env E->PSs (X.tr pn E) body (tb W)) (S:PH X (h0::hs) th) :
  PS X (.Try body (h0::hs) [] [] pos) (λD C H=>tb (th D) D C H):=BU F j (λpn E W L M=>B pn E W L.n M) S
end
section
variable {X:Cx} {pins:List (J×gS)} {σ:St} {H:Hp} {s:eO} {a:J} {kvs:List (Dm×V)} {k:Dm} {z:V} {u r:eJ} {A:fL} {E:eJ->eO->Prop}
def QG{Q:eJ->eO->Prop}(M:Ak X pins σ H s)(e:H a=g (.dK kvs))(m:kvs.length<sizeLine)(c:Az (kV k) u)(d:Az z r)
  (f:∀v C s',Cc kvs k=g v->Ak X pins σ H s'->Az v C->Q C s') (T:Cc kvs k=U->∀s',Ak X pins σ (upd H a (.dK (Ck kvs k z))) s'->Q r s') :
  eV (fC X.prog X.w) A (call (.builtin "dict.setdefault") #[.ref a,u,r]) Q E s:=by
 let[b,B,O,j,R]:=ED M.hok e;refine qC pB R.typeIs PySem.F.entry_dict_setdefault (PySem.F.args_dict_setdefault_3 _ _ _) (kt_meets_setdefault (Dh X.prog X.w) a (Sh c) B r)
  [O,R,by rw[<- j.length];exact b,λC S=>?_,λP W L K=>?_]
 .cases l:Cc kvs k with
  |none=>rw[show lM O k=U from cE.none_of (by rw[<- l];exact j.val k)]at S;cases S
  |some v=>
   let[t,F,N]:=cE.some_of (v:=v) (o:=lM O k) (by rw[<- l];exact j.val k);rw[F]at S;cases S;exact f v _ _ l (M.tok _) N
 .have l:Cc kvs k=U:=by
   cases l:Cc kvs k with
   |none=>rfl
   |some v=>
    let[t,F,_]:=cE.some_of (v:=v) (o:=lM O k) (by rw[<- l];exact j.val k);rw[F]at P;cases P
  let p:(Ck kvs k z).length<=sizeLine:=by let:=Cu kvs k z;lia
  let y:∃q,W.get? a=g q:=let [q,_,_,w,_]:=L;[q,w]
  exact T l _ (Ww M (by rw[e];exact hV) K y (L9 p B (j.put k d) L))
end
inductive VL(a:J)(y z:V)(H:Hp)(Q:VK):Prop
 |mk (kvs:List (Dm×V)) (k:Dm) (e:H a=g (.dK kvs)) (ey:y=kV k) (hl:kvs.length<sizeLine) (q1:∀v,Cc kvs k=g v->Q v H) (q2:Cc kvs k=U->Q z (upd H a (.dK (Ck kvs k z))))
def NT(O L tx:TE):TE:=λB H Q=>O B H λx C=>∃a,x=.ref a/\YY C a/\L B C λy M=>tx B M λz N=>VL a y z N Q
def IB{X:Cx}{o e f:gK}{R T tx:TE}(ho:PE X o R)(he:PE X e T)(K:PE X f tx)(m:M2 X o "setdefault" apos e f cpos):PE X (.Call (.Attribute o "setdefault" apos) #[e,f] [] cpos) (NT R T tx):=by
 intro O s P H Q B h;refine wpAny_Call_method m.base m.few m.line kW pB PySem.F.type_dict_setdefault (Ct (ho O s P H _ B h) λu s1 h9=>?_);let[x,q,S,c,a,ex,d,q1]:=h9;subst ex;obtain rfl:u=fD a:=c;let[W,i,_]:=P3 S d;refine[W,i,?_];rw[m.trees];refine iO I (kG (gJ (Ct (he O s1 P q _ S q1) λiv w h8=>?_)));let[y,N,t,ry,E]:=h8;refine gJ (Ct (K O w P N _ t E) λfv s3 M=>gU ?_);let[z,H3,p,L,a0,k,C,r,n,A,b]:=M;subst r;exact QG p C n ry L (λv w' s4 l F j=>[v,H3,F,j,A v l]) λl s4 F=>[z,_,F,L,b l]
def L0{X:Cx}:Fm X (.type "dict") (λxs H Q=>∃a kvs,xs=#[V.ref a]/\H a=g (.dK kvs)/\∀p,H p=U->Q (.ref p) (upd H p (.dK kvs))):=by
 intro C s N H xs P Q B r h;let[a,kvs,rfl,F,q]:=h;let[u,rfl,L]:=Ku r;cases L;exact FY B (.inl F) λp O M j=>[.ref p,_,j,I,q p M]
def KV.vals{B:Type}{kvs:List (B×V)}{vs:List (B×eJ)}(r:KV kvs vs):Ap (kvs.map (·.2)) (vs.map (·.2)):=by
 induction r with
 |nil=>exact .nil
 |cons h t C=>exact .cons h.2 C
inductive WC(x:V)(H:Hp)(Q:VK):Prop
 |mk (a:J) (kvs:List (Dm×V)) (e:x=.ref a) (h:H a=g (.dK kvs)) (q:∀p,H p=U->Q (.ref p) (upd H p (.lst (kvs.map (·.2)))))
def XU(L:TE):TE:=λC H Q=>L C H λx B=>WC x B Q
def D2{X:Cx}{o:gK}{p W P O:nA}(w:Gl X "list")(hm:X.mg "list"=U)(ho:PE X o m)(hc:X.calm=eP:=by rfl)
  (E:eX #[.Call (.Attribute o "values" P) [] [] O] X.env=(eM,gC (.Call (.Attribute o "values" P) [] [] O) X.env)::eX [] X.env:=by rfl)
  (T:iC o "values" X.env (gC o X.env)=gC o X.env:=by rfl) (R:(P.endLine==O.line)=eP:=by rfl) :
  PE X (.Call (.Name "list" p) #[.Call (.Attribute o "values" P) [] [] O] [] W) (XU m):=by
 intro A s σ H Q B h;refine gB (Fy B w hm (show fz "list"=g (.type "list") from rfl) ?_);refine gG ?_ E I;rw[E];show eV _ _ (pV ((eM,gC (.Call (.Attribute o "values" P) [] [] O) X.env)::gH W (eX [] X.env))) _ _ s;refine gJ ?_;refine uT T R (Ct (ho A s σ H _ B h) λv M h9=>?_);let[x,H1,N,r1,a,kvs,rfl,k,q]:=h9;cases r1;let[l,hd,K,L,f]:=ED N.hok k;let[u,t2,_]:=P3 N (.inl [kvs,.inl k]);refine["dict","dict.values",kW,qE,PySem.F.type_dict_values,u,t2,iO I (tS ?_)];refine qC qE f.typeIs PySem.F.entry_dict_values (PySem.F.args_dict_values_1 _) (meets_dict_values (Dh X.prog X.w) a hd) [[K,f],?_];refine gU ?_;let i:X.A.handled=U:=B.ok.hd hc;let[ep,C]:=f.dictAt;let y:K.length<=sizeLine:=by rw[<- L.length];exact l
 refine PySem.W.kdl_call (PySem.W.kdl_values (knd:=Dh X.prog X.w) (kvs:=K) (ep:=ep) (r:=⇑M) (d:=a)) i [[_,h_ _ I,I,I],C.push _] y λh' n S c hk hS F=>?_;let z:S.toList=K.map (·.2):=PySem.W.kdl_vals_eq S.toList (by rw[hH];exact F.1) λj v e=>F.2 j v (by rw[<- rr];exact e);let t:⇑M<=(M.heap.push { cls:=.type "dict_values",data:=.fields #v[.ref a] }).objs.size:=by rw[rz];exact nh _
 refine[.ref _,_,N.laid (a:=(M.heap.push { cls:=.type "dict_values",data:=.fields #v[.ref a] }).objs.size) (o:=.lst (kvs.map (·.2))) (t':=n) (λb o e=>hk _ _ (dv _ e)) t [by rw[cn];exact l,_,c,L.vals,?_],I,q _ (N.hok.fresh t)];rw[<- z];exact hS
inductive VI(xs:List V)(H:Hp)(Q:VK):Prop
 |mk (a b:J) (us:List V) (e:xs=#[.ref a,.ref b]) (ha:H a=g (.tup us)) (hb:H b=g (.tup #[.ty "list",.ty "tuple"])) (q:Q (.bl eP) H)
def Ud{X:Cx}:Fm X (.builtin "isinstance") VI:=by
 intro O s t H k v Q B r h;let[a,b,C,rfl,L,K,q]:=h;let[u,z,rfl,A,R]:=Ve r;obtain rfl:u=fD a:=A;obtain rfl:z=fD b:=R;let[_,_,_,o,d,P,_]:=(show Cf X.prog X.w H s.heap a (.tup C) from B.hok a _ L);let[_,M,j,[_,l,_,p],F,E,n,W]:=(show Cf X.prog X.w H s.heap b (.tup #[.ty "list",.ty "tuple"]) from B.hok b _ K);obtain rfl:=E;obtain rfl:=W;let[T,N,rfl,f,S]:=Ve j;obtain rfl:T=.type "list":=f;obtain rfl:N=.type "tuple":=S;exact PySem.W.kia_tup (b:=eP) tG B.kIn [o,d,P] F (by rfl) (λz=>nomatch z) λc=>[.bl eP,H,B.tok c,I,q]
structure N5(P:eY)(w:fF)(K:a')(mg:eU->Option eJ)(base:fK)(k:Nat)(C:J)(m:eU)(ps:List eU)(dvs:List V)(sp:Sp):Prop where
 ex:∃f fd ds,Bp P w K mg base (Tg P w) k f fd ps sp/\Hi K fd ps ds/\Ap dvs ds/\K6 K C m f
 cl:dD K C
def EI{vs j:List V}{us B:List eJ}(a:Ap vs us)(b:Ap j B):Ap (vs++j) (us++B):=by
 induction a with
 |nil=>exact b
 |cons h _ C=>exact .cons h C
section
variable {X:Cx} {k:Nat} {C:J} {m:eU} {ps:List eU} {dvs:List V} {sp:Sp} {e o:gK} {es:List gK} {apos pos:nA} {ta:TE} {t:TA} {W:St->XK}
def CU{f:J}{pins:List (J×gS)}{s:eO}{Q:VK}{us ds:List eJ}{vs:List V}(F:Bp X.prog X.w X.K X.mg X.base (Tg X.prog X.w) k f d ps sp)(P:Bv k X.A)(M:Hi X.K d ps ds)(S:Ap dvs ds)(O:cW X W)
  (B:Ak X pins c H s) (r:Ap vs us) (h:sp (vs++dvs) H Q (W c)):eV (fC X.prog X.w) X.A (call (.ref f) us) (EP X pins c Q) X.xe s:=by
 let L:=EI r S;let b:=M s us B.kIn (by rw[<- L.length];exact F.len _ _ _ _ h);refine iE (hJ (F.run X.A X.stack s H [us,[]] _ (vs++dvs) Q (W c) P B.env0 b L h) λq R j=>?_);cases q with
 |error v=>exact O.pass B j
 |ok N=>
  cases N with
  |ret u=>exact B.after j
  |next=>exact fS j
  |brk=>exact fS j
  |cont=>exact fS j
def IY(C:J)(m:eU)(sp:Sp)(dvs:List V)(W:St->XK)(ta:TE)(t:TA):TE:=λB H Q=>ta B H λx L=>EX C m x L λa=>t B L λN M=>sp (.ref a::(N++dvs)) M Q (W B)
def AE{pl:rV Bool}(M:N5 X.prog X.w X.K X.mg X.base k C m ps dvs sp)(p:Bv k X.A)(K:cW X W)(he:PE X o ta)(N:PA X (e::es) t)
  (j:eX (e::es) X.env=(eM,gC e X.env)::eX es X.env:=by rfl) (T:(gH pos (eX es X.env)).any (·.1)=eM:=by rfl)
  (i:gC (.Call (.Attribute o m apos) (e::es) [] pos) X.env=(do
   let A <- gC o X.env
   kF apos.atName
   let (f,first) <- iY #[A] (jH A m pl)
   kN pos f first (gH pos (eX (e::es) X.env)) (jM pos (hX [] X.env))):=by rfl) :
  PE X (.Call (.Attribute o m apos) (e::es) [] pos) (IY C m sp dvs W ta t):=by
 intro R s E H Q B h;let[f,fd,ds,F,b,P,O]:=M.ex;refine tj (pl:=pl) (Ct (he R s E H _ B h) λu y n=>?_) i;let[x,w,S,v,a,dx,fs,z,d,l,q]:=n;subst z;obtain rfl:u=fD a:=v;refine Gc S d M.cl O l ?_;refine pi (first:=#[.ref a]) (h₀:=X.base) B.ok.mod.kin O.kp (Ct (N pos R y E w _ S q) λus s2 ⟨vs,H2,L,r,c⟩=>[L.kIn,?_]) j T;exact CU (us:=.ref a::us) (vs:=.ref a::vs) F p b P K L (.cons I r) c
end
section
def DE{X:Cx}{W:St->XK}{NC own cs:List eU}{ix:List Nat}{te:(St->XK)->TE}{y:eU}{j:Nat}(am:X.N.Nodup)(hj:X.N[j]?=g y)(hy:X.env.scope.names.lookup y=g .local)(hW:ND X W)(aa:X.stack=X.env::X.outer)(M:X.env.frame=g X.env.locals)(hc:X.calm=eP)(S:Au X.env.scope scope)(hN:NC=own++cs)(ab:cV X scope cs ix)
  (hi:PI X tg iter wi) (hg:∀R A K,PG (Kw X NC scope R A K) tg k) (ht:∀R A K,NM (Kw X NC scope R A K) n tc) (he:∀R A K E V,cW (TQ X NC scope R A K E) V->PE (TQ X NC scope R A K E) w (te V))
  (aj:kY (.ListComp w #[[tg,iter,n,0]] scope a0) (g (.Name y py)) spos.line X.env=pure eP:=by rfl) (hs:∀x,lN iter X.env x=pure x:=by intro _;rfl) :
  PS X (.Assign #[.Name y py] (.ListComp w #[[tg,iter,n,0]] scope a0) spos) (P6 (λt H Q=>DL wi k tc (te λ_=>W t) own.length ix t H Q) (Dx j)):=by
 intro pins s t H D B h;rw[wA _ _ _ _ aj];refine a_ (iB (a_ ?_));show eV _ X.A (comprehension (.ListComp w #[[tg,iter,n,0]] scope a0) scope X.env _ (vG []) eM (gC iter X.env) (g (lF (.Name y py) X.env)) >>= λ_=>_) _ _ s;let ah:∀y∈scope.names,y.2=.free->∃c,X.env.cells.lookup y.1=g c:=λy hy e=>B.ok.has y.1 (S.free y hy e);refine a_ (Ct (lT (use:=g (lF (.Name y py) X.env)) (Q:=λ_ r=>SP X pins D .next r) I hs (K1 ah) S.kind S.own (Ct (hi pins s t H _ B h) λv s1 h1=>Ct h1 λao s2 i=>?_)) λ_ r hq=>b_ (b_ hq));let[it,K,tn,P,H2,e,I2,T,ak,f2,i]:=i;subst e;refine Qr hc S hN ab hg ht I2 T ak f2 (QQ:=λp l=>D.nx (t.set j (g (.ref p))) l) (RR:=λae C=>compPost (fC X.prog X.w) X.A X.xe (g (lF (.Name y py) X.env)) (λ_ r=>SP X pins D .next r) ae C)
  (EE:=λR A v r=>∃e c d u l,v=.ref e/\Ak (Kw X NC scope R A K) [] u l r/\dN r.heap e c d fP (cA (Kw X NC scope R A K) [] l)/\W t c d l)
  (λR A=>he R A K _ (λ_=>W t) ?_) ?_ i λR A a1 H5 s6 F f3 J6 qn=>?_
 .intro m u l r e c d I' x' hw
  exact[e,c,d,u,l,I,Ak.unpinned (pins:=[]) (pl:=m) I'.ofB,x'.imp λb f=>[f.1,f.2.1,f.2.2.1,f.2.2.2.1,f.2.2.2.2.1,λp hp=>fA (show p∈([]:List (J×gS)) from hp) zZ],hw]
 .rintro R A ae v r F f3 ⟨e,c,d,u,l,rfl,J3,x,hw⟩
  unfold notedBy;refine HE (X:=Kw X NC scope R A K) J3 (env1:=X.env) (outer1:=X.outer) (L:=X.env.locals) aa M M x λh' J4 x4=>?_;let[m6,O,_]:=J4.loc;refine[m6,O,λh5 N an ap=>?_];let I5:=Ld F f3 J4 N;let x5:M5 h5 e c d (cA X pins l):=by
   let[oe,vs,T,oT,ts,fl,he,hc,ac,hd,hz,i,fe,h1,af,hT,ad,h3,fT]:=x4;exact[oe,vs,T,oT,ts,fl,(N.2 e fe.2.1).trans he,hc,ac,hd,hz,i,fe.ofB F f3 aa M,h1,af,(N.2 T fT.2.1).trans hT,ad,h3,fT.ofB F f3 aa M]
  let x6:=x5;let[oe,vs,T,oT,ts,fl,he,hc,ac,hd,hz,i,fe,h1,af,hT,ad,h3,fT]:=x5;unfold PySem.passOn;refine a_ (gQ he hd h1 ?_);rw[eQ (show ¬(fD T == .none)=eP by simp)];refine a_ (Yl I5 x6 λh7 I7 x7 _=>?_);exact wpAny_throw (hW pins t l _ e c d I7 x7 hw)
 .let[m6,O,_]:=J6.loc
  let I6:=Ld F f3 J6 (i_.refl ..);show eV _ X.A (lF (.Name y py) X.env (.ref ⇑s2)) _ _ s6;refine pU (Of (v:=.ref ⇑s2) I6 am hj (.inl hy) I (λs7 I7 ⟨a,al,ha⟩=>?_) (.inr hy));let ag:⇑R≠a:=by
   rcases ha with ha|ha
   .rw[ha];exact fQ (fj F.lt)
   .let[v,q]:=F.cell y a ha
    exact fQ (fj q.lt)
  refine[m6,O.sameBut al ag,λh8 ai=>?_];let nC:H5 ⇑R=U:=J6.free;let I8:Ak X pins (t.set j (g (.ref ⇑s2))) H5 { s7 with heap:=h8,toks:=s7.toks }:=by
   refine I7.turned (it:=⇑R) (λb o hb e=>(ai.2 b hb).trans e) nC (fQ (fj F.lt)) (.inr F.sz) (λx c e z=>?_) (λp hp z=>?_)
   .let[v,q]:=F.cell x c e
    exact fA (z▸q.lt) (nS _)
   .exact fA (z▸dn (F.pin p hp).1) (nS _)
  exact[_,H5,I8,qn]
end
theorem Vm{w:fF}{A:fL}{E:eJ->eO->Prop}{it l:J}{items:Array eJ}(N:l≠it):∀(n i:Nat) (s:eO) (Q:List eJ->eO->Prop),s.heap.IsListIter it l i->PlainL s.heap l items->i+n<=items.size ->
  (∀h',h'.IsListIter it l (i+n)->i_ it s.heap h'->Q ((items.toList.drop i).take n) { s with heap:=h' })->eV (fC P w) A (draw (.ref it) n) Q E s
 |0,i,s,Q,M,p,R,q=>b_ (q s.heap M (i_.refl ..))
 |n+1,i,s,Q,M,p,R,q=>by
  let j:i<items.size:=by lia
  let O:items[i]?=g items[i]:=qd j;show eV _ _ (kQ (.ref it) >>= λr=>_) _ _ _;refine a_ (vB M p.isList O λh' F C=>?_);let[o,k,e,c]:=p;refine a_ (fV (Vm N n (i+1) _ _ F [o,k,(C.2 l N).trans e,c] Z λB L S=>?_));refine b_ ?_;let H:items.toList.drop i=items[i]::items.toList.drop (i+1):=by
   let:=wP (l:=items.toList) (i:=i) (by simpa using j)
   simpa using this
  let:=q B (by rw[show i+(n+1)=i+1+n by lia];exact L) (C.trans S);rw[H,List.take_succ_cons]at this;exact this
def Y7:mO (.type "list") "__iter__"=pure (g (.builtin "list.__iter__")):=by
 rw[PySem.typeLookup_type,show builtinLookup "list" "__iter__"=g (g (.builtin "list.__iter__")) from by ac_nf]
def C3{w:fF}{A:fL}{E:eJ->eO->Prop}{s:eO}{l:J}{items:Array eJ}{n:Nat}{Q:List eJ->eO->Prop}(C:A.handled=U)(p:PlainL s.heap l items)(R:n=items.size)
  (q:∀h',pO ⇑s s.heap h'->Q items.toList { s with heap:=h' }):eV (fC P w) A (unpackItems (.ref l) n U) Q E s:=by
 subst R;unfold unpackItems notIterableAtAll;let[o,k,e,c,d,N]:=id p;refine a_ (a_ (rN (T:="list") (r:=g (.builtin "list.__iter__")) [o,e,c] Y7 ?_));refine b_ ?_;show eV _ _ (iY #[fD l] (sQ (.ref l)) >>= _) _ _ _;refine a_ (fV (pT p.isList ?_));let M:l≠⇑s:=fj (dn e);refine a_ (fV (Vm M items.size 0 _ _ [_,h_ _ I,I,I] [o,k,dv _ e,c,d,N] Z λX O j=>?_));let S:((items.toList.drop 0).take items.size)=items.toList:=by rw[List.drop_zero];exact vw zZ
 rw[S,eQ zZ];rw[tJ]at O;refine a_ (fV (vY C O (l:=l) (items:=items) (PlainL.isList [o,k,(j.2 l M).trans (dv _ e),c,d,N]) zZ λB H=>?_));rw[eQ zZ];refine b_ (q B λb W F L=>H b W F ((j.2 b F).trans (dv _ L)))
inductive ZH(K:a')(n:Nat)(t:MZ)(v:V)(σ:St)(H:Hp)(Q:St->Hp->Prop):Prop
 |mk (a:J) (xs:List V) (e:v=.ref a) (h:Am K H a xs\/Bh K H a xs) (l:xs.length=n) (q:t xs σ H Q)
def OZ{X:Cx}{K:a'}{es:List gK}{k:Nat}{t:MZ}{n:Nat}(d:X.K=K)(S:X.calm=eP)(h:SL X es t)
  (N:(jN es X.env).length=n:=by rfl) (P:(jN es X.env).findIdx? (·.1)=U:=by rfl):PG X (.Tuple es k c) (ZH K n t):=by
 subst d;intro O s R H v u Q M r F;let[a,T,L,j,W,F]:=F;rcases j with j|j
 .subst L
  cases r
  let[f,C,p,l]:=M.list j;rw[PyProof.Rows.assign_Tuple];refine a_ (iB ?_);unfold unpack;rw[P];refine a_ (fV (C3 (M.ok.hd S) p (by simp[N,<- W,C.length]) λE A=>?_));let B:Ak X O R H { s with heap:=E }:=M.kept (t':=s.toks) λb o e=>A b o (fj (dn e)) e;exact h O _ R H T _ Q B (by simpa using C) F
 .exact GJ S h N P O s R H v u Q M r [a,T,L,j,W,F]
def G4{X:Cx}{K:a'}{x n:eU}{Ch:J}{i:Nat}(L:X.K=K)(S:Gl X x)(B:X.mg x=g (.ref Ch))(C:X.N.Nodup)(H:X.N[i]?=g n)(M:X.env.kindOf n=g .local)(F:∀e,PSs (X.sup e) (b₀ :: suite) d)(N:PH X c b)
  (j:(x==("__debug__" : eU))=eM:=by lk):PH X (.ExceptHandler (g (.Name x f)) (g n) (b₀ :: suite) hpos::c) (R8 K Ch i d b):=by
 subst L;exact XG S B C H M F N j
def WB(K:a')(C:J)(x qual:eU)(st:gY):Prop:=∃t:vN,MtD K C x qual st #v[.int 0 t,.none]
section
variable {P:eY} {w:fF} {K:a'} {mg:eU->Option eJ} {base:fK} {k:Nat} {x y qual:eU} {st:gY} {C:J} {ps:List eU} {sp:Sp} {dvs:List V}
def YM{ds:Array eJ}(z:Zy P w K mg base)(q:cL K y C)(m:MtD K C "__init__" qual st ds)(h:∀f N,dJ K "__init__" qual st f N->Bp P w K mg base Fv k f N ps sp)
  (M:∀(j:J) (kV L H:eJ) (R:Option J) (O F:eJ) (B:Nat),K.lookup j=g [.type "tuple",U,.seq ds B,#v[]]->Hi K (i' "__init__" qual (Db st) (Bw st) (Ao st) (.ref j) kV L H R O F) ps b) (Q:Ap dvs b):DF P w K mg base k y C ps dvs sp:=by
 let[_,_,_,_,_,_,_,_,_,_,_,_,a,i,l,c,e,S]:=m;exact[_,_,_,[q.mi,a,i,q.kp],h _ _ (Q8 l c e),M _ _ _ _ _ _ _ _ S,Q,z.nv q.ns]
def YO(m:WB K C x qual st)(c:dD K C)(h:∀f N,dJ K x qual st f N->Bp P w K mg base (Tg P w) k f N ps sp)
  (M:∀(t:vN) (j:J) (kV L H:eJ) (Q:Option J) (O F:eJ) (B:Nat),K.lookup j=g [.type "tuple",U,.seq #v[.int 0 t,.none] B,#v[]]->Hi K (i' x qual (Db st) (Bw st) (Ao st) (.ref j) kV L H Q O F) ps #[.int 0 t,.none]):N5 P w K mg base k C x ps #[.int 0,.non] sp:=by
 let[t,_,_,_,_,_,_,_,_,_,_,_,_,a,i,l,d,e,S]:=m;exact[[_,_,_,h _ _ (Q8 l d e),M t _ _ _ _ _ _ _ _ S,.cons [t,I] (.cons I .nil),[a,i,e]],c]
end
end L2
namespace CRL
open PySem L2
def top(i:Nat):gY:=PySem.Challenge.pw_coverroll_k68_refused_rows.main.body.getD i (.Pass [0,0,0,0])
abbrev Iv:gY:=Bs (top 4) 3
abbrev Fz:gY:=Bs (top 12) 0
abbrev Gk:gY:=Bs (top 13) 0
abbrev Fp:gY:=Bs (top 41) 0
abbrev Gv:gY:=Bs (top 41) 1
abbrev Ge:gY:=Bs (top 41) 2
abbrev Hw:gY:=Bs (top 41) 3
abbrev Iy:gY:=Bs (top 42) 1
abbrev Js:gY:=top 44
abbrev Ks:gY:=top 53
abbrev Go:gY:=top 73
abbrev Dk:gY:=Bs (top 82) 0
abbrev Jl:gY:=Bs (top 82) 1
abbrev Ic:gY:=Bs (top 82) 4
abbrev Hl:gY:=Bs (top 94) 3
abbrev Dl:gY:=Bs (top 94) 5
abbrev Ef:gY:=Bs (top 94) 12
abbrev Gn:gY:=Bs (top 97) 0
abbrev Fo:gY:=Bs (top 100) 0
abbrev Jd:gY:=top 106
abbrev He:gY:=top 107
abbrev FL:gY:=top 115
def Ba:J:=857
def Al:J:=335
def An:J:=370
def Hq:J:=554
def Aq:J:=626
def Cr:J:=815
def Aw:J:=59
def Bc:J:=99
def Ah:J:=789
def Ju:J:=113
def Bi:J:=138
def Bx:J:=193
def Ci:J:=212
def Bq:J:=224
def TT:J:=93
structure Pk(K:a'):Prop where
 sr:Fw K "is_whole" (top 16)
 iy:Fw K "has_letters_alone" (top 30)
 tu:Fw K "is_name" (top 31)
 sv:Fw K "is_event" (top 32)
 rj:Fw K "is_number" (top 33)
 ul:Fw K "is_day" (top 34)
 rk:Fw K "is_amount" (top 35)
 tw:Fw K "year_of" (top 36)
 tz:Fw K "loss_of" (top 37)
 jj:Fw K "checked_amount" (top 40)
 qa:Fw K "cut_within" Js
 rl:Fw K "lowest_of" (top 45)
 my:Fw K "left_of_run" (top 46)
 u6:Fw K "cut_out" (top 47)
 qb:Fw K "numbers_of" (top 49)
 sw:Fw K "asked_of" (top 50)
 rn:Fw K "paid_runs" (top 51)
 kj:Fw K "borne_strips" (top 52)
 rp:Fw K "strips_of" Ks
 u7:Fw K "paid_by" (top 54)
 rq:Fw K "count_for" (top 55)
 um:Fw K "settle" (top 56)
 qc:Fw K "check_open" (top 60)
 qf:Fw K "check_free" (top 61)
 mz:Fw K "opens_close" (top 62)
 i6:Fw K "check_told" (top 63)
 jo:Fw K "foretold_loss" (top 64)
 j8:Fw K "foretold_losses" (top 65)
 j9:Fw K "foretold_strips" (top 66)
 ng:Fw K "are_weights" (top 70)
 t6:Fw K "may_have" (top 71)
 uq:Fw K "due_by" (top 72)
 jp:Fw K "place_of_turn" Go
 uv:Fw K "turns" (top 74)
 kl:Fw K "check_houses" (top 79)
 jq:Fw K "first_without" (top 80)
 sd:Fw K "bounds_of" (top 81)
 qg:Fw K "taken_from" (top 89)
 ua:Fw K "back_of" (top 93)
 se:Fw K "_law_cell" (top 102)
 t7:Fw K "_law_mix" (top 103)
 qh:Fw K "_law_whole" (top 104)
 qi:Fw K "_law_names" (top 105)
 qj:Fw K "_law_class" Jd
 kn:Fw K "_law_refusal" He
 ub:Fw K "_law_is" (top 108)
 t8:Fw K "_law_bad" (top 109)
 ko:Fw K "_law_all_bad" (top 110)
 ja:Fw K "_law_all_untold" (top 111)
 tf:Fw K "_law_two" (top 112)
 qk:Fw K "_law_begun" (top 113)
 sf:Fw K "_law_late" (top 114)
 ve:Fw K "law" FL
 fh:cL K "Condition" Ba
 bu:cL K "Clause" Al
 i7:Bb K Al "by"
 ur:aS K Al
 bp:cL K "Limit" An
 gk:Bb K An "most"
 ii:Bb K An "by"
 uw:aS K An
 j1:cL K "Deal" Hq
 nq:Bb K Hq "wheel"
 jr:Bb K Hq "weights"
 ac:cL K "Cover" Aq
 ae:Bb K Aq "name"
 dq:Bb K Aq "condition"
 aq:Bb K Aq "clauses"
 ft:Bb K Aq "houses"
 oa:Bb K Aq "deal"
 da:Bb K Aq "waits"
 g7:cL K "Book" Cr
 gc:Bb K Cr "covers"
 gf:Bb K Cr "asking"
 ce:cL K "Counts" Aw
 dh:Bb K Aw "kept"
 bc:cL K "Days" Bc
 az:Bb K Bc "waiting"
 cu:Bb K Bc "numbers"
 aa:cL K "Ledger" Ah
 bv:Bb K Ah "book"
 cg:Bb K Ah "counts"
 aw:Bb K Ah "days"
 ah:Bb K Ah "closed"
 cz:Bb K Ah "order"
 bq:Bb K Ah "loss_rows"
 dk:Bb K Ah "back_rows"
 bh:Bb K Ah "outcomes"
 g8:Bb K Ah "bases"
 bw:Bb K Ah "paid"
 cm:Bb K Ah "stacks"
 ao:Bb K Ah "left"
 bj:Bb K Ah "findings"
 jt:hY K (.ref Al) (.ref An)=g eM
 ku:hY K (.ref An) (.ref An)=g eP
 eh:Ig K Ba "holds" "Condition.holds" Fo
 og:Ig K Al "span" "Clause.span" Ge
 oh:Ig K Al "room" "Clause.room" Hw
 qm:Ig K Al "key" "Clause.key" Gv
 jl:Ig K An "__init__" "Limit.__init__" (Bs (top 42) 0)
 qo:Ig K An "room" "Limit.room" Iy
 ju:Ig K Hq "__init__" "Deal.__init__" (Bs (top 75) 0)
 ux:MtD K Aq "__init__" "Cover.__init__" Dk #v[.none,.none,.bool eM]
 qp:Ig K Aq "asks" "Cover.asks" Jl
 oo:Ig K Aq "spans" "Cover.spans" (Bs (top 82) 2)
 kz:Ig K Aq "window" "Cover.window" (Bs (top 82) 3)
 oq:Ig K Aq "parts" "Cover.parts" Ic
 qq:Ig K Aq "rest" "Cover.rest" (Bs (top 82) 5)
 jv:Ig K Cr "__init__" "Book.__init__" Gn
 jb:Ig K Aw "__init__" "Counts.__init__" (Bs (top 2) 0)
 ot:Ig K Aw "have" "Counts.have" (Bs (top 2) 1)
 qr:Ig K Aw "add" "Counts.add" (Bs (top 2) 2)
 jw:Ig K Bc "__init__" "Days.__init__" (Bs (top 4) 0)
 tm:Ig K Bc "put" "Days.put" (Bs (top 4) 1)
 jc:Ig K Bc "has_number" "Days.has_number" (Bs (top 4) 2)
 jd:Ig K Ah "__init__" "Ledger.__init__" (Bs (top 94) 0)
 ou:Ig K Ah "loss" "Ledger.loss" (Bs (top 94) 1)
 oy:Ig K Ah "back" "Ledger.back" (Bs (top 94) 2)
 jx:Ig K Ah "strips" "Ledger.strips" (Bs (top 94) 10)
 g9:Ig K Ah "stands" "Ledger.stands" (Bs (top 94) 11)
 p0:Ig K Ah "gave" "Ledger.gave" (Bs (top 94) 13)
 p6:Ig K Ah "over" "Ledger.over" (Bs (top 94) 14)
 gh:Ig K Ah "close" "Ledger.close" Hl
 io:Ig K Ah "settle_loss" "Ledger.settle_loss" (Bs (top 94) 4)
 gl:Ig K Ah "number_paid_cents" "Ledger.number_paid_cents" Dl
 j2:Ig K Ah "take_back" "Ledger.take_back" (Bs (top 94) 6)
 jm:Ig K Ah "handled" "Ledger.handled" (Bs (top 94) 7)
 jn:Ig K Ah "settled" "Ledger.settled" (Bs (top 94) 8)
 l6:WB K Ah "bears" "Ledger.bears" Ef
 je:Ig K Ah "foretell" "Ledger.foretell" (Bs (top 94) 15)
 qt:Ig K An "span" "Clause.span" Ge
 sg:Ig K An "key" "Clause.key" Gv
 ut:BsE K Al "__init__" "Clause.__init__" Fp
 qu:ia K (.ref Ba) "__init__"=g (g (.builtin "object.__init__"))
 i9:Ib K "BACK_CENTS" 3
 sh:Ib K "BACK_RANK" 1
 gj:Ib K "CENTS" 5
 p8:QV K "COVERED_ONE" "self"
 gm:Ib K "DAY" 1
 lg:Ib K "DAYS_OF_YEAR" 365
 cb:Ib K "EVENT" 2
 fg:Ib K "FORETOLD_THINGS" 5
 tq:Ib K "LAST_DAY" 1000000
 pf:Ib K "LAST_NUMBER" 1000000000
 uc:QV K "LETTERS" "abcdefghijklmnopqrstuvwxyz"
 lh:Ib K "LONGEST_NAME" 8
 fm:Ib K "LOSS_RANK" 0
 qv:Ib K "MOST_CENTS" 999999999999
 ll:Ib K "MOST_CLAUSES" 8
 ph:Ib K "MOST_COVERS" 8
 qw:Ib K "MOST_NAMES" 4
 pj:Ib K "MOST_PLACES" 8
 qx:Ib K "MOST_TURNS" 100
 cq:Ib K "NUMBER" 0
 uy:Ib K "THING" 3
 ie:gn K fr "ValueError"=g U
 j3:gn K fr "bool"=g U
 qy:gn K fr "dict"=g U
 au:gn K fr "enumerate"=g U
 jy:gn K fr "int"=g U
 ad:gn K fr "isinstance"=g U
 ax:gn K fr "len"=g U
 bn:gn K fr "list"=g U
 dz:gn K fr "max"=g U
 gb:gn K fr "min"=g U
 bz:gn K fr "range"=g U
 ip:gn K fr "reversed"=g U
 tt:gn K fr "set"=g U
 ig:gn K fr "sorted"=g U
 gr:gn K fr "str"=g U
 iq:gn K fr "sum"=g U
 lw:gn K fr "tuple"=g U
 ka:gn K fr "zip"=g U
 qz:gn K fr "CoverError"=g (g (.ref Ju))
 am:gn K fr "NoEntry"=g (g (.ref Bi))
 ik:gn K fr "Twice"=g (g (.ref Bx))
 j6:gn K fr "Late"=g (g (.ref Ci))
 j7:gn K fr "NotTold"=g (g (.ref Bq))
 ar:vb K Bi #[.type "ValueError",.type "Exception",.type "BaseException",.type "object"] "ValueError.__new__"=eP
 ue:BP K Bi
 uf:hY K (.ref Bi) (.type "ValueError")=g eP
 jf:hY K (.ref Bi) (.ref Bi)=g eP
 kc:hY K (.ref Bi) (.ref Bx)=g eM
 m7:hY K (.ref Bi) (.ref Ci)=g eM
 jg:hY K (.ref Bi) (.ref Bq)=g eM
 ke:pa K (.ref Bi) (.ref Bx)=g eM
 m8:pa K (.ref Bi) (.ref Ci)=g eM
 ir:pa K (.ref Bi) (.ref Ju)=g eP
 v6:EmE K Bx "Twice.__init__" Fz
 mh:XSet K Bx "number"
 ml:BP K Bx
 v7:hY K (.ref Bx) (.type "ValueError")=g eP
 kf:hY K (.ref Bx) (.ref Bi)=g eM
 pq:hY K (.ref Bx) (.ref Bx)=g eP
 r8:hY K (.ref Bx) (.ref Ci)=g eM
 kg:hY K (.ref Bx) (.ref Bq)=g eM
 px:pa K (.ref Bx) (.ref Bx)=g eP
 va:EmE K Ci "Late.__init__" Gk
 r9:XSet K Ci "day"
 rf:BP K Ci
 vc:hY K (.ref Ci) (.type "ValueError")=g eP
 mq:hY K (.ref Ci) (.ref Bi)=g eM
 rg:hY K (.ref Ci) (.ref Bx)=g eM
 sj:hY K (.ref Ci) (.ref Ci)=g eP
 mt:hY K (.ref Ci) (.ref Bq)=g eM
 rh:pa K (.ref Ci) (.ref Bx)=g eM
 sq:pa K (.ref Ci) (.ref Ci)=g eP
 ug:vb K Bq #[.type "ValueError",.type "Exception",.type "BaseException",.type "object"] "ValueError.__new__"=eP
 uh:BP K Bq
 uk:hY K (.ref Bq) (.type "ValueError")=g eP
 jh:hY K (.ref Bq) (.ref Bi)=g eM
 kh:hY K (.ref Bq) (.ref Bx)=g eM
 mv:hY K (.ref Bq) (.ref Ci)=g eM
 ji:hY K (.ref Bq) (.ref Bq)=g eP
 ki:pa K (.ref Bq) (.ref Bx)=g eM
 mw:pa K (.ref Bq) (.ref Ci)=g eM
 iu:pa K (.ref Bq) (.ref Ju)=g eP
 vd:NT4 K "WAYS" "event" "thing" "year" "loss"
 v8:MtC K Bc "up_to" "Days.up_to" Iv TT
structure Pm(P:eY)(w:fF)(K:a')(mg:eU->Option eJ)(base:fK):Prop extends Pk K where
 z:Zy P w K mg base
 kb:K.In base
 bi:BI mg base
abbrev Jc{P:eY}{w:fF}{K:a'}{mg:eU->Option eJ}{B:fK}(_:Pm P w K mg B):=SJ P w K mg B
abbrev Jm{P:eY}{w:fF}{K:a'}{mg:eU->Option eJ}{B:fK}(_:Pm P w K mg B):=F6 P w K mg B
abbrev Jk{P:eY}{w:fF}{K:a'}{mg:eU->Option eJ}{B:fK}(_:Pm P w K mg B):=FQ P w K mg B
abbrev Jf{P:eY}{w:fF}{K:a'}{mg:eU->Option eJ}{B:fK}(_:Pm P w K mg B):=OX P w K mg B
def bI:(#[Ba,Al,An,Hq,Aq,Cr,Aw,Bc,Ah]:List J).Nodup:=by lk
def b6{K:a'}(j:J)(kV L H:eJ)(N:Option J)(C F:eJ)(B:Nat)(S:K.lookup j=g [.type "tuple",U,.seq #v[.none,.none,.bool eM] B,#v[]]):Hi K (i' "__init__" "Cover.__init__" (Db Dk) (Bw Dk) (Ao Dk) (.ref j) kV L H N C F) #["self","name","condition","clauses","houses","waits"] #[.none,.bool eM]:=λs O X M=>by
 rcases O with _|⟨a,_|⟨b,_|⟨c,_|⟨d,_|⟨_,_⟩⟩⟩⟩⟩
 .cases M
 .cases M
 .cases M
 .cases M
 .exact sH I (X _ _ S) I I I
 .simp at M
def b4{K:a'}(t:vN)(j:J)(kV L H:eJ)(O:Option J)(C F:eJ)(B:Nat)(S:K.lookup j=g [.type "tuple",U,.seq #v[.int 0 t,.none] B,#v[]]):Hi K (i' "bears" "Ledger.bears" (Db Ef) (Bw Ef) (Ao Ef) (.ref j) kV L H O C F) #["self","number","lo","hi"] #[.int 0 t,.none]:=λs N X M=>by
 rcases N with _|⟨a,_|⟨b,_|⟨_,_⟩⟩⟩
 .cases M
 .cases M
 .exact sH I (X _ _ S) I I I
 .simp at M
def G9{w:fF}{K:a'}{mg:eU->Option eJ}(B:Pm P w K mg b):YR K mg "Condition" Ba:=ZA B.z B.fh B.qu
def dT{c A B:Prop}[Decidable c](h:c)(q:A):if decide c=eP then A else B:=by rw[eT h,eR I];exact q
def dF{c A B:Prop}[Decidable c](h:¬c)(q:B):if decide c=eP then A else B:=by rw[eZ h,eQ f_];exact q
def nT{c A B:Prop}[Decidable c](h:¬c)(q:A):if (!decide c)=eP then A else B:=by rw[eZ h];exact q
def nF{c A B:Prop}[Decidable c](h:c)(q:B):if (!decide c)=eP then A else B:=by rw[eT h];exact q
def bT{c:Bool}{A B:Prop}(h:c=eP)(q:A):if c=eP then A else B:=by rw[eR h];exact q
def bF{c:Bool}{A B:Prop}(h:c=eM)(q:B):if c=eP then A else B:=by rw[eQ (by rw[h];exact f_)];exact q
def BY:V->Bool
 |.int _=>eP
 |_=>eM
def Wi{K:a'}{x:V}{T:String}(h:TyOf K H x (.type T)):∃j F,hY K (.type T) (.type "int")=g j/\hY K (.type T) (.type "bool")=g F/\BY x=(j && !F):=by
 cases h with
 |non=>exact[eM,eM,by kernel_rfl,by kernel_rfl,I]
 |bl b=>exact[eP,eP,by kernel_rfl,by kernel_rfl,I]
 |int i=>exact[eP,eM,by kernel_rfl,by kernel_rfl,I]
 |str i=>exact[eM,eM,by kernel_rfl,by kernel_rfl,I]
 |flt i=>exact[eM,eM,by kernel_rfl,by kernel_rfl,I]
 |lst e=>exact[eM,eM,by kernel_rfl,by kernel_rfl,I]
 |frz e=>exact[eM,eM,by kernel_rfl,by kernel_rfl,I]
 |tup e=>exact[eM,eM,by kernel_rfl,by kernel_rfl,I]
 |dK e=>exact[eM,eM,by kernel_rfl,by kernel_rfl,I]
 |dT e=>exact[eM,eM,by kernel_rfl,by kernel_rfl,I]
def QN{K:a'}:hY K (.type "list") (.type "list")=g eP:=by kernel_rfl
inductive A2(K:a')(vs:List V)(H:Hp)(Q:VK):Prop
 |mk (x:_) (T:_) (z0:vs=#[x]) (z1:TyOf K H x (.type T)) (z2:Q (.bl (BY x)) H):A2 K vs H Q
def R1(K:a'):Sp:=λB H Q x=>A2 K B H Q
section
variable {P:eY} {w:fF} {K:a'} {mg:eU->Option eJ} {base:fK}
def Li(B:Pm P w K mg base):Jc B 1 "is_whole" #["thing"] (R1 K):=Iw B.z B.sr #["thing"] df λN H Q R h=>by
 let[x,O,rfl,j,q]:=h;refine[_,(Ad (Ar (Jn (Nu Dv B.z B.ad (Ca (pv 0) (Kq "int" rfl (B.z.nn B.jy) I))) (Ho (CA (Nu Dv B.z B.ad (Ca (pv 0) (Kq "bool" rfl (B.z.nn B.j3) I)))))))),?_];let[F,L,M,C,e]:=Wi j;rw[e]at q;refine[_,I,_,_,_,_,_,I,Jv,j,M,_,I,?_];cases F with
 |false=>exact q
 |true=>exact[_,I,_,_,_,_,_,I,Jv,j,C,_,I,q]
def Ze(B:Pm P w K mg base):Jc B 1 "_law_whole" #["_law_found"] (R1 K):=Iw B.z B.qh #["_law_found"] df λN H Q R h=>by
 let[x,O,rfl,j,q]:=h;refine[_,(Ad (Ar (Jn (Nu Dv B.z B.ad (Ca (pv 0) (Kq "int" rfl (B.z.nn B.jy) I))) (Ho (CA (Nu Dv B.z B.ad (Ca (pv 0) (Kq "bool" rfl (B.z.nn B.j3) I)))))))),?_];let[F,L,M,C,e]:=Wi j;rw[e]at q;refine[_,I,_,_,_,_,_,I,Jv,j,M,_,I,?_];cases F with
 |false=>exact q
 |true=>exact[_,I,_,_,_,_,_,I,Jv,j,C,_,I,q]
end
def Hr(m:Int):V->Bool
 |.int i=>decide (0<=i/\i<=m)
 |_=>eM
inductive FA(K:a')(m:Int)(vs:List V)(H:Hp)(Q:VK):Prop
 |mk (x:_) (T:_) (z0:vs=#[x]) (z1:TyOf K H x (.type T)) (z2:Q (.bl (Hr m x)) H):FA K m vs H Q
def GV(K:a')(m:Int):Sp:=λB H Q x=>FA K m B H Q
section
variable {P:eY} {w:fF} {K:a'} {mg:eU->Option eJ} {base:fK}
def Lp(B:Pm P w K mg base):Jc B 2 "is_amount" #["thing"] (GV K 999999999999):=Iw B.z B.rk #["thing"] df λM H Q C h=>by
 let[x,N,rfl,L,q]:=h;refine[_,(Ad (Ar (Jn (Do (Li B) C (Bz (pv 0))) (Ho (Nm Ke Ke Ae (pv 0) (Lb B.z B.qv)))))),?_];refine[_,I,_,_,I,L,_,I,?_];cases x with
 |int i=>
  refine En [_,I,_,_,I,I,_,I,?_];by_cases F:(0:Int)<=i
  .refine dT F [_,_,I,I,?_]
   show Q (.bl (decide (i<=999999999999))) H;let e:decide (0<=i/\i<=999999999999)=decide (i<=999999999999):=by
    by_cases j:i<=999999999999
    .rw[eT j,eT [F,j]]
    .rw[eZ j,eZ (λy=>j y.2)]
   rw[<- e];exact q
  .refine dF F ?_
   rw[show Hr 999999999999 (.int i)=eM from eZ (λy=>F y.1)]at q;exact q
 |_=>exact Cg q
end
def Hx(c:Nat):Prop:=97<=c/\c<=122
instance:DecidablePred Hx:=λc=>by unfold Hx;exact inferInstance
def Ie(l:List Nat):Prop:=∀c∈l,Hx c
instance(l:List Nat):Decidable (Ie l):=by unfold Ie;exact inferInstance
def Fx(l:List Nat):Prop:=(1<=l.length/\l.length<=8)/\Ie l
instance(l:List Nat):Decidable (Fx l):=by unfold Fx;exact inferInstance
def dZ{c:Nat}:(c∈(fM "abcdefghijklmnopqrstuvwxyz").cps.toList)↔Hx c:=by
 let e:(fM "abcdefghijklmnopqrstuvwxyz").cps.toList=(kw 26).map (97 + ·):=by ac_nf
 rw[e,g_];unfold Hx;constructor
 .rintro ⟨k,j,rfl⟩
  let:=wk.mp j
  lia
 .intro h
  exact[c-97,wk.mpr Z,Z]
def PM:V->Bool
 |.str _=>eP
 |_=>eM
def nameV:V->Bool
 |.str z=>decide (Fx z.cps.toList)
 |_=>eM
def okX(x:V):Prop:=∀z,x=.str z->z.length<=900
def Y1{K:a'}{x:V}{T:String}(h:TyOf K H x (.type T)):hY K (.type T) (.type "str")=g (PM x):=by
 cases h with
 |non=>kernel_rfl
 |bl b=>kernel_rfl
 |int i=>kernel_rfl
 |str i=>kernel_rfl
 |flt i=>kernel_rfl
 |lst e=>kernel_rfl
 |frz e=>kernel_rfl
 |tup e=>kernel_rfl
 |dK e=>kernel_rfl
 |dT e=>kernel_rfl
inductive HP  (vs:List V)(H:Hp)(Q:VK):Prop
 |mk (l:_) (z0:vs=#[.str (tx l)]) (z1:Q (.bl (decide (Ie l))) H):HP  vs H Q
def UB:Sp:=λB H Q x=>HP  B H Q
inductive X5(K:a')(vs:List V)(H:Hp)(Q:VK):Prop
 |mk (x:_) (T:_) (z0:vs=#[x]) (z1:TyOf K H x (.type T)) (z2:okX x) (z3:Q (.bl (nameV x)) H):X5 K vs H Q
def QI(K:a'):Sp:=λB H Q x=>X5 K B H Q
section
seal L2.PS L2.PSs L2.PE
variable {P:eY} {w:fF} {K:a'} {mg:eU->Option eJ} {base:fK} (b:Pm P w K mg base)
def Mf:Jc b 1 "has_letters_alone" #["text"] UB:=Iw b.z b.iy #["text","sign"] df λR H Q T h=>by
 let[l,rfl,q]:=h;refine[_,(Ac (Cj fH I (OM (pv 0)) (Gi R 1)
    (Ad (Bj (Ay BG (pv 1) (T9 (b.z.gs b.uc) I) I)
    (Ad (Ar Da))
    At)))
   (Ad (Ar Da))),?_]
 refine[_,I,_,I,(KU (l:=l) (λi N B=>((∃o,N=#[oS (tx l),o])/\B=H)/\∀j c,j<i->l[j]?=g c->Hx c) [[[U,I],I],λx x z=>fA z (t_ _)] ?_ ?_)]
 .rintro i c N B O ⟨⟨⟨o,rfl⟩,rfl⟩,F⟩
  refine[_,I,c,_,I,I,_,I,?_];by_cases L:Hx c
  .refine nF (dZ.mpr L) [[[_,I],I],λj d C S=>?_]
   by_cases e:j=i
   .subst e
    rw[O]at S;cases S;exact L
   .exact F j d Z S
  .refine nT (λz=>L (dZ.mp z)) ?_
   let n:¬Ie l:=λz=>L (z c (kS O));rw[eZ n]at q;exact q
 .rintro N B ⟨⟨⟨o,rfl⟩,rfl⟩,F⟩
  let M:Ie l:=λc L=>by
   let[j,C,e]:=pb L;exact F j c C (by rw[hD C,e])
  rw[eT M]at q;exact q
def Kf:Jc b 2 "is_name" #["thing"] (QI K):=Iw b.z b.tu #["thing"] df λR H Q M h=>by
 let[x,O,rfl,j,N,q]:=h;refine[_,(Ac (Bj (Bt (Bm (Nu Dv b.z b.ad (Ca (pv 0) (Kq "str" rfl (b.z.nn b.gr) I)))))
    (Ad (Ar Da))
    At)
   (Ad (Ar (Jn (Nm Ke Ke Ae (Nu Nf b.z b.ax (Bz (pv 0))) (Lb b.z b.lh)) (Ho (Do (Mf b) M (Bz (pv 0)))))))),?_]
 refine[_,I,_,_,_,_,_,I,Jv,j,Y1 j,_,I,?_];cases x with
 |str z=>
  let C:=N z I;let S:tx z.cps.toList=z:=HX z;refine Cg [_,I,_,I,Ax Z,?_];let B:(z.length:Int)=(z.cps.toList.length:Int):=by rw[<- Gm,S]
  refine[_,_,I,I,_,I,?_];by_cases F:1<=(z.length:Int)
  .refine dT F [_,_,I,I,_,I,?_]
   by_cases L:(z.length:Int)<=8
   .refine dT L [_,I,z.cps.toList,by rw[S];rfl,?_]
    let e:decide (Fx z.cps.toList)=decide (Ie z.cps.toList):=by
     by_cases a:Ie z.cps.toList
     .rw[eT a,eT (show Fx _ from [[Z,Z],a])]
     .rw[eZ a,eZ (λy=>a y.2)]
    rw[<- e];exact q
   .refine dF L ?_
    rw[show nameV (.str z)=eM from eZ (λy=>L (by let:=y.1.2;lia))]at q;exact q
  .refine dF F [_,I,Cg ?_]
   rw[show nameV (.str z)=eM from eZ (λy=>F (by let:=y.1.1;lia))]at q;exact q
 |_=>exact En q
end
def Ih{C:J}{x B:J}(nx:H x=U)(j:H B=U)(F:∀b o,(upd (upd H B (.own x)) x (.ins C B [])) b=g o->b≠x->c b=g o):Ag H c:=λb o e=>
 F b o (by rw[Aj (Af e nx),Aj (Af e j)];exact e) (Af e nx)
def KB(p:J)(H H':Hp):Prop:=∀b o,H b=g o->b≠p->H' b=g o
def KB.upd{p:J}{H H':Hp}(k:KB p H H')(o:HO):KB p H (upd H' p o):=λb u e n=>by rw[Aj n];exact k b u e n
def KB.same{p:J}{H H' B:Hp}(k:KB p H H')(s:Ag H' B):KB p H B:=λb u e n=>s _ _ (k b u e n)
def KB.free{p:J}{H H':Hp}{b:J}(k:KB p H H')(n:b≠p)(h:H' b=U):H b=U:=by
 cases z:H b with
 |none=>rfl
 |some o=>
  let:=k _ _ z n;rw[h]at this;cases this
def Lf{i:Nat}{v:V}{nx:St->Hp->Prop}(j:St)(e:b.set i (g v)=j)(h:nx j H):Dx i v b H nx:=by
 unfold Dx;rw[e];exact h
def Fc{t u}{D}{B}{H}(h:∀N:St->Hp->Prop,N=u D->t { D with nx:=N } B H):GZ t u D B H:=h _ rfl
def Gj{i:Nat}{v}{N:St->Hp->Prop}{B}{H}{t u}{D}(F:N=GZ t u D)(j:St)(e:B.set i (g v)=j)(h:∀N:St->Hp->Prop,N=u D->t { D with nx:=N } j H):Dx i v B H N:=by
 subst F;exact Lf j e (h _ I)
def Iu{N:St->Hp->Prop}{B}{H}{t u}{D}(j:N=GZ t u D)(h:∀N:St->Hp->Prop,N=u D->t { D with nx:=N } B H):N B H:=by
 subst j;exact h _ I
def Cd{B:Type}{l:List B}{i:Nat}{x:B}(h:l[i]?=g x):l.take (i+1)=l.take i++#[x]:=by
 rw[oO,h];rfl
def f1{f B:eU}{v:V}{C:List (eU×V)}(h:¬B=f):(By f v C).lookup B=C.lookup B:=by rw[Dc,eQ h]
def f0{f:eU}{v:V}{B:List (eU×V)}:(By f v B).lookup f=g v:=by rw[Dc,eR I]
theorem Gg(f:eU)(v:V):∀C:List (eU×V),(By f v C).length<=C.length+1
 |[]=>b' _
 |(B,u)::C=>by
  unfold By
  split
  .simp
  .have:=Gg f v C
   simp only[c_]
   lia
def dE(B:List (eU×V)):Prop:=B.lookup ("asks" : eU)=U/\B.lookup ("spans" : eU)=U/\B.lookup ("window" : eU)=U/\B.lookup ("parts" : eU)=U/\B.lookup ("rest" : eU)=U
def dE.put{f:eU}{v:V}{C:List (eU×V)}(h:dE C)(B:¬("asks" : eU)=f)(L:¬("spans" : eU)=f)(F:¬("window" : eU)=f)(S:¬("parts" : eU)=f)(j:¬("rest" : eU)=f):dE (By f v C):=
 [by rw[f1 B];exact h.1,by rw[f1 L];exact h.2.1,by rw[f1 F];exact h.2.2.1,by rw[f1 S];exact h.2.2.2.1,by rw[f1 j];exact h.2.2.2.2]
def Xf:List V:=#[.int 1]
inductive IA  (vs:List V)(H:Hp)(Q:VK):Prop
 |mk (a:_) (z0:vs=#[.ref a]) (z1:H a=oL Xf) (z2:Q (.bl eP) H):IA  vs H Q
def UK:Sp:=λB H Q x=>IA  B H Q
def OB:Sp:=λB H Q x=>B=#[.int 1,.int 0,.int 1,.int 0]/\Q (.bl eP) H
def QP:Sp:=λB H Q x=>B=#[.int 1,.int 0,.int 1]/\Q (.int 1) H
inductive DY  (vs:List V)(H:Hp)(Q:VK):Prop
 |mk (a:_) (b:_) (z0:vs=#[.ref a,.ref b,.int 0]) (z1:H a=oL Xf) (z2:H b=oL #[.int 0]) (z3:∀H',Ag H H'->Q (.int 0) H'):DY  vs H Q
def ME:Sp:=λB H Q x=>DY  B H Q
inductive FT  (vs:List V)(H:Hp)(Q:VK):Prop
 |mk (a:_) (z0:vs=#[.ref a]) (z1:H a=oL Xf) (z2:∀r H',Ag H H'->Q (.ref r) H'):FT  vs H Q
def XQ:Sp:=λB H Q x=>FT  B H Q
inductive HA(C:J)(vs:List V)(H:Hp)(Q:VK):Prop
 |mk (p:_) (dx:_) (a:_) (z0:vs=#[.ref p,.ref a]) (z1:H p=oI C dx []) (z2:H a=oL Xf) (z3:∀H',KB p H H'->Q .non H'):HA C vs H Q
def UY(C:J):Sp:=λB H Q x=>HA C B H Q
inductive EK  (vs:List V)(H:Hp)(Q:VK):Prop
 |mk (a:_) (nm:_) (z0:vs=#[.ref a]) (z1:H a=oL #[.str nm]) (z2:nameV (.str nm)=eP) (z3:nm.length<=8) (z4:∀H',Ag H H'->Q .non H'):EK  vs H Q
def UO:Sp:=λB H Q x=>EK  B H Q
section
seal L2.PS L2.PSs L2.PE L2.PA
variable {P:eY} {w:fF} {K:a'} {mg:eU->Option eJ} {base:fK} (d:Pm P w K mg base)
def Xw:Jc d 2 "are_weights" #["thing"] UK:=Iw d.z d.ng #["thing","weight"] df λM H Q C h=>by
 let[a,rfl,j,q]:=h;refine[_,(Ac (Bj (Bt (Bm (Nu Dv d.z d.ad (Ca (pv 0) (Kq "list" rfl (d.z.nn d.bn) I)))))
    (Ad (Ar Da))
    At)
   (Ac (Bj (PW.pt (Fb (Ay Hv (Cw (Dr (K:=K) I) I (d.z.nn d.ax) (show fz _=g (.builtin "len") from rfl) (Bz (pv 0))) Ae (Be _)) (Ea (Ay Pc (Cw (Dr (K:=K) I) I (d.z.nn d.ax) (show fz _=g (.builtin "len") from rfl) (Bz (pv 0))) (Lb d.z d.pj) (Be _)))))
    (Ad (Ar Da))
    At)
   (Ac (Cj fH I (Jz K (pv 0)) (Gi M 1)
    (Ad (Bj (PW.pt (Fb (Bt (Bm (Do (Li d) C (Bz (pv 1))))) (Ea (Ay Hv (pv 1) Ae (Be _)))))
    (Ad (Ar Da))
    At)))
   (Ad (Ar (Gw Ke (Nu (No I) d.z d.iq (Bz (pv 0))) (Lb d.z d.qx) (Be _))))))),?_]
 refine Fc λN F=>?_;refine[_,I,_,_,_,_,_,I,Jv,.lst j,QN,_,I,Cg ?_];refine Iu F λN F=>?_;refine[_,I,a,_,I,(.inl (Am.of j)),_,_,I,I,_,I,dF Y [_,I,a,_,I,(.inl (Am.of j)),_,_,I,I,_,I,dF Y ?_]];refine Iu F λN F=>?_;refine[_,I,a,I,[_,Am.of j],?_];refine Fq (K:=K) (a:=a) (xs:=Xf) (λi B L=>(∃o,B=#[oR a,o])/\L=H) [[U,I],I] (λi B L y S=>by rw[S.2];exact Am.of j) ?_ ?_
 .rintro i x B L O ⟨⟨o,rfl⟩,rfl⟩
  obtain rfl:x=.int 1:=by
   match i,O with
   |0,h=>cases h;rfl
   |i+1,h=>simp[Xf]at h
  subst F;refine Lf #[oR a,oN 1] rfl ?_;exact[_,I,_,_,I,.int 1,_,I,Cg [_,I,_,_,I,I,_,I,dF Y [[_,I],I]]]
 .rintro B L ⟨⟨o,rfl⟩,rfl⟩
  subst F;exact[_,I,a,#[1],I,Am.of j,_,_,I,I,q]
def Z4:Jc d 1 "may_have" #["weight","dealt","total","turn"] OB:=Iw d.z d.t6 #["weight","dealt","total","turn"] df λB H Q C h=>by
 let[rfl,q]:=h;refine[_,(Ad (Ar (Gw Hv (As Ga (pv 1) (pv 2)) (As Ga (pv 0) (As Co (pv 3) Ae)) (Be _)))),?_];exact[_,I,_,I,_,_,I,I,.inl [Y,Y],_,I,_,I,_,_,I,I,_,_,I,I,.inl [Y,Y],_,_,I,I,q]
def X0:Jc d 1 "due_by" #["weight","dealt","total"] QP:=Iw d.z d.uq #["weight","dealt","total"] df λB H Q C h=>by
 let[rfl,q]:=h;refine[_,(Ad (Ar (As Ew (As Fi (As Co (As Ga (As Co (pv 1) Ae) (pv 2)) (pv 0)) Ae) (pv 0)))),?_];exact[_,I,_,_,I,I,_,I,_,_,I,I,.inl [Y,Y],_,I,_,_,I,I,_,_,I,I,_,I,_,_,I,I,[Y,Y],q]
def Oq:Bg #["weights","dealt","turn","total","places","best","place"] #["weights","dealt","turn"] (Ao Go):=by injections
def Oy(d:Pm P w K mg base){f:J}(F:cF K "place_of_turn" "place_of_turn" Go f t):Bp P w K mg base Fv 2 f t #["weights","dealt","turn"] ME:=by
 let sc:=Oq;bv_omega
 .let[_,_,rfl,_]:=h
  rfl
 let[a,b,rfl,W,p,q]:=h;refine[_,(Ac (Yn (i:=3) sc.nd I (Or.inr I) (Nu (No I) d.z d.iq (Bz (pv 0))))
   (Ac (Ht (NC:=#["k","total","turn","weights","dealt"]) (own:=#["k"]) (cs:=#["total","turn","weights","dealt"]) (ix:=#[3,2,0,1]) (j:=4) sc.nd I I I (Au.of I) I [[I,.inl I,I],[[I,.inl I,I],[[I,.inl I,I],[[I,.inl I,I],trivial]]]] (Gb I (d.z.nn d.bz) (Bz (Cw (Dr (K:=K) I) I (d.z.nn d.ax) (show fz _=g (.builtin "len") from rfl) (Bz (pv 0))))) (λy y y=>(Oh 0)) (λy y y=>(Hu (Bm (Do (Z4 d) hr (Ai (Nv K (pv 3) (pv 0)) (Ai (Nv K (pv 4) (pv 0)) (Ca (pv 1) (pv 2)))))))) (λy y y=>(pv 0)))
   (Ac (Dp sc 5 (Nv K (pv 4) Ae))
   (Ac (Cj fH I (Jz K (pv 4)) (Gi sc 6)
    (Ad (Bj (Ay Hv (Do (X0 d) hr (Ai (Nv K (pv 0) (pv 6)) (Ca (Nv K (pv 1) (pv 6)) (pv 3)))) (Do (X0 d) hr (Ai (Nv K (pv 0) (pv 5)) (Ca (Nv K (pv 1) (pv 5)) (pv 3)))) (Be _))
    (Ad (Dp sc 5 (pv 6)))
    At)))
   (Ad (Ar (pv 5))))))),?_]
 refine Fc λN L=>?_;refine[_,I,a,#[1],I,Am.of W,?_];refine Gj L #[oR a,oR b,oN 0,oN 1,U,U,U] rfl λN L=>?_;refine[_,I,a,_,I,.inl (Am.of W),_,I,Y,Y,λS C=>?_];refine O5 (lo:=0) (n:=1) (λi T O=>T=(if i=0 then [] else #[V.int 0])/\O S=oL T/\Ag H O) [I,Ab,Aa C _] (λi T O l ⟨e,R,_⟩=>[R,by rw[e];split<;>simp;lia]) (by rw[ck];decide) (λi T O l ⟨e,R,M⟩=>?_) (λT O ⟨e,R,M⟩=>?_)
 .obtain rfl:i=0:=by lia
  rw[eR I]at e;subst e;exact[_,I,_,I,_,_,_,_,I,I,Am.of (M _ _ W),I,_,I,_,I,_,_,_,_,I,I,Am.of (M _ _ p),I,_,I,_,I,I,_,I,En [_,I,R,I,I,Ab,λc o z=>by rw[Aj (Af z C)];exact M c o z]]
 rw[eQ Y]at e;subst e;refine Gj L #[oR a,oR b,oN 0,oN 1,oR S,U,U] rfl λN L=>?_;refine[_,I,_,_,_,_,I,I,Am.of R,I,?_];refine Gj L #[oR a,oR b,oN 0,oN 1,oR S,oN 0,U] rfl λN L=>?_;refine[_,I,S,I,[_,Am.of R],?_];refine Fq (K:=K) (a:=S) (xs:=#[V.int 0]) (λi X k=>(∃o,X=#[oR a,oR b,oN 0,oN 1,oR S,oN 0,o])/\k=O) [[U,I],I] (λi X k y r=>by rw[r.2];exact Am.of R) ?_ ?_
 .rintro i x X k l ⟨⟨o,rfl⟩,rfl⟩
  obtain rfl:x=.int 0:=by
   match i,l with
   |0,h=>cases h;rfl
   |i+1,h=>simp at h
  subst L;refine Lf #[oR a,oR b,oN 0,oN 1,oR S,oN 0,oN 0] rfl ?_;let A:=Am.of (K:=K) (M _ _ W);let B:=Am.of (K:=K) (M _ _ p);exact[_,I,_,I,a,_,_,_,I,I,A,I,_,I,_,I,b,_,_,_,I,I,B,I,_,I,I,_,I,_,I,a,_,_,_,I,I,A,I,_,I,_,I,b,_,_,_,I,I,B,I,_,I,I,_,_,I,I,_,I,dF Y [[_,I],I]]
 .rintro X k ⟨⟨o,rfl⟩,rfl⟩
  subst L;exact[_,I,q _ M]
def Rq:Jc d 2 "place_of_turn" #["weights","dealt","turn"] ME:=(SM d.z d.jp bd).cal λf B F=>Oy d F
def PJ:Jc d 3 "turns" #["weights"] XQ:=Iw d.z d.uv #["weights","dealt","wheel","turn","place"] df λE H Q s h=>by
 let[a,rfl,T,q]:=h;refine[_,(Ac (Bj (Bt (Bm (Do (Xw d) s (Bz (pv 0)))))
    (Ad Fn)
    At)
   (Ac (Ht (NC:=#["weight"]) (own:=#["weight"]) (cs:=[]) (ix:=[]) (j:=1) E.nd I I I (Au.of I) I trivial (Jz K (pv 0)) (λ_ _ _=>(Oh 0)) (λ_ _ _=>Ez) (λ_ _ _=>Ae))
   (Ac (Dp E 2 (Bu Eg))
   (Ac (Cj fH I (Gb I (d.z.nn d.bz) (Bz (Nu (No I) d.z d.iq (Bz (pv 0))))) (Gi E 3)
    (Ac (Dp E 4 (Do (Rq d) s (Ai (pv 0) (Ca (pv 1) (pv 3)))))
   (Ac (Xu (As Co (Nv K (pv 1) (pv 4)) Ae) (DR (pv 1) (pv 4) E2))
   (Ad (Bk (Ed (K:=K) I fG gA fZ Dq (pv 2) (Bz (pv 4))))))))
   (Ad (Ar (pv 2))))))),?_]
 refine Fc λN L=>?_;refine[_,I,a,I,T,_,I,Cg ?_];refine Iu L λN L=>?_;refine[_,I,a,I,[_,Am.of T],λF C=>?_];refine Cz (K:=K) (a:=a) (xs:=Xf) (λi X S=>X=(if i=0 then [] else #[V.int 0])/\S F=oL X/\Ag H S) [I,Ab,Aa C _] (λi X S r ⟨e,R,B⟩=>[R,by rw[e];split<;>simp;lia,Am.of (B _ _ T)]) (by rw[ck];decide) (λi x X S r ⟨e,R,B⟩=>?_) (λX S ⟨e,R,B⟩=>?_)
 .have il:=(hI.mp r).1
  obtain rfl:i=0:=by let:i<1:=il;lia
  rw[eR I]at e;subst e;exact[R,I,I,Ab,λc o z=>by rw[Aj (Af z C)];exact B c o z]
 rw[eQ Y]at e;subst e;refine Gj L #[oR a,oR F,U,U,U] rfl λN L=>?_;refine[de _,λO M=>?_];let A:=Aa M (.lst []);let t:upd S O (.lst []) O=oL []:=Ab;let ad:F≠O:=Af R M;generalize upd S O (.lst [])=H3 at A t;refine Gj L #[oR a,oR F,oR O,U,U] rfl λN L=>?_;let f:=B.trans A;refine[_,I,a,#[1],I,Am.of (f _ _ T),_,I,Y,Y,?_];refine Ky (lo:=0) (n:=1) (λi p W=>(∃l b,p=#[oR a,oR F,oR O,l,b])/\(i=0->W=H3)/\Ag H W) [[U,U,I],λ_=>I,f] ?_ ?_
 .rintro i p W r ⟨⟨l,b,rfl⟩,e4,u⟩
  obtain rfl:i=0:=by lia
  obtain rfl:=e4 I;subst L;refine Lf #[oR a,oR F,oR O,oN 0,b] rfl ?_;refine[_,I,_,I,_,I,a,F,I,(f _ _ T),(A _ _ R),(λH5 k=>?_)];subst L;refine Lf #[oR a,oR F,oR O,oN 0,oN 0] rfl ?_;let v:=k _ _ (A _ _ R);refine[_,I,_,I,_,_,_,_,I,I,Am.of v,I,_,_,I,I,_,I,_,I,F,_,_,0,I,I,v,I,?_];let y:∀o,upd H5 F o O=oL []:=λo=>by rw[Aj ad.symm];exact k _ _ t
  refine[_,I,.inl [I,_,Am.of (y _)],_,I,O,_,_,I,I,(y _),(by rw[ck];decide),[_,_,I],(λe=>Z),(λc o z=>?_)];let m:H F=U:=C;rw[Aj (Af z (B.free M)),Aj (Af z m)];exact k _ _ (f c o z)
 .rintro p W ⟨⟨l,b,rfl⟩,_,u⟩
  subst L;exact[_,I,q O W u]
def UR:Jk d 4 "Deal" Hq #["self","weights"] (UY Hq):=SW d.z d.j1 d.ju #["self","weights"] df λX H Q T h=>by
 let[p,M,a,rfl,N,L,q]:=h;refine[_,(Ac (Cq (pv 0) (Do (PJ d) T (Bz (pv 1))) I)
   (Ad (Cq (pv 0) (Em (Di (K:=K) I) I (d.z.nn d.bn) (show fz _=g (.type "list") from rfl) (Bz (pv 1))) I))),?_]
 let S:a≠p:=Br L N (by intro z;cases z);let W:KB p H H:=λx x e x=>e;refine[_,I,a,I,L,λC A B=>?_];refine[_,I,p,Hq,M,[],I,B _ _ N,d.j1.cl,d.nq,(by show 0<1000;decide),?_];let O:=(W.same B).upd (.ins Hq M (By "wheel" (.ref C) []));refine[_,I,a,_,I,.inl (Am.of (O _ _ L S)),(λR j=>?_)];let F:p≠R:=λz=>by rw[<- z,Ab]at j;cases j
 refine[_,I,p,Hq,M,_,I,(by rw[Aj F,Ab]),d.j1.cl,d.jr,(by show 1<1000;decide),?_];exact q _ ((O.same (Aa j _)).upd _)
def Ue:Jc d 3 "check_houses" #["houses"] UO:=Iw d.z d.kl #["houses","k","house"] df λR H Q E h=>by
 let[a,O,rfl,F,A,B,q]:=h;refine[_,(Ad (Cj fH I (Ji I (d.z.nn d.au) (Bz (pv 0))) (Eb (K:=K) (n:=2) I I (Bf (Gi R 1) (Bf (Gi R 2) Ds)))
    (Ad (Bj (PW.pt (Fb (Bt (Bm (Do (Kf d) E (Bz (pv 2))))) (Ea (Ay Vf (pv 2) (Ee (Sv (K:=K) I) (pv 0) Ey (Eu (pv 1))) I))))
    (Ad Fn)
    At)))),?_]
 refine[_,I,a,I,[_,Am.of F],My (K:=K) (a:=a) (xs:=#[V.str O]) (λi N j=>(∃S L,N=#[oR a,S,L])/\Ag H j) [[U,U,I],λk k z=>z] (λi N j k X=>Am.of (X.2 _ _ F)) ?_ ?_]
 .rintro i x N j t W ⟨⟨S,L,rfl⟩,M⟩ f
  let c:=(hI.mp W).1;obtain rfl:i=0:=by let:i<1:=c;lia
  obtain rfl:x=.str O:=by cases W;rfl
  let T:=M.trans (Aa f (.tup #[V.int 0,.str O]));let b:nameV (.str O)=eP:=A;refine[_,I,_,_,I,.str _,(λy e=>by cases e;exact fO B Y),_,I,?_];rw[b];refine Cg [_,I,_,I,_,I,_,I,a,_,I,(Am.of (T _ _ F)),(λm C=>[m,[],I,.inl (Am.of Ab),I,I,_,I,Cg [[_,_,I],T.trans (Aa C _)]])]
 .rintro N j ⟨⟨S,L,rfl⟩,M⟩
  exact q _ M
end
inductive P8(C:J)(vs:List V)(H:Hp)(Q:VK):Prop
 |mk (p:_) (dx:_) (nm:_) (cd:_) (c0:_) (cs:_) (wv:Bool) (z0:vs=#[.ref p,.str nm,cd,.ref c0,.non,.bl wv]) (z1:H p=oI C dx []) (z2:(nameV (.str nm)=eP/\nm.length<=8/\nm ≠ "self")) (z3:H c0=oL cs) (z4:cs.length<=8) (z8:∀H' cl d0 fs,KB p H H'->H' p=oI C d0 fs->fs.lookup ("name" : eU)=g (.str nm)->fs.lookup ("condition" : eU)=g cd->fs.lookup ("clauses" : eU)=g (.ref cl)->fs.lookup ("waits" : eU)=g (.bl wv)->dE fs->H' cl=oL cs->H cl=U->Q .non H'):P8 C vs H Q
def DX(C:J):Sp:=λB H Q x=>P8 C B H Q
section
variable {P:eY} {w:fF} {K:a'} {mg:eU->Option eJ} {base:fK}
def Nq:Bg #["self","name","condition","clauses","houses","waits","pairs"] #["self","name","condition","clauses","houses","waits"] (Ao Dk):=by injections
seal L2.PS L2.PSs L2.PE L2.PA
def Mt(O:Pm P w K mg base){f:J}(F:dJ K "__init__" "Cover.__init__" Dk f fd):Bp P w K mg base Fv 6 f fd #["self","name","condition","clauses","houses","waits"] (DX Aq):=by
 let sc:=Nq;bv_omega
 .let[_,_,_,_,_,_,_,rfl,_]:=h
  rfl
 let[p,R,T,k,c0,cs,wv,rfl,hp,[nx,n8,ns],hc,l8,q]:=h;refine[_,(Ac (Bj (PW.pt (Fb (Bt (Bm (Do (Kf O) hr (Bz (pv 1))))) (Ea (Ay Fe (pv 1) (T9 (O.z.gs O.p8) I) (Be _)))))
    (Ad Fn)
    At)
   (Ac (Cq (pv 0) (pv 1) I)
   (Ac (Cq (pv 0) (pv 2) I)
   (Ac (Cq (pv 0) (Kp (Ay Oo (pv 3) Fh (Be _)) (Bu Eg) (Em (Di (K:=K) I) I (O.z.nn O.bn) (show fz _=g (.type "list") from rfl) (Bz (pv 3)))) I)
   (Ac (Bj (Ay Pc (Cw (Dr (K:=K) I) I (O.z.nn O.ax) (show fz _=g (.builtin "len") from rfl) (Bz (Bd (pv 0) I))) (Lb O.z O.ll) (Be _))
    (Ad Fn)
    At)
   (Ac (Dp sc 6 (Kp (Ay Oo (pv 4) Fh (Be _)) (Bu (Bz (Bl (Ca (pv 1) Ae)))) (pv 4)))
   (Ac (Cq (pv 0) (Fg (NC:=#["pair"]) (own:=#["pair"]) (cs:=[]) (ix:=[]) I (Au.of I) I trivial (Jz K (pv 6)) (λ_ _ _=>(Oh 0)) (λ_ _ _=>Ez) (λ_ _ _=>(Ej K (pv 0) Ae))) I)
   (Ac (Bk (Do (Ue O) hr (Bz (Bd (pv 0) I))))
   (Ac (Cq (pv 0) (Mm (UR O) (hr.mono Y) I (Bz (Fg (NC:=#["pair"]) (own:=#["pair"]) (cs:=[]) (ix:=[]) I (Au.of I) I trivial (Jz K (pv 6)) (λ_ _ _=>(Oh 0)) (λ_ _ _=>Ez) (λ_ _ _=>(Ej K (pv 0) Ae))))) I)
   (Ad (Cq (pv 0) (pv 5) I))))))))))),?_]
 refine Fc λN S=>?_;let k0:KB p H H:=λ_ _ e _=>e;let aq:c0≠p:=Br hc hp (by intro z;cases z);refine[_,I,_,_,I,.str T,(λy e=>by cases e;exact fO n8 Y),_,I,?_];rw[nx];refine Cg [_,I,I,_,I,dF (λe=>ns (V.str.inj e)) ?_];refine Iu S λN S=>?_;refine[_,I,_,I,p,Aq,R,[],I,hp,O.ac.cl,O.ae,Y,?_];refine Iu S λN S=>?_;refine[_,I,_,I,p,Aq,R,_,I,Ab,O.ac.cl,O.dq,vz (Gg _ _ _) Y,?_];let k2:KB p H (upd (upd H p (.ins Aq R (By "name" (.str T) []))) p (.ins Aq R (By "condition" k (By "name" (.str T) [])))):=KB.upd (KB.upd k0 _) _;let e2:upd (upd H p (.ins Aq R (By "name" (.str T) []))) p (.ins Aq R (By "condition" k (By "name" (.str T) []))) p=oI Aq R (By "condition" k (By "name" (.str T) [])):=Ab;let g2:(By "condition" k (By "name" (.str T) [])).length<=2:=fO (Gg _ _ _) (vt (Gg _ _ _));let n2:(By "condition" k (By "name" (.str T) [])).lookup ("name" : eU)=g (.str T)/\(By "condition" k (By "name" (.str T) [])).lookup ("condition" : eU)=g k:=[by rw[f1 G,f0],f0];let a2:dE (By "condition" k (By "name" (.str T) [])):=dE.put (dE.put [I,I,I,I,I] G G G G G) G G G G G;generalize By "condition" k (By "name" (.str T) [])=L at k2 e2 g2 n2 a2;generalize upd (upd H p (.ins Aq R (By "name" (.str T) []))) p (.ins Aq R L)=H2 at k2 e2
 refine Iu S λN S=>?_;refine[_,I,I,_,I,dF (λe=>by cases e) [_,I,c0,_,I,.inl (Am.of (k2 _ _ hc aq)),λW ac=>?_]];let s3:=Aa ac (.lst cs);let M:W≠p:=(Af e2 ac).symm;let as:H W=U:=k2.free M ac;refine[_,I,p,Aq,R,L,I,s3 _ _ e2,O.ac.cl,O.aq,Z,?_];let k3:=(k2.same s3).upd (.ins Aq R (By "clauses" (.ref W) L));let u:upd (upd H2 W (.lst cs)) p (.ins Aq R (By "clauses" (.ref W) L)) p=oI Aq R (By "clauses" (.ref W) L):=Ab;let c3:upd (upd H2 W (.lst cs)) p (.ins Aq R (By "clauses" (.ref W) L)) W=oL cs:=by rw[Aj M,Ab]
 let g3:(By "clauses" (.ref W) L).length<=3:=fO (Gg _ _ _) Z;let n3:(By "clauses" (.ref W) L).lookup ("name" : eU)=g (.str T)/\(By "clauses" (.ref W) L).lookup ("condition" : eU)=g k/\(By "clauses" (.ref W) L).lookup ("clauses" : eU)=g (.ref W):=[by rw[f1 G];exact n2.1,by rw[f1 G];exact n2.2,f0];let a3:dE (By "clauses" (.ref W) L):=a2.put G G G G G;generalize By "clauses" (.ref W) L=j at k3 u c3 g3 n3 a3;generalize upd (upd H2 W (.lst cs)) p (.ins Aq R j)=H3 at k3 u c3;refine Iu S λN S=>?_;refine[_,I,p,Aq,R,j,_,I,u,O.ac.cl,O.aq,n3.2.2,W,_,I,.inl (Am.of c3),_,_,I,I,_,I,dF Z ?_];refine Iu S λN S=>?_;refine[_,I,I,_,I,dT I [_,I,Ax (by show 2<=1000;decide),λt nt=>[Ax (by show 1<=1000;decide),λc m=>?_]]];refine Gj S #[oR p,oS T,g k,oR c0,g .non,g (.bl wv),oR c] rfl λN S=>?_;let sx:=(Aa nt (.tup #[V.str T,.int 1])).trans (Aa m (.lst #[V.ref t]));let hh:upd (upd H3 t (.tup #[V.str T,.int 1])) c (.lst #[V.ref t]) c=oL #[V.ref t]:=Ab;let ht:upd (upd H3 t (.tup #[V.str T,.int 1])) c (.lst #[V.ref t]) t=oT #[V.str T,.int 1]:=Aa m _ _ _ Ab;let ar:c≠p:=λe=>by rw[e,Aa nt _ _ _ u]at m;cases m
 let nt:t≠p:=λe=>by rw[e,u]at nt;cases nt
 clear m;replace k3:=k3.same sx;replace u:=sx _ _ u;replace c3:=sx _ _ c3;generalize upd (upd H3 t (.tup #[V.str T,.int 1])) c (.lst #[V.ref t])=H3 at hh ht k3 u c3;let ad:=hh;let aj:=ht;let aa:∀{i:Nat} {x:V},#[V.ref t][i]?=g x->i=0/\x=.ref t:=λ{i x} h=>by
  match i,h with
  |0,h=>cases h;exact[I,I]
  |i+1,h=>simp at h
 refine[_,I,c,I,[_,Am.of ad],λX m=>?_];refine Cz (K:=K) (a:=c) (xs:=#[V.ref t]) (λi l r=>l=(if i=0 then [] else #[V.str T])/\r X=oL l/\Ag H3 r) [I,Ab,Aa m _] (λi l r hi ⟨e,C,n⟩=>[C,by rw[e];split<;>simp;lia,Am.of (n _ _ ad)]) (by rw[ck];show 1<=16777216;decide) (λi x l r hi ⟨e,C,n⟩=>?_) (λl r ⟨e,C,n⟩=>?_)
 .let[rfl,rfl]:=aa hi
  rw[eR I]at e;subst e;exact[_,I,_,_,_,_,I,I,Bh.of (n _ _ aj),I,C,I,I,Ab,λb o z=>by rw[Aj (Af z m)];exact n b o z]
 rw[eQ (by show ¬1=0;decide)]at e;subst e;let e5:=n _ _ u;let ah:X≠p:=(Af u m).symm;let au:H X=U:=k3.free ah m;refine[_,I,p,Aq,R,j,I,e5,O.ac.cl,O.ft,Z,?_];let k6:=(k3.same n).upd (.ins Aq R (By "houses" (.ref X) j));let e6:upd r p (.ins Aq R (By "houses" (.ref X) j)) p=oI Aq R (By "houses" (.ref X) j):=Ab;let h6:upd r p (.ins Aq R (By "houses" (.ref X) j)) X=oL #[.str T]:=by rw[Aj ah];exact C
 let c6:upd r p (.ins Aq R (By "houses" (.ref X) j)) W=oL cs:=by rw[Aj M];exact n _ _ c3
 let ab:upd r p (.ins Aq R (By "houses" (.ref X) j)) c=oL #[V.ref t]:=by rw[Aj ar];exact n _ _ ad
 let af:upd r p (.ins Aq R (By "houses" (.ref X) j)) t=oT #[V.str T,.int 1]:=by rw[Aj nt];exact n _ _ aj
 let g6:(By "houses" (.ref X) j).length<=4:=fO (Gg _ _ _) Z;let n6:(By "houses" (.ref X) j).lookup ("name" : eU)=g (.str T)/\(By "houses" (.ref X) j).lookup ("condition" : eU)=g k/\(By "houses" (.ref X) j).lookup ("clauses" : eU)=g (.ref W)/\(By "houses" (.ref X) j).lookup ("houses" : eU)=g (.ref X):=[by rw[f1 G];exact n3.1,by rw[f1 G];exact n3.2.1,by rw[f1 G];exact n3.2.2,f0];let a6:dE (By "houses" (.ref X) j):=a3.put G G G G G;generalize By "houses" (.ref X) j=B at e6 h6 c6 k6 g6 n6 a6 ab af;generalize upd r p (.ins Aq R B)=H6 at e6 h6 c6 k6 ab af;let ap:H6 c=oL #[V.ref t]:=ab;let am:H6 t=oT #[V.str T,.int 1]:=af;refine Iu S λN S=>?_;refine[_,I,p,Aq,R,B,_,I,e6,O.ac.cl,O.ft,n6.2.2.2,X,T,I,h6,nx,n8,λH7 s7=>?_];let k7:=k6.same s7;let ak:=s7 _ _ ap;let al:=s7 _ _ am;refine Iu S λN S=>?_;refine[_,I,c,I,[_,Am.of ak],λwl ai=>?_];refine Cz (K:=K) (a:=c) (xs:=#[V.ref t]) (λi l H8=>l=(if i=0 then [] else Xf)/\H8 wl=oL l/\Ag H7 H8) [I,Ab,Aa ai _] (λi l H8 hi ⟨e,h2,s8⟩=>[h2,by rw[e];split<;>simp[Xf];lia,Am.of (s8 _ _ ak)]) (by rw[ck];show 1<=16777216;decide) (λi x l H8 hi ⟨e,h2,s8⟩=>?_) (λl H8 ⟨e,h2,s8⟩=>?_)
 .let[rfl,rfl]:=aa hi
  rw[eR I]at e;subst e;exact[_,I,_,_,_,_,I,I,Bh.of (s8 _ _ al),I,h2,I,I,Ab,λb o z=>by rw[Aj (Af z ai)];exact s8 b o z]
 rw[eQ (by show ¬1=0;decide)]at e;subst e;intro d dd nd ag an;let s9:Ag H8 (upd (upd H8 dd (.own d)) d (.ins Hq dd [])):=(Aa ag _).trans (Aa (by rw[Aj (fQ an)];exact nd) _);refine[d,dd,wl,I,Ab,s9 _ _ h2,λH9 ao=>[I,?_]];let ae:Ag H6 H9:=s7.trans (s8.trans (Ih nd ag ao));refine[_,I,p,Aq,R,B,I,ae _ _ e6,O.ac.cl,O.oa,Z,?_];let av:(By "deal" (.ref d) B).length<=5:=fO (Gg _ _ _) Z;subst S;refine[_,I,_,I,p,Aq,R,_,I,Ab,O.ac.cl,O.da,Z,?_];let lk:∀{f:eU} {v:V},B.lookup f=g v->¬f="deal"->¬f="waits"->(By "waits" (.bl wv) (By "deal" (.ref d) B)).lookup f=g v:=λh n1 n2=>by rw[f1 n2,f1 n1];exact h
 refine q _ W R _ (((k6.same ae).upd _).upd _) Ab (lk n6.1 G G) (lk n6.2.1 G G) (lk n6.2.2.1 G G) f0 (dE.put (a6.put G G G G G) G G G G G) ?_ as
 .rw[Aj M,Aj M];exact ae _ _ c6
def QC(B:Pm P w K mg base):DF P w K mg base 6 "Cover" Aq #["self","name","condition","clauses","houses","waits"] #[.non,.bl eM] (DX Aq):=YM B.z B.ac B.ux (λf C F=>Mt B F) b6 (.cons I (.cons I .nil))
end
def bN(B:List (eU×V)):Prop:=B.lookup ("spans" : eU)=U/\B.lookup ("window" : eU)=U/\B.lookup ("parts" : eU)=U/\B.lookup ("rest" : eU)=U
def dP(C:J)(H:Hp)(p L:J):Prop:=∃M B,H p=oI C M B/\B.lookup ("clauses" : eU)=g (.ref L)/\bN B
def dP.same{C:J}{H H':Hp}{p B:J}(h:dP C H p B)(s:Ag H H'):dP C H' p B:=by
 let[L,M,e,r]:=h;exact[L,M,s _ _ e,r]
def Xv{B:Type}{l:List B}{i:Nat}{x:B}(h:l[i]?=g x):l.drop i=x::l.drop (i+1):=by
 rw[wP (hI.mp h).1]
 congr 1
 exact(hI.mp h).2
structure A8 where
 a0:J
inductive JL where
 |alw
def A8.of(B:A8)(_:JL):J:=B.a0
def A8.Fam(B:A8)(C:J):Prop:=C=B.a0
def A8.fam(B:A8)(t:JL):B.Fam (B.of t):=rfl
def SQ(_:JL):Nat:=0
def hT(_:JL)(_:LS):Bool:=eP
inductive dA(κ:A8)(H:Hp)(v:V)(t:JL):Prop
 |mk (p dx:J) (e:v=.ref p) (h:H p=oI κ.a0 dx [])
def dA.same{H H':Hp}(s:Ag H H'){v:V}(t:JL)(h:dA b H v t):dA b H' v t:=by
 let[p,B,e,h]:=h;exact[p,B,e,s _ _ h]
def dA.obj{C:A8}{H:Hp}{v:V}{t:JL}(h:dA C H v t):∃p B L,v=.ref p/\H p=oI (C.of t) B L/\L.lookup ("holds" : eU)=U/\True:=by
 let[p,B,e,h]:=h;exact[p,B,[],e,h,I,trivial]
inductive Yw(κ:A8)(m:Nat)(C:J)(vs:List V)(H:Hp)(Q:VK):Prop
 |mk (p:_) (t:_) (l:_) (x:_) (z0:vs=#[.ref p,.ref l]) (z1:dA κ H (.ref p) t) (z2:κ.of t=C) (z3:SQ t<m) (z4:VD H l x) (z5:Q (.bl (hT t x)) H):Yw κ m C vs H Q
def Qn(B:A8)(m:Nat)(C:J):Sp:=λL H Q x=>Yw B m C L H Q
section
variable {P:eY} {w:fF} {K:a'} {mg:eU->Option eJ} {base:fK}
def IC{C:J}{vs:List V}{Q:VK}{E:XK}(h:Qn b 0 C vs H Q E):False:=by
 let[_,_,_,_,_,_,_,h,_]:=h;exact fA h (t_ _)
def Lu:Bg #["self","loss"] #["self","loss"] (Ao Fo):=by injections
def Lx(B:Pm P w K mg base){f:J}(F:cF K "holds" "Condition.holds" Fo f b){m:Nat}:Bp P w K mg base Fv 1 f b #["self","loss"] (Qn (A8.mk Ba) m Ba):=by
 let sc:=Lu;bv_omega
 .let[_,_,_,_,rfl,_]:=h
  rfl
 let[p,t,l,x,rfl,C,L,j,M,q]:=h;exact[_,(Ad (Ar Da)),q]
def M9(B:Pm P w K mg base):∀m,Jf B m (A8.Fam (A8.mk Ba)) "holds" #["self","loss"] (Qn (A8.mk Ba) m):=by
  intro m;cases m with
  |zero=>exact[λC j=>by obtain rfl:=j;exact BQ B.eh B.fh.cl bd λf H F=>bX λx x x x=>IC]
  |succ m=>exact[λC j=>by obtain rfl:=j;exact BQ B.eh B.fh.cl bd λf H F=>(Lx B F).mono (vt (de _))]
end
inductive Cl where
 |lim (y:eU) (m:Int)|any (y:eU)
def Cl.way:Cl->eU
 |.lim y _=>y
 |.any y=>y
def Pz:Cl->List (eU×V)
 |.lim y m=>By "most" (.int m) (By "by" (.str y) [])
 |.any y=>By "by" (.str y) []
def DG(y:eU):Prop:=y="event" \/ y="thing" \/ y="year" \/ y="loss"
def ZY(d:Int):Prop:=0<=d/\d<=999999999999
def Kg(C H L B:J):Cl->J
 |.lim _ _=>B
 |.any _=>C
def dG(M B N C:J)(H:Hp)(p:J)(c:Cl):Prop:=∃L,H p=oI (Kg M B N C c) L (Pz c)
def Fam(B L M H:J)(C:J):Prop:=C=B\/C=H
def dG.same{H H':Hp}{p:J}{c:Cl}(h:dG CC CO CL CM H p c)(s:Ag H H'):dG CC CO CL CM H' p c:=by
 let[B,e]:=h;exact[B,s _ _ e]
def Xp(L S j F:J)(c:Cl):Fam L S j F (Kg L S j F c):=by
 cases c with
 |lim _ _=>exact .inr I
 |any _=>exact .inl I
def RK{y:eU}(h:DG y):YC (.str y) #[.str "event",.str "thing",.str "year",.str "loss"]=eP:=by
 rcases h with rfl|rfl|rfl|rfl<;>decide +kernel
def YW:¬(("by" : eU)="most"):=by ac_nf
def FO(c:Cl):(Pz c).lookup ("by" : eU)=g (.str c.way):=by
 cases c with
 |lim y m=>unfold Pz;rw[Dc,eQ YW,Dc,eR I];rfl
 |any y=>unfold Pz;rw[Dc,eR I];rfl
def JQ(y:eU)(m:Int):(Pz (.lim y m)).lookup ("most" : eU)=g (.int m):=by unfold Pz;rw[Dc,eR I]
def DN(c:Cl){m:eU}(B:¬m="by")(j:¬m="most"):(Pz c).lookup m=U:=by
 cases c with
 |lim y n=>unfold Pz;rw[Dc,eQ j,Dc,eQ B];rfl
 |any y=>unfold Pz;rw[Dc,eQ B];rfl
def JJ(c:Cl):(Pz c).lookup ("span" : eU)=U:=DN c G G
def KC(c:Cl):(Pz c).lookup ("room" : eU)=U:=DN c G G
def UW(_:Cl)(_ _:Int):Int:=0
def SZ(_:Cl)(_ k:Int):Int:=k
def Rb:Cl->Int->V
 |.lim _ m,n=>.int (CR.maxI (m-n) 0)
 |_,_=>.non
inductive HG  (vs:List V)(H:Hp)(Q:VK):Prop
 |mk (n:Int) (z0:vs=#[.int n]) (z1:ZY n) (z2:Q (.int n) H):HG  vs H Q
def UF:Sp:=λB H Q x=>HG  B H Q
inductive MM(CC CO CL CM:J)(vs:List V)(H:Hp)(Q:VK):Prop
 |mk (p:_) (C:_) (dx:_) (fs:_) (y:_) (z0:vs=#[.ref p,.str y]) (z1:H p=oI C dx fs) (z2:Fam CC CO CL CM C) (z3:fs.length<1000) (z4:DG y) (z5:Q .non (upd H p (.ins C dx (By "by" (.str y) fs)))):MM CC CO CL CM vs H Q
def UL(C L N B:J):Sp:=λM H Q x=>MM C L N B M H Q
inductive HS(CC CO CL CM:J)(vs:List V)(H:Hp)(Q:VK):Prop
 |mk (p:_) (dx:_) (y:_) (d:Int) (z0:vs=#[.ref p,.str y,.int d]) (z1:H p=oI CM dx []) (z2:DG y) (z3:ZY d) (z4:∀H',(∀b o,H b=g o->b≠p->H' b=g o)->dG CC CO CL CM H' p (.lim y d)->Q .non H'):HS CC CO CL CM vs H Q
def UT(C L N B:J):Sp:=λM H Q x=>HS C L N B M H Q
inductive W4(CC CO CL CM:J)(C:J)(vs:List V)(H:Hp)(Q:VK):Prop
 |mk (p:_) (c:_) (n k:Int) (z0:vs=#[.ref p,.int n,.int k]) (z1:dG CC CO CL CM H p c) (z2:Kg CC CO CL CM c=C) (z3:∀t H',Ag H H'->H' t=oT #[.int (UW c n k),.int (SZ c n k)]->Q (.ref t) H'):W4 CC CO CL CM C vs H Q
def EV(L M O B:J)(C:J):Sp:=λN H Q x=>W4 L M O B C N H Q
inductive X9(CC CO CL CM:J)(C:J)(vs:List V)(H:Hp)(Q:VK):Prop
 |mk (p:_) (c:_) (n:Int) (z0:vs=#[.ref p,.int n]) (z1:dG CC CO CL CM H p c) (z2:Kg CC CO CL CM c=C) (z3:Q (Rb c n) H):X9 CC CO CL CM C vs H Q
def P2(L M O B:J)(C:J):Sp:=λN H Q x=>X9 L M O B C N H Q
def QT{K:a'}:hY K (.type "str") (.type "str")=g eP:=by kernel_rfl
section
variable {P:eY} {w:fF} {K:a'} {mg:eU->Option eJ} {base:fK} (i:Pm P w K mg base)
def U8(j:¬An=Al){c:Cl}(h:Kg Al Al An An c=Al):∃y,c=.any y:=by
 cases c with
 |any y=>exact[y,I]
 |lim _ _=>exact fA (show An=Al from h) j
def HZ:¬An=Al:=by
 let j:=bI;simp only[lj,cr,j_,not_or,gP]at j;exactλe=>j.2.1.1 e.symm
def V5{c:Cl}(h:Kg Al Al An An c=An):∃y m,c=.lim y m:=by
 cases c with
 |lim y m=>exact[y,m,I]
 |any _=>exact fA (show Al=An from h).symm (HZ)
def Px:Jc i 3 "checked_amount" #["thing"] UF:=Iw i.z i.jj #["thing"] df λM H Q L h=>by
 let[n,rfl,[C,B],q]:=h;refine[_,(Ac (Bj (Bt (Bm (Do (Lp i) L (Bz (pv 0)))))
    (Ad Fn)
    At)
   (Ad (Ar (pv 0)))),?_]
 refine[_,I,_,_,I,.int n,_,I,?_];rw[show Hr 999999999999 (.int n)=eP from eT [C,B]];exact Cg [_,I,q]
def Md:Bg #["self","by"] #["self","by"] (Ao Fp):=by injections
def Mi(i:Pm P w K mg base){f:J}(F:cF K "__init__" "Clause.__init__" Fp f b):Bp P w K mg base Fv 2 f b #["self","by"] (UL Al Al An An):=by
 let sc:=Md;bv_omega
 .let[_,_,_,_,_,rfl,_]:=h
  rfl
 let[p,C,N,O,y,rfl,R,B,W,L,q]:=h;refine[_,(Ac (Bj (PW.pt (Fb (Bt (Bm (Nu Dv i.z i.ad (Ca (pv 1) (Kq "str" rfl (i.z.nn i.gr) I))))) (Ea (Ay Ws (pv 1) (JM (WA i.z i.vd) I) I))))
    (Ad Fn)
    At)
   (Ad (Cq (pv 0) (pv 1) I))),?_]
 refine[_,I,_,_,_,_,_,I,Jv,.str y,QT,_,I,Cg ?_];refine[_,I,(λa M=>[a,_,I,(.inr M),I,I,_,I,?_])];show if (!YC (.str y) #[.str "event",.str "thing",.str "year",.str "loss"])=eP then _ else _;rw[RK L];refine Cg ?_;let T:dD K C:=by
  rcases B with rfl|rfl
  .exact i.bu.cl
  .exact i.bp.cl
 let j:Bb K C "by":=by
  rcases B with rfl|rfl
  .exact i.i7
  .exact i.ii
 exact[_,I,_,I,p,C,N,O,I,R,T,j,W,q]
def Oz(i:Pm P w K mg base):OT P w K mg base 2 "Clause" "__init__" #["self","by"] (UL Al Al An An):=bR i.z i.bu i.ut (λf B F=>Mi i F) bd
def QL:Jk i 4 "Limit" An #["self","by","most"] (UT Al Al An An):=SW i.z i.bp i.jl #["self","by","most"] df λM H Q C h=>by
 let[p,B,y,d,rfl,L,F,j,q]:=h;refine[_,(Ac (Bk (HF (Oz i) (C.mono Y) I (Ca (pv 0) (pv 1))))
   (Ad (Cq (pv 0) (Do (Px i) C (Bz (pv 2))) I))),?_]
 refine[_,I,_,I,p,_,B,[],y,I,L,.inr I,Y,F,?_];exact[_,I,d,I,j,_,I,p,_,B,_,I,Ab,i.bp.cl,i.gk,(by show 1<1000;decide),q _ (λb o z n=>by rw[Aj n,Aj n];exact z) [B,Ab]]
end
def IV(y:eU)(n d:Int)(C B:eU):V:=if y="event" then .str C else if y="thing" then .str B else if y="year" then .int (d/365) else .int n
def FR(c:Cl):(Pz c).lookup ("key" : eU)=U:=DN c G G
inductive EQ(CC CO CL CM:J)(C:J)(vs:List V)(H:Hp)(Q:VK):Prop
 |mk (p:_) (c:_) (t:_) (ev:_) (th:_) (ca:_) (n d ct:Int) (z0:vs=#[.ref p,.ref t]) (z1:dG CC CO CL CM H p c) (z2:Kg CC CO CL CM c=C) (z3:H t=oT #[.int n,.int d,.str ev,.str th,.str ca,.int ct]) (z4:Q (IV c.way n d ev th) H):EQ CC CO CL CM C vs H Q
def MV(L M O B:J)(C:J):Sp:=λN H Q x=>EQ L M O B C N H Q
inductive Q0  (vs:List V)(H:Hp)(Q:VK):Prop
 |mk (d:Int) (z0:vs=#[.int d]) (z1:Q (.int (d/365)) H):Q0  vs H Q
def RY:Sp:=λB H Q x=>Q0  B H Q
section
variable {P:eY} {w:fF} {K:a'} {mg:eU->Option eJ} {base:fK} (a:Pm P w K mg base)
def KM{w:fF}(a:Pm P w K mg base)(c:Cl):dD K (Kg Al Al An An c)/\Bb K (Kg Al Al An An c) "by":=by
 cases c with
 |lim _ _=>exact[a.bp.cl,a.ii]
 |any _=>exact[a.bu.cl,a.i7]
def HN:Jc a 1 "year_of" #["day"] RY:=Iw a.z a.tw #["day"] df λB H Q C h=>by
 let[d,rfl,q]:=h;refine[_,(Ad (Ar (As Ew (pv 0) (Lb a.z a.lg)))),?_];exact[_,I,_,_,I,I,[Y,Y],q]
def To:Bg #["self","loss"] #["self","loss"] (Ao Gv):=by injections
def Ll(a:Pm P w K mg base){f:J}(F:cF K "key" "Clause.key" Gv f b){C:J}:Bp P w K mg base Fv 2 f b #["self","loss"] (MV Al Al An An C):=by
 let sc:=To;bv_omega
 .let[_,_,_,_,_,_,_,_,_,rfl,_]:=h
  rfl
 let[p,c,t,k,o,X,n,d,B,rfl,[T,R],l,j,q]:=h;let[W,S]:=KM a c;refine[_,(Ac (Bj (Ay Fe (Bd (pv 0) I) Bo (Be _))
    (Ad (Ar (Ej K (pv 1) (Lb a.z a.cb))))
    At)
   (Ac (Bj (Ay Fe (Bd (pv 0) I) Bo (Be _))
    (Ad (Ar (Ej K (pv 1) (Lb a.z a.uy))))
    At)
   (Ac (Bj (Ay Fe (Bd (pv 0) I) Bo (Be _))
    (Ad (Ar (Do (HN a) hr (Bz (Ej K (pv 1) (Lb a.z a.gm))))))
    At)
   (Ad (Ar (Ej K (pv 1) (Lb a.z a.cq))))))),?_]
 unfold IV at q;refine[_,I,p,_,T,_,_,I,R,W,S,(FO c),I,_,I,Rv (λe=>?_) (λe=>?_)]
 .have L:c.way="event":=by injection fE e
  rw[eR L]at q;exact[_,I,_,_,_,_,I,I,Bh.of j,I,q]
 .have L:¬c.way="event":=λz=>e (eT (by rw[z]))
  rw[eQ L]at q;refine[_,I,p,_,T,_,_,I,R,W,S,(FO c),I,_,I,Rv (λf=>?_) (λf=>?_)]
  .have O:c.way="thing":=by injection fE f
   rw[eR O]at q;exact[_,I,_,_,_,_,I,I,Bh.of j,I,q]
  .have O:¬c.way="thing":=λz=>f (eT (by rw[z]))
   rw[eQ O]at q;refine[_,I,p,_,T,_,_,I,R,W,S,(FO c),I,_,I,Rv (λN=>?_) (λN=>?_)]
   .have M:c.way="year":=by injection fE N
    rw[eR M]at q;exact[_,I,_,_,_,_,I,I,Bh.of j,I,d,I,q]
   .have M:¬c.way="year":=λz=>N (eT (by rw[z]))
    rw[eQ M]at q;exact[_,I,_,_,_,_,I,I,Bh.of j,I,q]
def TR:Jf a 2 (Fam Al Al An An) "key" #["self","loss"] (MV Al Al An An):=[λC j=>by
  rcases j with rfl|rfl
  .exact BQ a.qm a.bu.cl bd λf B F=>Ll a F
  .exact BQ a.sg a.bp.cl bd λf B F=>Ll a F]
end
section
variable {P:eY} {w:fF} {K:a'} {mg:eU->Option eJ} {base:fK}
def Ta:Bg #["self","count","cents"] #["self","count","cents"] (Ao Ge):=by injections
def Kc(M:Pm P w K mg base){f:J}(F:cF K "span" "Clause.span" Ge f b){C:J}(B:∀c,Kg Al Al An An c=C->∀n k,UW c n k=0/\SZ c n k=k):Bp P w K mg base Fv 2 f b #["self","count","cents"] (EV Al Al An An C):=by
 let sc:=Ta;bv_omega
 .let[_,_,_,_,rfl,_]:=h
  rfl
 let[p,c,n,k,rfl,O,L,q]:=h;refine[_,(Ad (Ar (Bl (Ca Ae (pv 2))))),?_];let[j,N]:=B c L n k;rw[j,N]at q;exact[_,I,by show 2<=sizeLine;rw[ck];decide,λt S=>q t _ (Aa S _) Ab]
def WV(B:Pm P w K mg base):Jf B 2 (Fam Al Al An An) "span" #["self","count","cents"] (EV Al Al An An):=[λC j=>by
  rcases j with rfl|rfl
  .exact BQ B.og B.bu.cl bd λf H F=>Kc B F (λc h n k=>by let[y,rfl]:=U8 (HZ) h;exact[I,I])
  .exact BQ B.qt B.bp.cl bd λf H F=>Kc B F (λc h n k=>by let[y,m,rfl]:=V5 h;exact[I,I])]
def Se:Bg #["self","paid"] #["self","paid"] (Ao Hw):=by injections
def Rp(B:Pm P w K mg base){f:J}(F:cF K "room" "Clause.room" Hw f b){C:J}(L:∀c,Kg Al Al An An c=C->∀n,Rb c n=.non):Bp P w K mg base Fv 1 f b #["self","paid"] (P2 Al Al An An C):=by
 let sc:=Se;bv_omega
 .let[_,_,_,rfl,_]:=h
  rfl
 let[p,c,n,rfl,M,j,q]:=h;refine[_,(Ad (Ar Fh)),?_];rw[L c j n]at q;exact q
def Ts:Bg #["self","paid"] #["self","paid"] (Ao Iy):=by injections
def Um(B:Pm P w K mg base){f:J}(F:cF K "room" "Limit.room" Iy f b):Bp P w K mg base Fv 1 f b #["self","paid"] (P2 Al Al An An An):=by
 let sc:=Ts;bv_omega
 .let[_,_,_,rfl,_]:=h
  rfl
 let[p,c,n,rfl,[C,L],j,q]:=h;let[y,m,rfl]:=V5 j;refine[_,(Ad (Ar (Nu (Ii I) B.z B.dz (Ca (As Fi (Bd (pv 0) I) (pv 1)) Ae)))),?_];exact[_,I,p,_,C,_,_,I,L,B.bp.cl,B.gk,JQ y m,_,I,_,_,I,I,_,_,I,q]
def WO(B:Pm P w K mg base):Jf B 1 (Fam Al Al An An) "room" #["self","paid"] (P2 Al Al An An):=[λC j=>by
  rcases j with rfl|rfl
  .exact BQ B.oh B.bu.cl bd λf H F=>Rp B F (λc h n=>by let[y,rfl]:=U8 (HZ) h;rfl)
  .exact BQ B.qo B.bp.cl bd λf H F=>Um B F]
end
def cP(H:Hp):List V->List CR.Rn->Prop
 |[],[]=>True
 |x::C,p::B=>(∃t,x=.ref t/\H t=oT #[.int p.1,.int p.2])/\cP H C B
 |_,_=>False
def LP(H:Hp)(a:J)(ps:List CR.Rn):Prop:=∃B,H a=oL B/\cP H B ps
theorem cP.len:∀{xs} {ps},cP H xs ps->xs.length=ps.length
 |[],[],_=>rfl
 |[],_::_,h=>h.elim
 |_::_,[],h=>h.elim
 |x::xs,p::ps,h=>by rw[c_,c_,cP.len h.2]
theorem cP.mono{H H':Hp}(s:II H H'):∀{xs} {ps},cP H xs ps->cP H' xs ps
 |[],[],_=>trivial
 |[],_::_,h=>h.elim
 |_::_,[],h=>h.elim
 |x::xs,p::ps,[[t,e,h],r]=>[[t,e,s _ _ h],cP.mono s r]
theorem cP.get:∀{xs} {ps} {i:Nat} {x},cP H xs ps->xs[i]?=g x->∃t p,ps[i]?=g p/\x=.ref t/\H t=oT #[.int p.1,.int p.2]
 |[],[],_,_,_,e=>by simp at e
 |[],_::_,_,_,h,_=>h.elim
 |_::_,[],_,_,h,_=>h.elim
 |x::xs,p::ps,0,y,[[t,e,h],r],q=>by
  simp at q;subst q;exact[t,p,I,e,h]
 |x::xs,p::ps,i+1,y,[_,r],q=>by
  let[t,j,B,F]:=cP.get (i:=i) r (by simpa using q);exact[t,j,by simpa using B,F]
theorem cP.app:∀{xs} {ps} {ys} {qs},cP H xs ps->cP H ys qs->cP H (xs++ys) (ps++qs)
 |[],[],_,_,_,h=>h
 |[],_::_,_,_,h,_=>h.elim
 |_::_,[],_,_,h,_=>h.elim
 |x::xs,p::ps,_,_,[h,r],q=>[h,cP.app r q]
def cP.one{t:J}{a b:Int}(h:H t=oT #[.int a,.int b]):cP H #[.ref t] #[(a,b)]:=[[t,I,h],trivial]
def cP.snoc{xs:List V}{ps:List CR.Rn}{t:J}{a b:Int}(r:cP H xs ps)(h:H t=oT #[.int a,.int b]):cP H (xs++#[.ref t]) (ps++#[(a,b)]):=r.app (cP.one h)
def LP.same{H H':Hp}{a:J}{ps:List CR.Rn}(s:Ag H H')(h:LP H a ps):LP H' a ps:=by
 let[C,B,r]:=h;exact[C,s _ _ B,r.mono (Bn s)]
inductive EC  (vs:List V)(H:Hp)(Q:VK):Prop
 |mk (a:_) (ps:_) (lo hi:Int) (z0:vs=#[.ref a,.int lo,.int hi]) (z1:LP H a ps) (z2:ps.length<=1000) (z3:∀r H',Ag H H'->H r=U->LP H' r (CR.cutW ps lo hi)->Q (.ref r) H'):EC  vs H Q
def MX:Sp:=λB H Q x=>EC  B H Q
inductive FH  (vs:List V)(H:Hp)(Q:VK):Prop
 |mk (a:_) (ps:_) (n:Int) (z0:vs=#[.ref a,.int n]) (z1:LP H a ps) (z2:ps.length<=1000) (z3:∀r H',Ag H H'->H r=U->LP H' r (CR.lowW ps n)->Q (.ref r) H'):FH  vs H Q
def TM:Sp:=λB H Q x=>FH  B H Q
inductive S5  (vs:List V)(H:Hp)(Q:VK):Prop
 |mk (a:_) (ps:_) (z0:vs=#[.ref a,.non]) (z1:LP H a ps) (z2:∀r H',Ag H H'->H r=U->LP H' r ps->Q (.ref r) H'):S5  vs H Q
def OF:Sp:=λB H Q x=>S5  B H Q
def EU:Sp:=λB H Q E=>TM B H Q E\/OF B H Q E
inductive R7  (vs:List V)(H:Hp)(Q:VK):Prop
 |mk (t:_) (b:_) (qs:_) (p:CR.Rn) (z0:vs=#[.ref t,.ref b]) (z1:H t=oT #[.int p.1,.int p.2]) (z2:LP H b qs) (z3:qs.length<=1000) (z4:∀r H',Ag H H'->H r=U->LP H' r (CR.leftW p.2 p.1 qs)->Q (.ref r) H'):R7  vs H Q
def OK:Sp:=λB H Q x=>R7  B H Q
inductive IE  (vs:List V)(H:Hp)(Q:VK):Prop
 |mk (a:_) (b:_) (ps:_) (qs:_) (z0:vs=#[.ref a,.ref b]) (z1:LP H a ps) (z2:LP H b qs) (z3:ps.length<=1000) (z4:qs.length<=1000) (z5:∀r H',Ag H H'->H r=U->LP H' r (CR.outW ps qs)->Q (.ref r) H'):IE  vs H Q
def UG:Sp:=λB H Q x=>IE  B H Q
section
variable {P:eY} {w:fF} {K:a'} {mg:eU->Option eJ} {base:fK} (d:Pm P w K mg base)
def Ul:Bg #["runs","lo","hi","cut"] #["runs","lo","hi"] (Ao Js):=by injections
def Uj(d:Pm P w K mg base){f:J}(F:cF K "cut_within" "cut_within" Js f fd):Bp P w K mg base Fv 1 f fd #["runs","lo","hi"] MX:=by
 let sc:=Ul;bv_omega
 .let[_,_,_,_,rfl,_]:=h
  rfl
 let[a,W,N,O,rfl,[xs,ha,pr],hl,q]:=h;refine[_,(Ac (Ht (NC:=#["run","lo","hi"]) (own:=#["run"]) (cs:=#["lo","hi"]) (ix:=#[1,2]) (j:=3) sc.nd I I I (Au.of I) I [[I,.inl I,I],[[I,.inl I,I],trivial]] (Jz K (pv 0)) (λ_ _ _=>(Oh 0)) (λ_ _ _=>Ez) (λ_ _ _=>(Bl (Ca (Nu (Ii I) d.z d.dz (Ca (Ej K (pv 0) Ae) (pv 1))) (Nu (Kz I) d.z d.gb (Ca (Ej K (pv 0) Ae) (pv 2)))))))
   (Ad (Ar (Fg (NC:=#["run"]) (own:=#["run"]) (cs:=[]) (ix:=[]) I (Au.of I) I trivial (Jz K (pv 3)) (λ_ _ _=>(Oh 0)) (λ_ _ _=>(Hu (Ay Hv (Ej K (pv 0) Ae) (Ej K (pv 0) Ae) (Be _)))) (λ_ _ _=>(pv 0)))))),?_]
 let lx:=pr.len;refine[_,I,a,I,[_,Am.of ha],λc hc=>?_];refine Cz (K:=K) (a:=a) (xs:=xs) (λi R C=>cP C R ((W.take i).map (CR.cutM N O))/\C c=oL R/\Ag H C) [trivial,Ab,Aa hc _]
  (λi R C _ ⟨e,T,M⟩=>[T,by rw[e.len,cn,hQ];lia,Am.of (M _ _ ha)]) (by rw[lx,ck];lia) (λi x R C ab ⟨e,T,M⟩=>?_) (λR C ⟨e,T,M⟩=>?_)
 .let[t,p,y,rfl,ht]:=pr.get ab
  let ac:=M _ _ ht;refine[_,I,_,_,_,_,I,I,Bh.of ac,I,_,I,_,_,I,_,I,_,_,_,_,I,I,Bh.of ac,I,_,I,_,_,I,(by show 2<=sizeLine;rw[ck];decide),(λu hu=>?_)];let v:=Aa hu (.tup #[.int (CR.cutM N O p).1,.int (CR.cutM N O p).2]);refine[v _ _ T,I,?_,Ab,λx o z=>?_]
  .rw[Cd y,iN]
   exact((e.mono (Bn v)).snoc (a:=(CR.cutM N O p).1) (b:=(CR.cutM N O p).2) Ab).mono (Ec (v _ _ T) _)
  .rw[Aj (Af z hc)]
   exact v _ _ (M x o z)
 let et:W.take xs.length=W:=by rw[lx];exact j'
 rw[et]at e;refine[_,I,c,I,[_,Am.of T],λr B=>?_];let ly:R.length=W.length:=by rw[e.len,cn]
 refine Cz (K:=K) (a:=c) (xs:=R) (λi l X=>cP X l (((W.map (CR.cutM N O)).take i).filter λp=>decide (p.1<p.2))/\X r=oL l/\Ag C X) [trivial,Ab,Aa B _]
  (λi l X _ ⟨k,S,L⟩=>[S,?_,Am.of (L _ _ T)]) (by rw[ly,ck];lia) (λi x l X ab ⟨k,S,L⟩=>?_) (λl X ⟨k,S,L⟩=>?_)
 .rw[k.len]
  refine fO (ni _ _) ?_;rw[hQ]
  lia
 .let[t,p,y,rfl,ht]:=e.get ab
  let n:=L _ _ ht;refine[_,I,_,_,_,_,I,I,Bh.of n,I,_,I,_,_,_,_,I,I,Bh.of n,I,_,_,I,I,_,I,?_];rw[Cd y,vf];refine Rv (λc'=>?_) (λc'=>?_)
  .have m:p.1<p.2:=fE c'
   refine[_,I,S,I,?_,Ab,λx o z=>?_]
   .rw[wH,eR (eT m),q_]
    exact(k.snoc (a:=p.1) (b:=p.2) n).mono (Ec S _)
   .rw[Aj (Af z B)]
    exact L x o z
  .have m:¬p.1<p.2:=g0 (ra.mpr c')
   rw[wH,eQ (by rw[eZ m];exact f_),q_,lq];exact[I,k,S,L]
 .have ad:(W.map (CR.cutM N O)).take R.length=W.map (CR.cutM N O):=by rw[ly,<- cn (f:=CR.cutM N O)];exact j'
  rw[ad]at k;exact q r X (M.trans L) (M.free B) [l,S,k]
def Pg:Jc d 1 "cut_within" #["runs","lo","hi"] MX:=(SM d.z d.qa bd).cal λf B F=>Uj d F
def P1:Jc d 1 "lowest_of" #["runs","n"] EU:=Iw d.z d.rl #["runs","n","kept","left","lo","hi"] (dg λvs H Q E h=>by
  rcases h with ⟨_,_,_,rfl,_⟩ | ⟨_,_,rfl,_⟩<;>rfl) λW H Q hr h=>by
 refine[_,(Ac (Bj (Ay Oo (pv 1) Fh (Be _))
    (Ad (Ar (Em (Di (K:=K) I) I (d.z.nn d.bn) (show fz _=g (.type "list") from rfl) (Bz (pv 0)))))
    At)
   (Ac (Dp W 2 (Bu Eg))
   (Ac (Dp W 3 (pv 1))
   (Ac (Cj fH I (Jz K (pv 0)) (Eb (K:=K) (n:=2) I I (Bf (Gi W 4) (Bf (Gi W 5) Ds)))
    (Ac (Bj (Ay Pc (pv 3) Ae (Be _))
    (Ad (Bk (Ed (K:=K) I fG gA fZ Dq (pv 2) (Bz (Bl (Ca (pv 4) (Nu (Kz I) d.z d.gb (Ca (pv 5) (As Co (pv 4) (pv 3))))))))))
    At)
   (Ad (Dp W 3 (As Fi (pv 3) (As Fi (pv 5) (pv 4)))))))
   (Ad (Ar (pv 2))))))),?_]
 rcases h with ⟨a,T,n,rfl,⟨xs,B,M⟩,hl,q⟩|⟨a,T,rfl,⟨xs,B,M⟩,q⟩
 .have lx:=M.len
  refine[_,I,I,_,I,dF (λz=>nomatch z) ?_];refine[de _,λr j=>?_];let C:Ag H (upd H r (.lst [])):=Aa j _;refine[_,I,?_];refine[_,I,a,I,[_,Am.of (C _ _ B)],Fq (K:=K) (a:=a) (xs:=xs)
   (λi A L=>(∃s k R,∃N:Int,A=#[oR a,oN n,oR r,oN N,s,k]/\L r=oL R/\R.length<=i/\∃b,cP L R b/\CR.lowW T n=b++CR.lowW (T.drop i) N)/\Ag H L)
   [[U,U,[],n,I,Ab,b' _,[],trivial,I],C] (λi A L _ ⟨_,e⟩=>Am.of (e _ _ B)) ?_ ?_]
  .rintro i x A L hi ⟨⟨s,k,R,N,rfl,O,y,b,f,F⟩,S⟩
   let[t,p,v,rfl,ht]:=M.get hi;let ab:=S _ _ ht;let aa:i<T.length:=(hI.mp v).1;let m:T.drop i=p::T.drop (i+1):=by
    rw[wP aa]
    congr 1
    exact(hI.mp v).2
   rw[m,CR.lowW_cons]at F;refine[t,_,I,(Bh.of ab),I,(vC I (vC I ([I,?_])))];refine[_,I,_,_,I,I,_,I,Rv (λc=>?_) (λc=>?_)]
   .have l:0<N:=fE c
    rw[eR l]at F;refine[_,I,.inl [I,_,Am.of O],_,I,_,I,_,I,_,I,_,_,I,I,_,_,I,(by show 2<=sizeLine;rw[ck];decide),(λu hu=>?_)];let X:=Aa hu (.tup #[.int p.1,.int (if p.1+N<p.2 then p.1+N else p.2)]);refine[r,_,_,I,I,(X _ _ O),(by rw[ck];lia),?_];refine[_,I,_,I,_,I,_,_,I,I,_,_,I,I,[_,_,_,_,I,Ab,by rw[fy];exact rA y (b' 1),_,((f.mono (Bn X)).snoc Ab).mono (Ec (X _ _ O) _),?_],λx o z=>?_]
    .rw[F,vj]
    .rw[Aj (Af z j)]
     exact X _ _ (S x o z)
   .have l:¬0<N:=g0 (ra.mpr c)
    rw[eQ l]at F;refine[_,I,_,I,_,I,_,_,I,I,_,_,I,I,[_,_,_,_,I,O,Z,_,f,?_],S];rw[F];rfl
  .rintro A L ⟨⟨s,k,R,N,rfl,O,y,b,f,F⟩,S⟩
   refine[_,I,q r L S j [R,O,?_]];rw[lx,wg]at F;rw[F,CR.lowW_nil,lq];exact f
 .refine[_,I,I,_,I,dT I ?_]
  refine[_,I,a,_,I,(.inl (Am.of B)),(λr j=>?_)];let C:=Aa j (.lst xs);exact q r _ C j [xs,Ab,M.mono (Bn C)]
def Xt:Jc d 1 "left_of_run" #["run","others"] OK:=Iw d.z d.my #["run","others","left","begin","lo","hi","end"] df λT H Q hr h=>by
 let[t0,b,B,p,rfl,S,[xs,hb,pr],hl,q]:=h;refine[_,(Ac (Dp T 2 (Bu Eg))
   (Ac (Dp T 3 (Ej K (pv 0) Ae))
   (Ac (Cj fH I (Jz K (pv 1)) (Eb (K:=K) (n:=2) I I (Bf (Gi T 4) (Bf (Gi T 5) Ds)))
    (Ac (Dp T 6 (Nu (Kz I) d.z d.gb (Ca (pv 4) (Ej K (pv 0) Ae))))
   (Ac (Bj (Ay Hv (pv 3) (pv 6) (Be _))
    (Ad (Bk (Ed (K:=K) I fG gA fZ Dq (pv 2) (Bz (Bl (Ca (pv 3) (pv 6)))))))
    At)
   (Ad (Dp T 3 (Nu (Ii I) d.z d.dz (Ca (pv 3) (pv 5))))))))
   (Ac (Bj (Ay Hv (pv 3) (Ej K (pv 0) Ae) (Be _))
    (Ad (Bk (Ed (K:=K) I fG gA fZ Dq (pv 2) (Bz (Bl (Ca (pv 3) (Ej K (pv 0) Ae)))))))
    At)
   (Ad (Ar (pv 2))))))),?_]
 let lx:=pr.len;refine[de _,λr j=>?_];let l:Ag H (upd H r (.lst [])):=Aa j _;refine[_,I,_,_,_,_,I,I,Bh.of (l _ _ S),I,?_];refine[_,I,b,I,[_,Am.of (l _ _ hb)],Fq (K:=K) (a:=b) (xs:=xs)
  (λi E M=>(∃y v k W,∃N:Int,E=#[oR t0,oR b,oR r,oN N,y,v,k]/\M r=oL W/\W.length<=i/\∃f,cP M W f/\CR.leftW p.2 p.1 B=f++CR.leftW p.2 N (B.drop i))/\Ag H M)
  [[U,U,U,[],p.1,I,Ab,b' _,[],trivial,I],l] (λi E M _ ⟨_,e⟩=>Am.of (e _ _ hb)) ?_ ?_]
 .rintro i x E M hi ⟨⟨y,v,k,W,N,rfl,R,ly,f,X,F⟩,L⟩
  let[t,A,m,rfl,ht]:=pr.get hi;let ab:=L _ _ ht;let aa:i<B.length:=(hI.mp m).1;let ed:B.drop i=A::B.drop (i+1):=by
   rw[wP aa]
   congr 1
   exact(hI.mp m).2
  rw[ed,CR.leftW_cons]at F;refine[t,_,I,(Bh.of ab),I,(vC I (vC I ([I,?_])))];refine[_,I,_,I,_,_,_,_,I,I,Bh.of (L _ _ S),I,_,_,I,?_];refine[_,I,_,I,_,_,I,I,_,I,Rv (λc=>?_) (λc=>?_)]
  .have C:N<CR.minI A.1 p.2:=fE c
   rw[eR C]at F;refine[_,I,.inl [I,_,Am.of R],_,I,_,I,by show 2<=sizeLine;rw[ck];decide,λu s=>?_];let O:=Aa s (.tup #[.int N,.int (CR.minI A.1 p.2)]);refine[r,_,_,I,I,(O _ _ R),(by rw[ck];lia),?_];refine[_,I,_,I,_,_,I,[_,_,_,_,_,I,Ab,by rw[fy];exact rA ly (b' 1),_,((X.mono (Bn O)).snoc Ab).mono (Ec (O _ _ R) _),?_],(λx o z=>?_)]
   .rw[F,vj]
    rfl
   .rw[Aj (Af z j)]
    exact O _ _ (L x o z)
  .have C:¬N<CR.minI A.1 p.2:=g0 (ra.mpr c)
   rw[eQ C]at F;refine[_,I,_,I,_,_,I,[_,_,_,_,_,I,R,Z,_,X,?_],L];rw[F];rfl
 .rintro E M ⟨⟨y,v,k,W,N,rfl,R,ly,f,X,F⟩,L⟩
  rw[lx,wg,CR.leftW_nil]at F;refine[_,I,_,I,_,_,_,_,I,I,Bh.of (L _ _ S),I,_,_,I,I,_,I,Rv (λc=>?_) (λc=>?_)]
  .have C:N<p.2:=fE c
   rw[eR C]at F;refine[_,I,.inl [I,_,Am.of R],_,I,_,I,_,_,_,_,I,I,Bh.of (L _ _ S),I,by show 2<=sizeLine;rw[ck];decide,λu s=>?_];let O:=Aa s (.tup #[.int N,.int p.2]);refine[r,_,_,I,I,(O _ _ R),(by rw[ck];lia),?_];refine[_,I,q r _ (λx o z=>?_) j [_,Ab,?_]]
   .rw[Aj (Af z j)]
    exact O _ _ (L x o z)
   .rw[F]
    exact((X.mono (Bn O)).snoc Ab).mono (Ec (O _ _ R) _)
  .have C:¬N<p.2:=g0 (ra.mpr c)
   rw[eQ C,lq]at F;refine[_,I,q r _ L j [_,R,?_]];rw[F];exact X
def EW:Jc d 2 "cut_out" #["runs","others"] UG:=Iw d.z d.u6 #["runs","others","left","run"] df λf H Q l h=>by
 let[a,b,T,N,rfl,[xs,E,k],n,hl,M,q]:=h;refine[_,(Ac (Dp f 2 (Bu Eg))
   (Ac (Cj fH I (Jz K (pv 0)) (Gi f 3)
    (Ad (Bk (Ed (K:=K) I fG gX gW Io (pv 2) (Bz (Do (Xt d) l (Ca (pv 3) (pv 1))))))))
   (Ad (Ar (pv 2))))),?_]
 let v:=k.len;refine[de _,λr F=>?_];let c:Ag H (upd H r (.lst [])):=Aa F _;refine[_,I,a,I,[_,Am.of (c _ _ E)],Fq (K:=K) (a:=a) (xs:=xs)
  (λi X j=>(∃C R,X=#[oR a,oR b,oR r,C]/\j r=oL R/\cP j R (CR.outW (T.take i) N))/\Ag H j)
  [[U,[],I,Ab,trivial],c] (λi X j _ ⟨_,e⟩=>Am.of (e _ _ E)) ?_ ?_]
 .rintro i x X j y ⟨⟨C,R,rfl,O,S⟩,L⟩
  let[t,p,A,rfl,m]:=k.get y;let aa:i<T.length:=(hI.mp A).1;refine[_,I,.inl [I,_,Am.of O],_,I,_,I,t,b,N,p,I,(L _ _ m),(n.same L),M,(λu H3 W hu ⟨zs,s,B⟩=>?_)];let e1:(CR.outW (T.take i) N).length<=1000*1001:=fO (CR.outW_len _ _) (Nat.mul_le_mul (by rw[hQ];lia) Z);let e2:(CR.leftW p.2 p.1 N).length<=1001:=fO (CR.leftW_len _ _ _) Z;refine[r,u,_,_,I,I,(W _ _ O),s,(by rw[S.len,B.len,ck];lia),[_,_,I,Ab,?_],(λx o z=>?_)]
  .have e:CR.outW (T.take (i+1)) N=CR.outW (T.take i) N++CR.leftW p.2 p.1 N:=by
    rw[Cd A];unfold CR.outW;rw[iN,uO,List.map_singleton,List.flatten_singleton]
   rw[e];exact((S.mono (Bn W)).app B).mono (Ec (W _ _ O) _)
  .rw[Aj (Af z F)]
   exact W _ _ (L x o z)
 .rintro X j ⟨⟨C,R,rfl,O,S⟩,L⟩
  rw[v,j']at S;exact[_,I,q r j L F [R,O,S]]
end
theorem dB.last:∀{xs} {ps} {p},dB H xs (ps++#[p])->∃ys t,xs=ys++#[.ref t]/\H t=oT #[.int p.1,.int p.2.1,.int p.2.2]/\dB H ys ps
 |[],[],_,h=>h.elim
 |#[x],[],_,[[t,e,h],_]=>[[],t,by rw[e];rfl,h,trivial]
 |x::y::xs,[],_,[_,h]=>h.elim
 |[],q::ps,_,h=>h.elim
 |x::xs,q::ps,p,[z,r]=>by
  let[ys,t,e,h,j]:=dB.last (ps:=ps) r;exact[x::ys,t,by rw[e];rfl,h,z,j]
abbrev SF:=Int×Int
def dI(H:Hp):List V->List SF->Prop
 |[],[]=>True
 |x::C,p::B=>(∃t,x=.ref t/\H t=oT #[.int p.1,.int p.2])/\dI H C B
 |_,_=>False
theorem dI.len:∀{xs} {ps},dI H xs ps->xs.length=ps.length
 |[],[],_=>rfl
 |[],_::_,h=>h.elim
 |_::_,[],h=>h.elim
 |x::xs,p::ps,h=>by rw[c_,c_,dI.len h.2]
theorem dI.mono{H H':Hp}(s:II H H'):∀{xs} {ps},dI H xs ps->dI H' xs ps
 |[],[],_=>trivial
 |[],_::_,h=>h.elim
 |_::_,[],h=>h.elim
 |x::xs,p::ps,[[t,e,h],r]=>[[t,e,s _ _ h],dI.mono s r]
theorem dI.get:∀{xs} {ps} {i:Nat} {x},dI H xs ps->xs[i]?=g x->∃t p,ps[i]?=g p/\x=.ref t/\H t=oT #[.int p.1,.int p.2]
 |[],[],_,_,_,e=>by simp at e
 |[],_::_,_,_,h,_=>h.elim
 |_::_,[],_,_,h,_=>h.elim
 |x::xs,p::ps,0,y,[[t,e,h],r],q=>by
  simp at q;subst q;exact[t,p,I,e,h]
 |x::xs,p::ps,i+1,y,[_,r],q=>by
  let[t,j,B,F]:=dI.get (i:=i) r (by simpa using q);exact[t,j,by simpa using B,F]
theorem dI.snoc:∀{xs} {ps} {t} {a b:Int},dI H xs ps->H t=oT #[.int a,.int b]->dI H (xs++#[.ref t]) (ps++#[(a,b)])
 |[],[],t,_,_,_,h=>[[t,I,h],trivial]
 |[],_::_,_,_,_,r,_=>r.elim
 |_::_,[],_,_,_,r,_=>r.elim
 |x::xs,p::ps,_,_,_,[z,r],h=>[z,dI.snoc r h]
def cU(L M B C:J)(H:Hp):List V->List Cl->Prop
 |[],[]=>True
 |x::O,c::N=>(∃p,x=.ref p/\dG L M B C H p c)/\cU L M B C H O N
 |_,_=>False
theorem cU.len:∀{xs} {cs},cU CC CO CL CM H xs cs->xs.length=cs.length
 |[],[],_=>rfl
 |[],_::_,h=>h.elim
 |_::_,[],h=>h.elim
 |x::xs,c::cs,h=>by rw[c_,c_,cU.len h.2]
theorem cU.get:∀{xs} {cs} {i:Nat} {x},cU CC CO CL CM H xs cs->xs[i]?=g x->∃p c,cs[i]?=g c/\x=.ref p/\dG CC CO CL CM H p c
 |[],[],_,_,_,e=>by simp at e
 |[],_::_,_,_,h,_=>h.elim
 |_::_,[],_,_,h,_=>h.elim
 |x::xs,c::cs,0,y,[[p,e,h],r],q=>by
  simp at q;subst q;exact[p,c,I,e,h]
 |x::xs,c::cs,i+1,y,[_,r],q=>by
  let[p,F,B,j]:=cU.get (i:=i) r (by simpa using q);exact[p,F,by simpa using B,j]
def aX(H H':Hp):Prop:=∀t C B L,H t=oI C B L->H' t=oI C B L
def Sz{H H':Hp}(s:Ag H H'):aX H H':=λt x x x h=>s t _ h
theorem cU.mono{H H':Hp}(s:aX H H'):∀{xs} {ps},cU CC CO CL CM H xs ps->cU CC CO CL CM H' xs ps
 |[],[],_=>trivial
 |[],_::_,h=>h.elim
 |_::_,[],h=>h.elim
 |x::xs,p::ps,[[t,e,B,h],r]=>[[t,e,B,s _ _ _ _ h],cU.mono s r]
def GQ(k:Int)(c:Cl)(n:Int):SF:=(UW c n k,SZ c n k)
def Cb(k:Int)(cs:List Cl)(ns:List Int):List SF:=List.zipWith (GQ k) cs ns
def K2{k:Int}{cs:List Cl}{ns:List Int}{i:Nat}{c:Cl}{n:Int}(B:cs[i]?=g c)(j:ns[i]?=g n):Cb k (cs.take (i+1)) (ns.take (i+1))=Cb k (cs.take i) (ns.take i)++#[GQ k c n]:=by
 unfold Cb;rw[Cd B,Cd j,List.zipWith_append (by
  let:=(hI.mp B).1;let:=(hI.mp j).1;rw[hQ,hQ]
  lia)]
 rfl
def Oj{k:Int}{cs:List Cl}{ns:List Int}(h:ns.length=cs.length):(Cb k cs ns).length=cs.length:=by unfold Cb;rw[uL];lia
inductive MH  (vs:List V)(H:Hp)(Q:VK):Prop
 |mk (a:_) (xs:_) (sp:_) (c:Int) (z0:vs=#[.ref a,.int c]) (z1:H a=oL xs) (z2:dI H xs sp) (z3:sp.length<=60) (z4:∀H',Ag H H'->Q (.int (CRP.fw sp c)) H'):MH  vs H Q
def aE:Sp:=λB H Q x=>MH  B H Q
def YG(sp:List SF)(B y:Int):Prop:=y=0\/y=B\/∃p∈sp,y=p.1\/y=p.2
inductive ET  (vs:List V)(H:Hp)(Q:VK):Prop
 |mk (a:_) (xs:_) (sp:_) (cents:Int) (z0:vs=#[.ref a,.int cents]) (z1:H a=oL xs) (z2:dI H xs sp) (z3:sp.length<=8) (z4:∀(l:J) (ms:List Int) (H':Hp),Ag H H'->H l=U->H' l=oL (ms.map V.int)->ms.Pairwise (· < ·)->(∀y,y∈ms↔YG sp cents y)->ms.length<=20->Q (.ref l) H'):ET  vs H Q
def VW:Sp:=λB H Q x=>ET  B H Q
theorem FD:∀{j ns:List Int},j.Nodup->(∀y∈j,y∈ns)->j.length<=ns.length
 |[],_,_,_=>de _
 |x::j,ns,F,h=>by
  rw[lj]at F;let S:=h x fk;let B:=FD (ns:=ns.erase x) F.2 λy L=>(wu (λz:y=x=>F.1 (by rw[<- z];exact L))).mpr (h y (e_ _ L));rw[wz S]at B;let:0<ns.length:=wo S;rw[c_]
  lia
def RO{j ns:List Int}(h:j.Pairwise (· < ·))(m:∀y∈j,y∈ns):j.length<=ns.length:=by
 let F:j.Nodup:=h.imp λ{a b} z=>by lia
 exact FD F m
section
variable {P:eY} {w:fF} {K:a'} {mg:eU->Option eJ} {base:fK} (d:Pm P w K mg base)
def Ra:Jc d 1 "first_without" #["spans","cent"] aE:=Iw d.z d.jq #["spans","cent","k","span"] df λX H Q o h=>by
 let[a,xs,O,c,rfl,W,A,r,q]:=h;refine[_,(Ac (Cj fH I (Ji I (d.z.nn d.au) (Bz (pv 0))) (Eb (K:=K) (n:=2) I I (Bf (Gi X 2) (Bf (Gi X 3) Ds)))
    (Ad (Bj (PW.pt (Fb (Ay Hv (pv 1) (Ej K (pv 3) Ae) (Be _)) (Ea (Ay VZ (pv 1) (Ej K (pv 3) Ae) (Be _)))))
    (Ad (Ar (pv 2)))
    At)))
   (Ad (Ar (Sw Ls Ae)))),?_]
 let k:=A.len;refine[_,I,a,I,[_,Am.of W],My (K:=K) (a:=a) (xs:=xs) (λi R L=>((∃M C,R=#[oR a,oN c,M,C])/\CRP.fw O c=CRP.fwFrom (O.drop i) i c)/\Ag H L) [[[U,U,I],I],λy y z=>z] (λi R L y ⟨_,e⟩=>Am.of (e _ _ W)) ?_ ?_]
 .rintro i x R L t l ⟨⟨⟨M,C,rfl⟩,e⟩,B⟩ b
  let[u,p,E,rfl,f]:=A.get l;let N:=B.trans (Aa b (.tup #[.int i,.ref u]));let F:=N _ _ f;rw[Xv E]at e;let j:CRP.fw O c=if c<p.1\/p.2<=c then(i:Int) else CRP.fwFrom (O.drop (i+1)) ((i:Int)+1) c:=e;refine[_,I,_,I,_,_,_,_,I,I,Bh.of F,I,_,_,I,I,_,I,?_];by_cases S:c<p.1
  .rw[eR (.inl S)]at j
   refine dT S (En [_,I,?_]);let:=q _ N;rw[j]at this;exact this
  refine dF S [_,I,_,I,_,_,_,_,I,I,Bh.of F,I,_,_,I,I,_,I,?_];by_cases T:p.2<=c
  .rw[eR (.inr T)]at j
   refine dT T [_,I,?_];let:=q _ N;rw[j]at this;exact this
  .rw[eQ Z]at j
   exact dF T [[[_,_,I],by rw[j];rfl],N]
 .rintro R L ⟨⟨⟨M,C,rfl⟩,e⟩,B⟩
  rw[k,wg]at e;let:=q _ B;rw[e]at this;exact[_,I,this]
def G3:Jc d 1 "bounds_of" #["spans","cents"] VW:=Iw d.z d.sd #["spans","cents","bounds","span"] df λc H Q n h=>by
 let[a,xs,W,j,rfl,M,f,l8,q]:=h;refine[_,(Ac (Dp c 2 (Bu (Ca Ae (pv 1))))
   (Ac (Cj fH I (Jz K (pv 0)) (Gi c 3)
    (Ad (Bk (Ed (K:=K) I fG gX gW L3 (pv 2) (Bz (pv 3))))))
   (Ad (Ar (K7 (pv 2) I I (d.z.nn d.ig) I (d.z.nn d.tt)))))),?_]
 let s:=f.len;refine[_,I,Ax (by show 2<=1000;decide),λb C=>?_];let ab:a≠b:=Af M C;refine[_,I,a,I,[_,Am.of (Aa C _ _ _ M)],Fq (K:=K) (a:=a) (xs:=xs) (λi R F=>(∃o,R=#[oR a,oN j,oR b,o])/\F b=oL ((0::j::(W.take i).flatMap λp=>#[p.1,p.2]).map V.int)/\Ag H F) [[U,I],Ab,Aa C _]
  (λi R F _ ⟨_,_,e⟩=>Am.of (e _ _ M)) ?_ ?_]
 .rintro i x R F v ⟨⟨o,rfl⟩,L,S⟩
  let[u,p,N,rfl,r]:=f.get v;let il:i<W.length:=(hI.mp N).1;let B:∀l:List SF,(l.flatMap λp=>#[p.1,p.2]).length=2*l.length:=λl=>by
   induction l with
   |nil=>rfl
   |cons y l T=>simp only[vU,fy,c_,lW,T];lia
  refine[_,I,.inl [I,_,Am.of L],_,I,b,u,_,_,I,I,L,S _ _ r,?_,[_,I],?_,(λy o z=>?_)]
  .rw[cn,c_,c_,B,hQ,ck]
   show _+2<=_
   lia
  .rw[Ab,Cd N,List.flatMap_append]
   congr 2
   show iF V.int _++#[V.int p.1,V.int p.2]=iF V.int (0::j::(_++_));rw[<- wO,<- wO,iN];rfl
  .rw[Aj (Af z C)]
   exact S y o z
 .rintro R F ⟨⟨o,rfl⟩,L,S⟩
  rw[s,j']at L;let B:∀l:List SF,(l.flatMap λp=>#[p.1,p.2]).length=2*l.length:=λl=>by
   induction l with
   |nil=>rfl
   |cons y l T=>simp only[vU,fy,c_,lW,T];lia
  let k:(0::j::W.flatMap λp=>#[p.1,p.2]).length<=20:=by rw[c_,c_,B];lia
  refine[_,I,b,_,I,Am.of L,Z,(λl m E A O=>q l m _ (S.trans (Aa E _)) (S.free E) Ab A (λy=>?_) ?_)]
  .rw[O y]
   unfold YG;constructor
   .intro X
    rcases cr.mp X with z|z
    .exact .inl z
    rcases cr.mp z with z|z
    .exact .inr (.inl z)
    .let[p,N,t]:=List.mem_flatMap.mp z
     refine .inr (.inr [p,N,?_])
     simpa using t
   .rintro (z|z|⟨p,N,z⟩)
    .rw[z];exact fk
    .rw[z];exact e_ _ fk
    .refine e_ _ (e_ _ (List.mem_flatMap.mpr [p,N,?_]))
     simpa using z
  .exact fO (RO A λy X=>(O y).mp X) k
end
def Fd:List (Option Int)->Int->Option (Int×Int)->Option (Int×Int)
 |[],_,o=>o
 |none::r,k,o=>Fd r (k+1) o
 |some n::r,k,U=>Fd r (k+1) (g (n,k))
 |some n::r,k,g (m,j)=>Fd r (k+1) (if n<m then g (n,k) else g (m,j))
def MT:V->Option Int
 |.int n=>g n
 |_=>U
def RV(H:Hp)(v:V):Option (Int×Int)->Prop
 |none=>v=.non
 |some (n,k)=>∃t,v=.ref t/\H t=oT #[.int n,.int k]
theorem RV.same{H H':Hp}{v:V}(s:Ag H H'):∀{o},RV H v o->RV H' v o
 |none,h=>h
 |some (n,k),[t,e,h]=>[t,e,s _ _ h]
def Cs(cs:List Cl)(ns:List Int):List (Option Int):=List.zipWith (λc n=>MT (Rb c n)) cs ns
inductive X1(CC CO CL CM C:J)(vs:List V)(H:Hp)(Q:VK):Prop
 |mk (p:_) (cl:_) (ct:_) (xs:_) (cs:_) (ns:_) (z0:vs=#[.ref p,.ref ct]) (z1:dP C H p cl) (z2:H cl=oL xs) (z3:cU CC CO CL CM H xs cs) (z4:H ct=oL (iF V.int ns)) (z5:ns.length=cs.length) (z6:∀v H',Ag H H'->RV H' v (Fd (Cs cs ns) 0 U)->Q v H'):X1 CC CO CL CM C vs H Q
def QF(L M O B C:J):Sp:=λN H Q x=>X1 L M O B C N H Q
def DA(c:Cl)(n:Int):Rb c n=.non\/∃m:Int,Rb c n=.int m:=by
 cases c with
 |lim y m=>exact .inr [_,I]
 |any y=>exact .inl I
section
variable {P:eY} {w:fF} {K:a'} {mg:eU->Option eJ} {base:fK}
def MW(N:Pm P w K mg base):Jm N 2 Aq "rest" #["self","counts"] (QF Al Al An An Aq):=BR N.z N.qq N.ac.cl #["self","counts","least","k","clause","room"] df λX H Q hr h=>by
 let[p,cl,l,xs,F,O,rfl,[dx,fs,hp,ag,_],ab,C4,ak,ln,q]:=h;refine[_,(Ac (Dp X 2 Fh)
   (Ac (Cj fH I (Ji I (N.z.nn N.au) (Bz (Bd (pv 0) I))) (Eb (K:=K) (n:=2) I I (Bf (Gi X 3) (Bf (Gi X 4) Ds)))
    (Ac (Dp X 5 (Kj (WO N) (hr.mono Y) (pv 4) (Bz (Nv K (pv 1) (pv 3)))))
   (Ad (Bj (PW.pt (Rj (Ay Xi (pv 5) Fh (Be _)) (Mp (PW.pt (Fb (Ay Oo (pv 2) Fh (Be _)) (Ea (Ay Hv (pv 5) (Ej K (pv 2) Ae) (Be _))))))))
    (Ad (Dp X 2 (Bl (Ca (pv 5) (pv 3)))))
    At))))
   (Ad (Ar (pv 2))))),?_]
 let lx:=C4.len;let ae:2<=sizeLine:=by rw[ck];decide
 refine[_,I,p,Aq,dx,fs,_,I,hp,N.ac.cl,N.aq,ag,cl,I,[_,Am.of ab],My (K:=K) (a:=cl) (xs:=xs)
  (λi k M=>(∃v A b W o,k=#[oR p,oR l,g v,A,b,W]/\RV M v o/\Fd (Cs F O) 0 U=Fd ((Cs F O).drop i) i o)/\Ag H M) [[.non,U,U,U,U,I,I,I],λ_ _ z=>z] (λi k M _ ⟨_,e⟩=>Am.of (e _ _ ab)) ?_ ?_]
 .rintro i x k M t hi ⟨⟨v,A,b,W,o,rfl,f,S⟩,r⟩ nt
  let[d,c,y,rfl,dc,aa]:=C4.get hi;let s3:=Aa nt (.tup #[.int i,.ref d]);let j:=r.trans s3;let ic:i<F.length:=(hI.mp y).1;let al:F[i]'ic=c:=(hI.mp y).2;let aj:O.getD i 0=O[i]'(Z):=by rw[l_,hD Z];rfl
  let ai:(Cs F O)[i]?=g (MT (Rb c (O.getD i 0))):=by
   unfold Cs;rw[List.getElem?_zipWith,y,hD (show i<O.length by lia),<- aj]
  rw[Xv ai]at S;let af:=f.same s3;refine[_,I,d,_,dc,_,I,j _ _ aa,Xp Al Al An An c,KC c,_,I,_,I,_,_,_,_,I,I,Am.of (j _ _ ak),W1 Z Z,d,c,_,I,[dc,j _ _ aa],I,?_];let ei:((i:Int)).toNat=i:=wK i;rw[ei];generalize hR:Rb c (O.getD i 0)=rm at S;let ah:rm=.non\/∃m:Int,rm=.int m:=by rw[<- hR];exact DA c _
  rcases ah with rfl|⟨m,rfl⟩
  .refine[_,I,I,_,I,nF I (Cg ?_)]
   exact[[v,_,_,_,o,I,af,S],j]
  .refine[_,I,I,_,I,nT (λz=>nomatch z) ?_]
   let R:∀(E:Hp) (u:J) ad,Ag H E->E u=U->Fd (Cs F O) 0 U=Fd ((Cs F O).drop (i+1)) ((i:Int)+1) (g (m,(i:Int))) ->
     (∃v A b W o,#[oR p,oR l,oR u,oN i,oR d,ad]=#[oR p,oR l,g v,A,b,W]/\RV (upd E u (.tup #[.int m,.int i])) v o/\Fd (Cs F O) 0 U=Fd ((Cs F O).drop (i+1)) ((i+1:Nat):Int) o)/\Ag H (upd E u (.tup #[.int m,.int i])):=λE u ad s4 C e=>by
    exact[[.ref u,_,_,_,g (m,i),I,[u,I,Ab],by rw[e];rfl],s4.trans (Aa C _)]
   cases o with
   |none=>
    let v0:v=.non:=f;subst v0;refine[_,I,I,_,I,dT I (En ?_)];exact[_,I,_,I,ae,λu C=>R _ u _ j C S]
   |some mj=>
    let[T,j0]:=mj;let[tv,rfl,ac]:=af;refine[_,I,I,_,I,dF (λz=>nomatch z) ?_];refine[_,I,_,I,_,_,_,_,I,I,Bh.of ac,I,_,_,I,I,_,I,Rv (λs=>?_) (λs=>?_)]
    .have B:m<T:=fE s
     let L:Fd (Cs F O) 0 U=Fd ((Cs F O).drop (i+1)) ((i:Int)+1) (if m<T then g (m,(i:Int)) else g (T,j0)):=S;rw[eR B]at L;exact[_,I,_,I,ae,λu C=>R _ u _ j C L]
    .have B:¬m<T:=g0 (ra.mpr s)
     let L:Fd (Cs F O) 0 U=Fd ((Cs F O).drop (i+1)) ((i:Int)+1) (if m<T then g (m,(i:Int)) else g (T,j0)):=S;rw[eQ B]at L;exact[[.ref tv,_,_,_,g (T,j0),I,[tv,I,ac],by rw[L];rfl],j]
 .rintro k M ⟨⟨v,A,b,W,o,rfl,f,S⟩,r⟩
  let lr:(Cs F O).length=xs.length:=by unfold Cs;rw[uL];lia
  rw[<- lr,wg]at S;exact[_,I,q v M r (by rw[S];exact f)]
end
def WK{nx:St->Hp->Prop}(j:St)(e:b=j)(h:nx j H):nx b H:=e▸h
def aJ(O M P N C:J)(H:Hp)(p B ct:J)(cs:List Cl)(ns:List Int):Prop:=dP C H p B/\(∃L,H B=oL L/\cU O M P N H L cs)/\H ct=oL (ns.map V.int)/\ns.length=cs.length/\cs.length<=8
def NF(m:Int)(l:List Int):Prop:=m∈l/\∀k∈l,k<=m
def MC(m:Int)(l:List Int):Prop:=m∈l/\∀k∈l,m<=k
inductive C7(CC CO CL CM C:J)(vs:List V)(H:Hp)(Q:VK):Prop
 |mk (p:_) (cl:_) (ct:_) (cs:_) (ns:_) (k:Int) (z0:vs=#[.ref p,.ref ct,.int k]) (z1:aJ CC CO CL CM C H p cl ct cs ns) (z2:∀r ys H',Ag H H'->H r=U->H' r=oL ys->dI H' ys (Cb k cs ns)->Q (.ref r) H'):C7 CC CO CL CM C vs H Q
def IS(L M O B C:J):Sp:=λN H Q x=>C7 L M O B C N H Q
inductive FN(CC CO CL CM C:J)(vs:List V)(H:Hp)(Q:VK):Prop
 |mk (p:_) (cl:_) (ct:_) (cs:_) (ns:_) (k:Int) (z0:vs=#[.ref p,.ref ct,.int k]) (z1:aJ CC CO CL CM C H p cl ct cs ns) (z2:∀(t:J) (lo hi:Int) (H':Hp),Ag H H'->H' t=oT #[.int lo,.int (if hi>lo then hi else lo)]->NF lo (0::(Cb k cs ns).map (·.1))->MC hi (k::(Cb k cs ns).map (·.2))->Q (.ref t) H'):FN CC CO CL CM C vs H Q
def TJ(L M O B C:J):Sp:=λN H Q x=>FN L M O B C N H Q
inductive GU(CC CO CL CM C:J)(vs:List V)(H:Hp)(Q:VK):Prop
 |mk (p:_) (cl:_) (ct:_) (cs:_) (ns:_) (k:Int) (z0:vs=#[.ref p,.ref ct,.int k]) (z1:aJ CC CO CL CM C H p cl ct cs ns) (z2:∀(r:J) (xs:List V) (ms:List Int) (H':Hp),Ag H H'->H r=U->H' r=oL xs->ms.Pairwise (· < ·)->(∀y,y∈ms↔YG (Cb k cs ns) k y)->ms.length<=20->dB H' xs (CRP.foldP (Cb k cs ns) ms (ms.length-1))->Q (.ref r) H'):GU CC CO CL CM C vs H Q
def MS(L M O B C:J):Sp:=λN H Q x=>GU L M O B C N H Q
section
variable {P:eY} {w:fF} {K:a'} {mg:eU->Option eJ} {base:fK} (d:Pm P w K mg base)
def DP:Jm d 3 Aq "spans" #["self","counts","cents"] (IS Al Al An An Aq):=BR d.z d.oo d.ac.cl #["self","counts","cents"] df λsc H Q r h=>by
 let[p,E,ct,cs,O,k,rfl,[[s,v,e1,l,nm],[xs,S,X],ac,A,l8],q]:=h;refine[_,(Ad (Ar (Fg (NC:=#["k","clause","cents","counts"]) (own:=#["k","clause"]) (cs:=#["cents","counts"]) (ix:=#[2,1]) I (Au.of I) I [[I,.inl I,I],[[I,.inl I,I],trivial]] (Ji I (d.z.nn d.au) (Bz (Bd (pv 0) I))) (λ_ _ _=>(Eb (K:=K) (n:=2) I I (Bf (Oh 0) (Bf (Oh 1) Ds)))) (λ_ _ _=>Ez) (λ_ _ _=>(Kj (WV d) (r.mono Y) (pv 1) (Ca (Nv K (pv 3) (pv 0)) (pv 2))))))),?_];let lx:=X.len;refine[_,I,p,Aq,s,v,_,I,e1,d.ac.cl,d.aq,l,E,I,[_,Am.of S],λb T=>?_];refine Ob (K:=K) (a:=E) (xs:=xs) (λi N j=>dI j N (Cb k (cs.take i) (O.take i))/\j b=oL N/\Ag H j) [trivial,Ab,Aa T _]
  (λi N j _ ⟨e,F,C⟩=>[F,by rw[e.len,Oj (by rw[hQ,hQ,A]),hQ];lia,Am.of (C _ _ S)]) (by rw[ck];lia) (λi x N j t hi ⟨e,F,C⟩ M=>?_) (λN j ⟨e,F,C⟩=>?_)
 .let[o,c,f,rfl,ho]:=X.get hi
  let il:i<cs.length:=(hI.mp f).1;let W:O[i]?=g (O[i]'(Z)):=hD Z;let R:=C.trans (Aa M (.tup #[.int i,.ref o]));let L:=ho.same R;let[m,aa]:=id L;let ab:Wv (O.map V.int) (i:Int)=g (.int (O[i]'(Z))):=Lh (by rw[jk,W];rfl);refine[_,I,o,_,m,_,I,aa,Xp _ _ _ _ c,JJ c,_,I,_,I,_,_,_,_,I,I,Am.of (R _ _ ac),ab,_,I,o,c,_,k,I,L,I,(λu H4 B hu=>[B _ _ (Aa M _ _ _ F),I,?_,Ab,λy ob z=>?_])]
  .rw[K2 f W]
   let h1:=B _ _ (Aa M (.tup #[.int i,.ref o]) _ _ F);exact(((e.mono (Bn (Aa M _))).mono (Bn B)).snoc hu).mono (Ec h1 _)
  .rw[Aj (Af z T)]
   exact B _ _ (R y ob z)
 rw[lx,j',<- A,j']at e;exact q b N j C T F e
def JW:Jm d 4 Aq "window" #["self","counts","cents"] (TJ Al Al An An Aq):=BR d.z d.kz d.ac.cl #["self","counts","cents","spans","lo","hi"] df λn H Q hr h=>by
 let[p,cl,l,cs,ns,k,rfl,CV,q]:=h;refine[_,(Ac (Dp n 3 (Cn (DP d) (hr.mono Y) (pv 0) (Ca (pv 1) (pv 2))))
   (Ac (Dp n 4 (Nu (BB I) d.z d.dz (Bz (As Xo (Bu (Bz Ae)) (Fg (NC:=#["span"]) (own:=#["span"]) (cs:=[]) (ix:=[]) I (Au.of I) I trivial (Jz K (pv 3)) (λ_ _ _=>(Oh 0)) (λ_ _ _=>Ez) (λ_ _ _=>(Ej K (pv 0) Ae)))))))
   (Ac (Dp n 5 (Nu (AL I) d.z d.gb (Bz (As Xo (Bu (Bz (pv 2))) (Fg (NC:=#["span"]) (own:=#["span"]) (cs:=[]) (ix:=[]) I (Au.of I) I trivial (Jz K (pv 3)) (λ_ _ _=>(Oh 0)) (λ_ _ _=>Ez) (λ_ _ _=>(Ej K (pv 0) Ae)))))))
   (Ad (Ar (Bl (Ca (pv 4) (Nu (Ii I) d.z d.dz (Ca (pv 4) (pv 5)))))))))),?_]
 refine Fc λN A=>?_;let E:1<=sizeLine:=by rw[ck];decide
 let aj:2<=sizeLine:=by rw[ck];decide
 let[[dx,fs,e1,fc,nm],_,_,ln,l8]:=id CV;refine[_,I,p,dx,fs,I,e1,nm.1,_,I,_,I,p,cl,l,cs,ns,k,I,CV,λr ys H1 s1 nr M m=>?_];let af:(Cb k cs ns).length<=8:=by rw[Oj ln];exact l8
 generalize Cb k cs ns=T at m q af;let ly:=m.len;refine Gj A #[oR p,oR l,oN k,oR r,U,U] rfl λN A=>?_;refine[E,λR s=>?_];let L:=Aa s (.lst #[V.int 0]);refine[_,I,r,I,[_,Am.of (L _ _ M)],λb B=>?_];let F:upd H1 R (.lst #[V.int 0]) R=oL #[V.int 0]:=Ab;generalize upd H1 R (.lst #[V.int 0])=H2 at L F B;let ac:=L _ _ M;let ab:=m.mono (Bn L);refine Cz (K:=K) (a:=r) (xs:=ys) (λi O W=>O=((T.take i).map (·.1)).map V.int/\W b=oL O/\Ag H2 W) [I,Ab,Aa B _]
  (λi O W _ ⟨e,S,j⟩=>[S,by rw[e,cn,cn,hQ];lia,Am.of (j _ _ ac)]) (by rw[ck];lia) (λi x O W X ⟨e,S,j⟩=>?_) (λO W ⟨e,S,j⟩=>?_)
 .let[t,pp,hp,rfl,ht]:=ab.get X
  refine[_,I,_,_,_,_,I,I,Bh.of (j _ _ ht),I,S,I,?_,Ab,λy o z=>?_]
  .rw[Cd hp,iN,iN,e]
   rfl
  .rw[Aj (Af z B)]
   exact j y o z
 rw[ly,j']at e;subst e;refine[R,b,_,_,I,I,j _ _ F,S,by rw[cn,cn,ck];show 1+_<=_;lia,λc f=>?_];let u:=Aa f (.lst (#[V.int 0]++(T.map (·.1)).map V.int));refine[c,0::T.map (·.1),I,Am.of Ab,zZ,λlo ae ak=>?_];let v:=L.trans (j.trans u);generalize upd W c (.lst (#[V.int 0]++(T.map (·.1)).map V.int))=H4 at v;let aa:=v _ _ M;let ai:=m.mono (Bn v);clear S j u L F ac ab f B s;refine Gj A #[oR p,oR l,oN k,oR r,oN lo,U] rfl λN A=>?_;refine[_,I,E,λR s=>?_];let L:=Aa s (.lst #[V.int k]);refine[_,I,r,I,[_,Am.of (L _ _ aa)],λb B=>?_];let F:upd H4 R (.lst #[V.int k]) R=oL #[V.int k]:=Ab;generalize upd H4 R (.lst #[V.int k])=H5 at L F B;let al:=L _ _ aa;let ag:=ai.mono (Bn L);refine Cz (K:=K) (a:=r) (xs:=ys) (λi O C=>O=((T.take i).map (·.2)).map V.int/\C b=oL O/\Ag H5 C) [I,Ab,Aa B _]
  (λi O C _ ⟨e,S,j⟩=>[S,by rw[e,cn,cn,hQ];lia,Am.of (j _ _ al)]) (by rw[ck];lia) (λi x O C X ⟨e,S,j⟩=>?_) (λO C ⟨e,S,j⟩=>?_)
 .let[t,pp,hp,rfl,ht]:=ag.get X
  refine[_,I,_,_,_,_,I,I,Bh.of (j _ _ ht),I,S,I,?_,Ab,λy o z=>?_]
  .rw[Cd hp,iN,iN,e]
   rfl
  .rw[Aj (Af z B)]
   exact j y o z
 rw[ly,j']at e;subst e;refine[R,b,_,_,I,I,j _ _ F,S,by rw[cn,cn,ck];show 1+_<=_;lia,λc f=>?_];let u:=Aa f (.lst (#[V.int k]++(T.map (·.2)).map V.int));refine[c,k::T.map (·.2),I,Am.of Ab,zZ,λX ah ad=>?_];let S6:=s1.trans (v.trans (L.trans (j.trans u)));generalize upd C c (.lst (#[V.int k]++(T.map (·.2)).map V.int))=H7 at S6;subst A;refine Lf #[oR p,oR l,oN k,oR r,oN lo,oN X] rfl ?_;refine[_,I,_,I,_,I,_,_,I,aj,λt nt=>?_];exact q t lo X _ (S6.trans (Aa nt _)) Ab [ae,ak] [ah,ad]
end
def KP(xs:List V):Mn xs (g 1) U=xs.drop 1:=by
 unfold Mn;rw[HT.sIx_none,show(g (1:Int))=g ((1:Nat):Int) from rfl,HT.sIx_nat];cases xs with
 |nil=>rfl
 |cons x xs=>
  rw[show min 1 (x::xs).length=1 by rw[c_];lia,vw];rw[rx];exact b' _
section
variable {P:eY} {w:fF} {K:a'} {mg:eU->Option eJ} {base:fK}
def Qx:Bg #["self","counts","cents","spans","bounds","told","lo","hi","k"] #["self","counts","cents"] (Ao Ic):=by injections
def Sr(B:Pm P w K mg base){f:J}{fd:m_}(F:cF K "parts" "Cover.parts" Ic f fd):Bp P w K mg base Fv 4 f fd #["self","counts","cents"] (MS Al Al An An Aq):=by
 let sc:=Qx;bv_omega
 .let[_,_,_,_,_,_,rfl,_]:=h
  rfl
 let[p,cl,ct,cs,ns,k,rfl,CV,q]:=h;refine[_,(Ac (Dp sc 3 (Cn (DP B) (hr.mono Y) (pv 0) (Ca (pv 1) (pv 2))))
   (Ac (Dp sc 4 (Do (G3 B) hr (Ca (pv 3) (pv 2))))
   (Ac (Dp sc 5 (Bu Eg))
   (Ac (Cj fH I (GO I (B.z.nn B.ka) (Ca (pv 4) (Ee (Sv (K:=K) I) (pv 4) (Eu Ae) Ey))) (Eb (K:=K) (n:=2) I I (Bf (Gi sc 6) (Bf (Gi sc 7) Ds)))
    (Ac (Dp sc 8 (Do (Ra B) hr (Ca (pv 3) (pv 6))))
   (Ac (Bj (PW.pt (Rj (GR (pv 5)) (Mp (Ay Fe (Ej K (Nv K (pv 5) (Sw Ls Ae)) Ae) (pv 8) (Be _)))))
    (Ad (Dp sc 6 (Ej K (NO fG PySem.F.slot_list_pop PySem.F.type_list_pop OJ (pv 5)) Ae)))
    At)
   (Ad (Bk (Ed (K:=K) I fG gA fZ Dq (pv 5) (Bz (Bl (Ai (pv 6) (Ca (pv 7) (pv 8)))))))))))
   (Ad (Ar (pv 5))))))),?_]
 let N:3<=sizeLine:=by rw[ck];decide
 let[[dx,fs,e1,fc,nm],_,_,ln,l8]:=id CV;refine[_,I,p,dx,fs,I,e1,nm.1,_,I,_,I,p,cl,ct,cs,ns,k,I,CV,(λa ys H1 s1 na ha ps=>?_)];let a9:(Cb k cs ns).length<=8:=by rw[Oj ln];exact l8
 generalize Cb k cs ns=X at ps q a9;let ly:=ps.len;refine[_,I,_,I,a,ys,X,k,I,ha,ps,a9,(λl L j s2 nl hl up c6 c1=>?_)];refine[de _,λr nr=>?_];let c5:=s2 _ _ ha;let c0:=ps.mono (Bn s2);let S2:=s1.trans s2;refine Lf #[oR p,oR ct,oN k,oR a,oR l,oR r,U,U,U] rfl ?_;let t1:=Aa nr (.lst []);refine[_,I,_,I,_,I,l,_,I,(Am.of (t1 _ _ hl)),(λm a3=>?_)];rw[KP,<- List.map_drop];let t2:=Aa a3 (.lst ((L.drop 1).map V.int));let a2:r≠m:=Af Ab a3;let b2:upd (upd j r (.lst [])) m (.lst ((L.drop 1).map V.int)) r=oL []:=by rw[Aj a2,Ab]
 let a6:upd (upd j r (.lst [])) m (.lst ((L.drop 1).map V.int)) m=oL ((L.drop 1).map V.int):=Ab;let s3:=t1.trans t2;let c7:j m=U:=t1.free a3;generalize upd (upd j r (.lst [])) m (.lst ((L.drop 1).map V.int))=H3 at b2 a6 s3;let sm:∀(O:Hp) (o:HO),Ag j O->Ag j (upd O r o):=λO o s4 b u z=>by rw[Aj (Af z nr)];exact s4 b u z
 refine[l,m,I,[_,Am.of (s3 _ _ hl)],[_,Am.of a6],U5 (K:=K) (K':=K) (a:=l) (b:=m) (xs:=L.map V.int) (ys:=(L.drop 1).map V.int)
  (λi σ O=>(∃o6 o7 o8 S,σ=#[oR p,oR ct,oN k,oR a,oR l,oR r,o6,o7,o8]/\O r=oL S/\dB O S (CRP.foldP X L i))/\O m=oL ((L.drop 1).map V.int)/\Ag j O)
  [[U,U,U,[],I,b2,trivial],a6,s3] (λi σ O _ ⟨_,e,s4⟩=>[Am.of (s4 _ _ hl),Am.of e]) ?_ ?_]
 .rintro i x y σ O t hx hy ⟨⟨o6,o7,o8,S,rfl,a4,pk⟩,b0,s4⟩ nt
  rw[jk]at hx hy;let[lo,a7,rfl]:=pe.mp hx;let[R,b8,rfl]:=pe.mp hy;rw[List.getElem?_drop]at b8;let c3:L.getD i 0=lo:=by rw[l_,a7];rfl
  let c2:L.getD (i+1) 0=R:=by rw[l_,show i+1=1+i by lia,b8];rfl
  let W:=CRP.foldP_succ X L i;rw[c3,c2]at W;let il:i<L.length:=(hI.mp a7).1;let lz:=pk.len;let lf:=CRP.foldP_len X L i;let u1:=Aa nt (.tup #[V.int lo,.int R]);let b1:=u1 _ _ a4;let b3:=u1 _ _ b0;let b9:=pk.mono (Bn u1);let s5:=s4.trans u1;generalize upd O t (.tup #[V.int lo,.int R])=H5 at u1 b1 b3 b9 s5;refine WK #[oR p,oR ct,oN k,oR a,oR l,oR r,oN lo,oN R,o8] rfl ?_;refine[_,I,_,I,a,ys,X,lo,I,(s5 _ _ c5),(c0.mono (Bn s5)),Z,(λH6 u2=>?_)];let C:=u2 _ _ b1;let a1:=u2 _ _ b3;let d:=b9.mono (Bn u2);let s6:=s5.trans u2;generalize CRP.fw X lo=kk at W;refine Lf #[oR p,oR ct,oN k,oR a,oR l,oR r,oN lo,oN R,oN kk] rfl ?_;let a5:∀(T:Hp) (vs:List V) (ks:List Tr) (u:J) (M:Int),T r=oL vs->dB T vs ks->T u=U->T m=oL ((L.drop 1).map V.int)->Ag j T->CRP.foldP X L (i+1)=ks++#[(M,R,kk)] ->
    (∃o6 o7 o8 S,#[g (V.ref p),oR ct,oN k,oR a,oR l,oR r,oN M,oN R,oN kk]=#[oR p,oR ct,oN k,oR a,oR l,oR r,o6,o7,o8]/\upd (upd T u (.tup #[.int M,.int R,.int kk])) r (.lst (vs++#[.ref u])) r=oL S/\dB (upd (upd T u (.tup #[.int M,.int R,.int kk])) r (.lst (vs++#[.ref u]))) S (CRP.foldP X L (i+1))) /\
     upd (upd T u (.tup #[.int M,.int R,.int kk])) r (.lst (vs++#[.ref u])) m=oL ((L.drop 1).map V.int)/\Ag j (upd (upd T u (.tup #[.int M,.int R,.int kk])) r (.lst (vs++#[.ref u]))):=λT vs ks u M e1 e2 e3 e4 e5 e6=>by
   let su:=Aa e3 (.tup #[.int M,.int R,.int kk]);refine[[_,_,_,_,I,Ab,?_],by rw[Aj a2.symm];exact su _ _ e4,sm _ _ (e5.trans su)];rw[e6];exact((e2.mono (Bn su)).snoc Ab).mono (Ec (su _ _ e1) _)
  generalize c8:CRP.foldP X L i=ks at d W lz lf;rcases List.eq_nil_or_concat ks with rfl|⟨kr,⟨l0,h0,k0⟩,rfl⟩
  .have c4:S=[]:=pN lz
   subst c4;refine[_,I,_,.inl [[],Am.of C,I],bF I (Cg ?_)];refine[_,I,.inl [I,_,Am.of C],_,I,_,I,_,I,N,λu nu=>?_];exact[r,_,_,I,I,(Aa nu _ _ _ C),(by rw[ck];decide),(a5 H6 [] [] u lo C trivial nu a1 s6 W)]
  .rw[List.concat_eq_append]at d W lz lf
   let[vs,tl,rfl,b7,pv]:=d.last;rw[CRP.stepP_snoc]at W;rw[fy]at lz;let lv:vs.length<=20:=by rw[fy]at lf;let z:vs.length+1=_:=lz;rw[fy]at z;lia
   refine[_,I,_,.inl [_,Am.of C,I],bT zZ ?_];refine[_,I,_,I,_,_,_,_,I,I,Am.of C,FJ _ _,_,_,_,_,I,I,Bh.of b7,I,_,I,I,_,I,Rv (λc=>?_) (λc=>?_)]
   .have c':k0=kk:=V.int.inj (fE c)
    rw[eR c']at W;refine[_,I,.inl [I,_,Am.of C],r,_,.ref tl,I,I,C,zZ,?_];rw[List.dropLast_concat];let t3:II H6 (upd H6 r (.lst vs)):=Ec C _;let a0:=t3 _ _ b7;let b5:=pv.mono t3;let v:upd H6 r (.lst vs) r=oL vs:=Ab;let a8:upd H6 r (.lst vs) m=oL ((L.drop 1).map V.int):=by rw[Aj a2.symm];exact a1
    let s7:=sm H6 (.lst vs) s6;generalize upd H6 r (.lst vs)=T at t3 a0 b5 v a8 s7;refine[_,_,_,_,I,I,Bh.of a0,I,?_];refine Lf #[oR p,oR ct,oN k,oR a,oR l,oR r,oN l0,oN R,oN kk] rfl ?_;refine[_,I,.inl [I,_,Am.of v],_,I,_,I,_,I,N,λu nu=>?_];exact[r,_,_,I,I,(Aa nu _ _ _ v),(by rw[ck];lia),(a5 T vs kr u l0 v b5 nu a8 s7 W)]
   .have c':¬k0=kk:=λz=>c (eT (by rw[z]))
    rw[eQ c']at W;refine[_,I,.inl [I,_,Am.of C],_,I,_,I,_,I,N,λu nu=>?_];exact[r,_,_,I,I,(Aa nu _ _ _ C),(by rw[fy,ck];show vs.length+1<_;lia),(a5 H6 _ _ u lo C d nu a1 s6 W)]
 .rintro σ O ⟨⟨o6,o7,o8,S,rfl,a4,pk⟩,b0,s4⟩
  let le:min (L.map V.int).length ((L.drop 1).map V.int).length=L.length-1:=by rw[cn,cn,rx];lia
  rw[le]at pk;exact[_,I,q r S L O (S2.trans s4) (S2.free nr) a4 up c6 c1 pk]
def QH(B:Pm P w K mg base):Jm B 4 Aq "parts" #["self","counts","cents"] (MS Al Al An An Aq):=BQ B.oq B.ac.cl bd λf C F=>Sr B F
end
abbrev Cv:=J×eU×Bool
def Vv(c:Cv):V:=.ref c.1
def cN(C:J)(H:Hp)(cs:List Cv):Prop:=∀c∈cs,∃L B,H c.1=oI C L B/\B.lookup ("name" : eU)=g (.str c.2.1)/\B.lookup ("waits" : eU)=g (.bl c.2.2)
def cN.same{C:J}{H H':Hp}{cs:List Cv}(h:cN C H cs)(s:Ag H H'):cN C H' cs:=λc j=>by
 let[B,L,e,r]:=h c j;exact[B,L,s _ _ e,r]
def cN.get{C:J}{cs:List Cv}{i:Nat}{x:V}(h:cN C H cs)(e:(cs.map Vv)[i]?=g x):∃c L B,cs[i]?=g c/\x=.ref c.1/\c∈cs/\H c.1=oI C L B/\B.lookup ("name" : eU)=g (.str c.2.1)/\B.lookup ("waits" : eU)=g (.bl c.2.2):=by
 rw[jk]at e;let[c,j,rfl]:=pe.mp e;let m:=kS j;let[L,B,r]:=h c m;exact[c,L,B,j,I,m,r]
def cN.ne{C j:J}{cs:List Cv}{p B:J}(h:cN C H cs)(M:H p=oI j B []):∀c∈cs,c.1≠p:=λc F z=>by
 let[L,N,e,n,_]:=h c F;rw[z,M]at e;injection e with e;injection e with _ _ e;subst e;cases n
def cN.kb{C F:J}{H H':Hp}{cs:List Cv}{p B:J}(h:cN C H cs)(N:H p=oI F B [])(k:KB p H H'):cN C H' cs:=λc j=>by
 let[L,M,e,r]:=h c j;exact[L,M,k _ _ e (h.ne N c j),r]
def XH(cs:List Cv):List Cv:=cs.filter (λc => !c.2.2)++cs.filter (λc=>c.2.2)
structure aN(CB:J)(H:Hp)(p cl ak:J)(cs:List Cv):Prop where
 ob:∃dx fs,H p=oI CB dx fs/\fs.lookup ("covers" : eU)=g (.ref cl)/\fs.lookup ("asking" : eU)=g (.ref ak)/\fs.lookup ("named" : eU)=U
 hc:H cl=oL (cs.map Vv)
 ha:H ak=oL ((XH cs).map Vv)
inductive V6(C CB:J)(vs:List V)(H:Hp)(Q:VK):Prop
 |mk (p:_) (dx:_) (a:_) (cs:_) (z0:vs=#[.ref p,.ref a]) (z1:H p=oI CB dx []) (z2:H a=oL (cs.map Vv)) (z3:cN C H cs) (z4:cs.length<=8) (z5:(cs.map (·.2.1)).Nodup) (z6:∀cl ak H',KB p H H'->aN CB H' p cl ak cs->H cl=U->H ak=U->Q .non H'):V6 C CB vs H Q
def GP(C B:J):Sp:=λL H Q x=>V6 C B L H Q
def Vr{B:Type}{l:List B}{f:B->Bool}{i:Nat}{x:B}(h:l[i]?=g x):(l.take (i+1)).filter f=(l.take i).filter f++if f x=eP then #[x] else []:=by
 rw[Cd h,vf];by_cases c:f x=eP
 .rw[eR c,vm c,q_]
 .rw[eQ c,wT c,q_]
section
variable {P:eY} {w:fF} {K:a'} {mg:eU->Option eJ} {base:fK}
def Op:Bg #["self","covers","names","firm","waiting"] #["self","covers"] (Ao Gn):=by injections
def Ot(O:Pm P w K mg base){f:J}(F:cF K "__init__" "Book.__init__" Gn f fd):Bp P w K mg base Fv 1 f fd #["self","covers"] (GP Aq Cr):=by
 let sc:=Op;bv_omega
 .let[_,_,_,_,rfl,_]:=h
  rfl
 let[p,d,a,cs,rfl,hp,k,ac,l8,nd,q]:=h;let am:cs.length<60:=by lia
 refine[_,(Ac (Bj (Ay Pc (Cw (Dr (K:=K) I) I (O.z.nn O.ax) (show fz _=g (.builtin "len") from rfl) (Bz (pv 1))) (Lb O.z O.ph) (Be _))
    (Ad Fn)
    At)
   (Ac (Ht (NC:=#["cover"]) (own:=#["cover"]) (cs:=[]) (ix:=[]) (j:=2) sc.nd I I I (Au.of I) I trivial (Jz K (pv 1)) (λ_ _ _=>(Oh 0)) (λ_ _ _=>Ez) (λ_ _ _=>(Jt (K:=K) (pv 0) I)))
   (Ac (Bj (Ay Hv (AG (pv 2) I I (O.z.nn O.ax) I (O.z.nn O.tt)) (Cw (Dr (K:=K) I) I (O.z.nn O.ax) (show fz _=g (.builtin "len") from rfl) (Bz (pv 2))) (Be _))
    (Ad Fn)
    At)
   (Ac (Cq (pv 0) (Em (Di (K:=K) I) I (O.z.nn O.bn) (show fz _=g (.type "list") from rfl) (Bz (pv 1))) I)
   (Ac (Ht (NC:=#["cover"]) (own:=#["cover"]) (cs:=[]) (ix:=[]) (j:=3) sc.nd I I I (Au.of I) I trivial (Jz K (pv 1)) (λ_ _ _=>(Oh 0)) (λ_ _ _=>(Hu (Bt (Bm (Jt (K:=K) (pv 0) I))))) (λ_ _ _=>(pv 0)))
   (Ac (Ht (NC:=#["cover"]) (own:=#["cover"]) (cs:=[]) (ix:=[]) (j:=4) sc.nd I I I (Au.of I) I trivial (Jz K (pv 1)) (λ_ _ _=>(Oh 0)) (λ_ _ _=>(Hu (Bm (Jt (K:=K) (pv 0) I)))) (λ_ _ _=>(pv 0)))
   (Ad (Cq (pv 0) (As Xo (pv 3) (pv 4)) I)))))))),?_]
 refine Fc λN L=>?_;let a0:1<=sizeLine:=by rw[ck];decide
 let k0:KB p H H:=λ_ _ e _=>e;let lm:(cs.map Vv).length=cs.length:=cn _;let ar:a≠p:=Br k hp (by intro z;cases z);refine[_,I,a,_,I,(.inl (Am.of k)),_,_,I,I,_,I,?_];refine dF (by rw[lm];lia) ?_;refine Iu L λN L=>?_;refine[_,I,a,I,[_,Am.of k],λn nn=>?_];refine Cz (K:=K) (a:=a) (xs:=cs.map Vv) (λi R X=>R=((cs.take i).map (·.2.1)).map V.str/\X n=oL R/\Ag H X) [I,Ab,Aa nn _]
  (λi R X _ ⟨e,T,C⟩=>[T,by rw[e,cn,cn,hQ];lia,Am.of (C _ _ k)]) (by rw[ck];lia) (λi x R X hi ⟨e,T,C⟩=>?_) (λR X ⟨e,T,C⟩=>?_)
 .let[c,y,r,u,rfl,mc,v,n1,w1]:=ac.get hi
  refine[_,I,c.1,Aq,y,r,_,I,(C _ _ v),O.ac.cl,O.ae,n1,T,I,?_,Ab,(λb o z=>?_)]
  .rw[Cd u,iN,iN,e]
   rfl
  .rw[Aj (Af z nn)]
   exact C b o z
 rw[lm,j']at e;subst e;refine Gj L #[oR p,oR a,oR n,U,U] rfl λN L=>?_;let ag:=C _ _ hp;let ao:=C _ _ k;let k2:KB p H X:=k0.same C;let au:=ac.same C;refine[_,I,n,cs.map (·.2.1),I,Am.of T,by rw[cn];exact am,λm m1 m2=>?_];refine[_,I,n,_,I,(.inl (Am.of T)),_,_,I,I,_,I,?_];let:=m1 nd;refine dF (by rw[cn];lia) ?_;clear m1 m2 this;refine Iu L λN L=>?_;refine[_,I,a,_,I,(.inl (Am.of ao)),(λW ae=>?_)];let s3:=Aa ae (.lst (cs.map Vv));let ad:W≠p:=(Af ag ae).symm;refine[_,I,p,Cr,d,[],I,s3 _ _ ag,O.g7.cl,O.gc,Y,?_];let k3:KB p H (upd (upd X W (.lst (cs.map Vv))) p (.ins Cr d (By "covers" (.ref W) []))):=(k2.same s3).upd _;let e3:upd (upd X W (.lst (cs.map Vv))) p (.ins Cr d (By "covers" (.ref W) [])) p=oI Cr d (By "covers" (.ref W) []):=Ab;let c3:upd (upd X W (.lst (cs.map Vv))) p (.ins Cr d (By "covers" (.ref W) [])) W=oL (cs.map Vv):=by rw[Aj ad,Ab]
 let ap:H W=U:=k2.free ad ae;let S:=ac.kb hp k3;let aa:=k3 _ _ k ar;generalize upd (upd X W (.lst (cs.map Vv))) p (.ins Cr d (By "covers" (.ref W) []))=H3 at k3 e3 c3 S aa;refine Iu L λN L=>?_;refine[_,I,a,I,[_,Am.of aa],λfi af=>?_];refine Cz (K:=K) (a:=a) (xs:=cs.map Vv) (λi R l=>R=((cs.take i).filter (λc => !c.2.2)).map Vv/\l fi=oL R/\Ag H3 l) [I,Ab,Aa af _]
  (λi R l _ ⟨e,T,B⟩=>[T,by rw[e,cn];exact fO (ni _ _) (by rw[hQ];lia),Am.of (B _ _ aa)]) (by rw[ck];lia) (λi x R l hi ⟨e,T,B⟩=>?_) (λR l ⟨e,aq,B⟩=>?_)
 .let[c,y,r,u,rfl,mc,v,n1,w1]:=S.get hi
  refine[_,I,c.1,Aq,y,r,_,I,B _ _ v,O.ac.cl,O.da,w1,_,I,?_];let t:=Vr (f:=λc:Cv => !c.2.2) u;cases cw:c.2.2 with
  |true=>
   refine Cg [I,?_,T,B];rw[t,e,cw];simp
  |false=>
   refine En [_,I,T,I,?_,Ab,λb o z=>?_]
   .rw[t,e,cw]
    simp[Vv]
   .rw[Aj (Af z af)]
    exact B b o z
 rw[lm,j']at e;subst e;refine Gj L #[oR p,oR a,oR n,oR fi,U] rfl λN L=>?_;let ai:=B _ _ aa;let al:=S.same B;refine[_,I,a,I,[_,Am.of ai],λwa aj=>?_];refine Cz (K:=K) (a:=a) (xs:=cs.map Vv) (λi R H5=>R=((cs.take i).filter (λc=>c.2.2)).map Vv/\H5 wa=oL R/\Ag l H5) [I,Ab,Aa aj _]
  (λi R H5 _ ⟨e,T,M⟩=>[T,by rw[e,cn];exact fO (ni _ _) (by rw[hQ];lia),Am.of (M _ _ ai)]) (by rw[ck];lia) (λi x R H5 hi ⟨e,T,M⟩=>?_) (λR H5 ⟨e,an,M⟩=>?_)
 .let[c,y,r,u,rfl,mc,v,n1,w1]:=al.get hi
  refine[_,I,c.1,Aq,y,r,_,I,M _ _ v,O.ac.cl,O.da,w1,_,I,?_];let t:=Vr (f:=λc:Cv=>c.2.2) u;cases cw:c.2.2 with
  |false=>
   refine Cg [I,?_,T,M];rw[t,e,cw];simp
  |true=>
   refine En [_,I,T,I,?_,Ab,λb o z=>?_]
   .rw[t,e,cw]
    simp[Vv]
   .rw[Aj (Af z aj)]
    exact M b o z
 rw[lm,j']at e;subst e;subst L;refine Lf #[oR p,oR a,oR n,oR fi,oR wa] rfl ?_;let as:=M _ _ aq;let e5:=M _ _ (B _ _ e3);let c5:=M _ _ (B _ _ c3);let k5:=(k3.same B).same M;refine[_,I,_,I,fi,wa,_,_,I,I,as,an,?_,(λak ab=>?_)]
 .rw[cn,cn]
  let:=ni (λc:Cv => !c.2.2) cs;let:=ni (λc:Cv=>c.2.2) cs;rw[ck]
  lia
 let ah:ak≠p:=(Af e5 ab).symm;let s6:=Aa ab (.lst ((cs.filter (λc => !c.2.2)).map Vv++(cs.filter (λc=>c.2.2)).map Vv));let g3:(By "covers" (.ref W) []).length<=1:=Gg _ _ _;refine[_,I,p,Cr,d,_,I,(s6 _ _ e5),O.g7.cl,O.gf,(vz g3 Y),?_];refine q W ak _ ((k5.same s6).upd _) [[d,_,Ab,by rw[f1 G,f0],f0,by rw[f1 G,f1 G];rfl],?_,?_] ap (k5.free ah ab)
 .rw[Aj ad]
  exact s6 _ _ c5
 .rw[Aj ah,Ab]
  unfold XH;rw[iN]
def VS(B:Pm P w K mg base):Jk B 1 "Book" Cr #["self","covers"] (GP Aq Cr):=bA B.z B.g7 B.jv bd λf C F=>Ot B F
end
abbrev Od:=List (List Dm×V)
def A6(nm:eU)(k:Int)(y:Dm):List Dm:=#[.inr nm,.inl k,y]
structure cG(CC:J)(H:Hp)(p kp:J)(kvs:Od):Prop where
 ob:∃dx fs,H p=oI CC dx fs/\fs.lookup ("kept" : eU)=g (.ref kp)/\fs.lookup ("have" : eU)=U/\fs.lookup ("add" : eU)=U
 hk:H kp=g (.dT kvs)
def cG.same{H H':Hp}{p j:J}{kvs:Od}(h:cG CC H p j kvs)(s:Ag H H'):cG CC H' p j kvs:=by
 let[[C,L,e,r],B]:=h;exact[[C,L,s _ _ e,r],s _ _ B]
def cG.ne{p B:J}{kvs:Od}(h:cG CC H p B kvs):p≠B:=by
 let[[L,M,e,r],C]:=h;exact Br e C (by intro z;cases z)
def cG.put{p j:J}{kvs:Od}(h:cG CC H p j kvs)(B:Od):cG CC (upd H j (.dT B)) p j B:=by
 let n:=h.ne;let[[C,L,e,r],M]:=h;exact[[C,L,by rw[Aj n];exact e,r],Ab]
def Sc(kvs:Od)(nm:eU)(k:Int)(y:Dm):V:=(Cc kvs (A6 nm k y)).getD (.int 0)
inductive DW(CC:J)(vs:List V)(H:Hp)(Q:VK):Prop
 |mk (p:_) (dx:_) (z0:vs=#[.ref p]) (z1:H p=oI CC dx []) (z2:∀kp H',KB p H H'->cG CC H' p kp []->H kp=U->Q .non H'):DW CC vs H Q
def VC(C:J):Sp:=λB H Q x=>DW C B H Q
inductive Q7(CC:J)(vs:List V)(H:Hp)(Q:VK):Prop
 |mk (p:_) (kp:_) (kvs:_) (nm:_) (k:_) (y:_) (z0:vs=#[.ref p,.str nm,.int k,kV y]) (z1:cG CC H p kp kvs) (z2:∀H',Ag H H'->Q (Sc kvs nm k y) H'):Q7 CC vs H Q
def SC(C:J):Sp:=λB H Q x=>Q7 C B H Q
inductive EH(CC:J)(vs:List V)(H:Hp)(Q:VK):Prop
 |mk (p:_) (kp:_) (kvs:_) (nm:_) (k:_) (y:_) (c n:Int) (z0:vs=#[.ref p,.str nm,.int k,kV y,.int c]) (z1:cG CC H p kp kvs) (z2:Sc kvs nm k y=.int n) (z3:kvs.length<900) (z4:∀H',Ag H H'->Q .non (upd H' kp (.dT (Ck kvs (A6 nm k y) (.int (n+c)))))):EH CC vs H Q
def UU(C:J):Sp:=λB H Q x=>EH C B H Q
section
variable {P:eY} {w:fF} {K:a'} {mg:eU->Option eJ} {base:fK} (a:Pm P w K mg base)
def IZ:Jk a 1 "Counts" Aw #["self"] (VC Aw):=SW a.z a.ce a.jb #["self"] df λR H Q O h=>by
 let[p,C,rfl,B,q]:=h;refine[_,(Ad (Cq (pv 0) HB I)),?_];intro F j;let L:=Aa j (.dT []);let N:F≠p:=(Af B j).symm;let M:KB p H H:=λx x e x=>e;refine[_,I,p,Aw,C,[],I,L _ _ B,a.ce.cl,a.dh,Y,?_];refine q F _ ((M.same L).upd _) [[C,_,Ab,f0,by rw[f1 G];rfl,by rw[f1 G];rfl],?_] j;rw[Aj N,Ab]
def MY:Jm a 1 Aw "have" #["self","name","k","key"] (SC Aw):=BR a.z a.ot a.ce.cl #["self","name","k","key"] df λA H Q T h=>by
 let[p,M,N,O,k,y,rfl,S,q]:=h;let j:=Gq T;refine[_,(Ad (Ar (Mo j (Bd (pv 0) I) (Bl (Ai (pv 1) (Ca (pv 2) (pv 3)))) Ae [I,I,I,I]))),?_];let[[W,X,R,C,_,_],F]:=S;refine[_,I,p,Aw,W,X,_,I,R,a.ce.cl,a.dh,C,M,I,.inr [N,.inl F],_,I,_,I,_,I,Ax (by show 3<=1000;decide),λt B=>?_];let L:=Aa B (.tup #[V.str O,.int k,kV y]);exact[_,cD.t (k:=A6 O k y) (L _ _ F) Ab,q _ L]
def aQ:Jm a 2 Aw "add" #["self","name","k","key","cents"] (UU Aw):=BR a.z a.qr a.ce.cl #["self","name","k","key","cents"] df λf H Q T h=>by
 let[p,S,O,N,k,y,c,n,rfl,L,b,d,q]:=h;let j:=Gq T;refine[_,(Ad (Fs j (Bd (pv 0) I) (Bl (Ai (pv 1) (Ca (pv 2) (pv 3)))) (As Co (Cn (MY a) (T.mono Y) (pv 0) (Ai (pv 1) (Ca (pv 2) (pv 3)))) (pv 4)) I)),?_];let[[W,X,R,B,A,o],M]:=id L;refine[_,I,p,W,X,I,R,A,_,I,_,I,_,I,p,S,O,N,k,y,I,L,(λl F=>?_)];rw[b];refine[_,I,_,_,I,I,?_];refine[_,I,p,Aw,W,X,_,I,F _ _ R,a.ce.cl,a.dh,B,_,I,_,I,_,I,Ax (by show 3<=1000;decide),λt E=>?_];let C:=Aa E (.tup #[V.str N,.int k,kV y]);exact[S,_,I,(cM.t (k:=A6 N k y) (C _ _ (F _ _ M)) Ab (by rw[ck];lia)),(q _ (F.trans C))]
end
structure LF where
 n:Int
 d:Int
 ev:eU
 th:eU
 ca:eU
 ct:Int
def LF.vs(z:LF):List V:=#[.int z.n,.int z.d,.str z.ev,.str z.th,.str z.ca,.int z.ct]
def LF.ls(z:LF):LS:=[z.d,z.th,z.ca,z.ct]
def UD{H:Hp}{l:J}{z:LF}(h:H l=oT z.vs):VD H l z.ls:=[z.ev,z.n,h]
structure Nt where
 p:J
 nm:eU
 t:JL
 cs:List Cl
 wt:Bool
def xV(x:Nt):V:=.ref x.p
def cH(O:A8)(R T W P C:J)(H:Hp)(x:Nt):Prop:=∃Q B N M L,H x.p=oI C Q B/\B.lookup ("name" : eU)=g (.str x.nm)/\B.lookup ("condition" : eU)=g N/\B.lookup ("clauses" : eU)=g (.ref M)/\B.lookup ("waits" : eU)=g (.bl x.wt)/\dE B /\
 dA O H N x.t/\H M=oL L/\cU R T W P H L x.cs/\x.cs.length<=8
def cH.same{S L F j C:J}{H H':Hp}{x:Nt}(h:cH b S L F j C H x)(s:Ag H H'):cH b S L F j C H' x:=by
 let[W,X,B,A,P,e,K,E,M,T,c,Q,N,O,R]:=h;exact[W,X,B,A,P,s _ _ e,K,E,M,T,c,dA.same s _ Q,s _ _ N,O.mono (Sz s),R]
def Qe(y:eU)(z:LF):Dm:=if y="event" then .inr z.ev else if y="thing" then .inr z.th else if y="year" then .inl (z.d/365) else .inl z.n
def HK(y:eU)(z:LF):IV y z.n z.d z.ev z.th=kV (Qe y z):=by
 unfold IV Qe;by_cases L:y="event"
 .rw[eR L,eR L];rfl
 rw[eQ L,eQ L];by_cases j:y="thing"
 .rw[eR j,eR j];rfl
 rw[eQ j,eQ j];by_cases F:y="year"
 .rw[eR F,eR F];rfl
 rw[eQ F,eQ F];rfl
def cQ(kvs:Od):Prop:=∀k v,Cc kvs k=g v->∃n:Int,v=.int n
def cQ.have{kvs:Od}(h:cQ kvs)(nm:eU)(k:Int)(y:Dm):∃n:Int,Sc kvs nm k y=.int n:=by
 unfold Sc;cases z:Cc kvs (A6 nm k y)with
 |none=>exact[0,I]
 |some v=>
  let[n,rfl]:=h _ _ z;exact[n,I]
def U2:V->Int
 |.int n=>n
 |_=>0
def Ml(kvs:Od)(nm:eU)(z:LF)(cs:List Cl)(i:Nat):List Int:=(kw i).map λ(j:Nat)=>U2 (Sc kvs nm (j:Int) (Qe ((cs[j]?).getD (.any "")).way z))
def numsOf(kvs:Od)(z:LF)(x:Nt):List Int:=Ml kvs x.nm z x.cs x.cs.length
def C2(kvs:Od)(z:LF)(x:Nt):(numsOf kvs z x).length=x.cs.length:=by unfold numsOf Ml;rw[cn,u4]
inductive W6(κ:A8)(CC CO CL CM C:J)(m:Nat)(vs:List V)(H:Hp)(Q:VK):Prop
 |mk (x:_) (l:_) (z:LF) (z0:vs=#[.ref x.p,.ref l]) (z1:cH κ CC CO CL CM C H x) (z2:SQ x.t<m) (z3:H l=oT z.vs) (z4:Q (.bl (hT x.t z.ls)) H):W6 κ CC CO CL CM C m vs H Q
def HQ(B:A8)(M N P L C:J)(m:Nat):Sp:=λO H Q x=>W6 B M N P L C m O H Q
inductive Q1(κ:A8)(CC CO CL CM C CN:J)(vs:List V)(H:Hp)(Q:VK):Prop
 |mk (x:_) (cp:_) (kp:_) (kvs:_) (l:_) (z:_) (z0:vs=#[.ref x.p,.ref cp,.ref l]) (z1:cH κ CC CO CL CM C H x) (z2:cG CN H cp kp kvs) (z3:cQ kvs) (z4:H l=oT (LF.vs z)) (z5:∀r H',Ag H H'->H r=U->H' r=oL ((numsOf kvs z x).map V.int)->Q (.ref r) H'):Q1 κ CC CO CL CM C CN vs H Q
def PV(B:A8)(M N R L C P:J):Sp:=λO H Q x=>Q1 B M N R L C P O H Q
def Pr(M:A8)(P Q T N C R:J)(H:Hp)(b:J)(bs:List Nt):Prop:=∃O L B,H b=oI R O L/\L.lookup ("asking" : eU)=g (.ref B)/\H B=oL (bs.map xV)/\∀x∈bs,cH M P Q T N C H x
def Hf(z:LF)(bs:List Nt):List Nt:=bs.filter λx=>hT x.t z.ls
inductive C6(κ:A8)(CC CO CL CM C CB:J)(m:Nat)(vs:List V)(H:Hp)(Q:VK):Prop
 |mk (b:_) (l:_) (bs:_) (z:_) (z0:vs=#[.ref b,.ref l]) (z1:Pr κ CC CO CL CM C CB H b bs) (z2:(∀x∈bs,SQ x.t<m)) (z3:bs.length<=60) (z4:H l=oT (LF.vs z)) (z5:∀r H',Ag H H'->H r=U->H' r=oL ((Hf z bs).map xV)->Q (.ref r) H'):C6 κ CC CO CL CM C CB m vs H Q
def JX(B:A8)(M N R L C O:J)(m:Nat):Sp:=λP H Q x=>C6 B M N R L C O m P H Q
section
variable {P:eY} {w:fF} {K:a'} {mg:eU->Option eJ} {base:fK} (d:Pm P w K mg base)
def Uc:Bg #["self","loss"] #["self","loss"] (Ao Jl):=by injections
def Ui(d:Pm P w K mg base){f}{N}(F:cF K "asks" "Cover.asks" Jl f N){m:Nat}(M9:OX P w K mg base m (A8.Fam (A8.mk Ba)) "holds" #["self","loss"] (Qn (A8.mk Ba) m)):Bp P w K mg base Fv (m+1) f N #["self","loss"] (HQ (A8.mk Ba) Al Al An An Aq m):=by
 let sc:=Uc;bv_omega
 .let[_,_,_,rfl,_]:=h
  rfl
 let[x,l,z,rfl,[R,T,o,p,b,e,r,W,c,k,t,j,_],B,X,q]:=h;refine[_,(Ad (Ar (Kj M9 (hr.mono zY) (Bd (pv 0) I) (Bz (pv 1))))),?_];let[L,C,O,rfl,S,M,_]:=j.obj;exact[_,I,x.p,Aq,R,T,_,I,e,d.ac.cl,d.dq,W,L,_,C,O,I,S,A8.fam _ x.t,M,_,I,L,x.t,l,z.ls,I,j,I,B,UD X,q]
def VP:Jm d 5 Aq "asks" #["self","loss"] (HQ (A8.mk Ba) Al Al An An Aq 4):=BQ d.qp d.ac.cl bd λf B F=>Ui d F (M9 d 4)
def Pn:Jc d 3 "numbers_of" #["cover","counts","loss"] (PV (A8.mk Ba) Al Al An An Aq Aw):=Iw d.z d.qb #["cover","counts","loss"] df λsc H Q p h=>by
 let[x,X,kp,N,l,z,rfl,cx,ct,iv,hl,q]:=h;refine[_,(Ad (Ar (Fg (NC:=#["k","clause","counts","cover","loss"]) (own:=#["k","clause"]) (cs:=#["counts","cover","loss"]) (ix:=#[1,0,2]) I (Au.of I) I [[I,.inl I,I],[[I,.inl I,I],[[I,.inl I,I],trivial]]] (Ji I (d.z.nn d.au) (Bz (Bd (pv 0) I))) (λ_ _ _=>(Eb (K:=K) (n:=2) I I (Bf (Oh 0) (Bf (Oh 1) Ds)))) (λ_ _ _=>Ez) (λ_ _ _=>(Cn (MY d) (p.mono Y) (pv 2) (Ai (Jt (K:=K) (pv 3) I) (Ca (pv 0) (Kj (TR d) (p.mono Y) (pv 1) (Bz (pv 4)))))))))),?_];let[r,W,cv,E,xs,e,a1,a2,a3,a4,a5,a6,S,k,l8]:=id cx;let lx:=k.len;refine[_,I,x.p,Aq,r,W,_,I,e,d.ac.cl,d.aq,a3,E,I,[_,Am.of S],λb T=>?_];refine Ob (K:=K) (a:=E) (xs:=xs) (λi R j=>R=(Ml N x.nm z x.cs i).map V.int/\j b=oL R/\Ag H j) [I,Ab,Aa T _]
  (λi R j _ ⟨e,B,M⟩=>[B,by rw[e,cn];unfold Ml;rw[cn,u4];exact b' _,Am.of (M _ _ S)]) (by rw[ck];lia) (λi v R j t hi ⟨C,B,M⟩ A=>?_) (λR j ⟨C,B,M⟩=>?_)
 .let[o,c,hc,rfl,ho]:=k.get hi
  let O:=M.trans (Aa A (.tup #[.int i,.ref o]));let F:=ho.same O;let[m,aa]:=id F;let L:=ct.same O;let[[dc,u,ab,b1,b2,b3],_]:=id L;let[n,f]:=iv.have x.nm (i:Int) (Qe c.way z);refine[_,I,X,dc,u,I,ab,b2,_,I,x.p,Aq,r,W,_,I,O _ _ e,d.ac.cl,d.ae,a1,_,I,_,I,o,_,m,_,I,aa,Xp _ _ _ _ c,FR c,_,I,o,c,l,z.ev,z.th,z.ca,z.n,z.d,z.ct,I,F,I,O _ _ hl,X,kp,N,x.nm,(i:Int),Qe c.way z,by rw[HK];rfl,L,λH4 s=>?_];rw[f];refine[s _ _ (Aa A _ _ _ B),I,?_,Ab,λy ob w=>?_]
  .have em:Ml N x.nm z x.cs (i+1)=Ml N x.nm z x.cs i++#[n]:=by
    unfold Ml;rw[pR,iN];simp[hc,f,U2]
   rw[em,iN,C];rfl
  .rw[Aj (Af w T)]
   exact s _ _ (O y ob w)
 rw[lx]at C;subst C;exact q b j M T B
def Vo:Jc d 6 "asked_of" #["book","loss"] (JX (A8.mk Ba) Al Al An An Aq Cr 4):=Iw d.z d.sw #["book","loss"] df λsc H Q p h=>by
 let[b,l,N,z,rfl,[t,u,B,e,a1,S,T],n,aa,m,q]:=h;refine[_,(Ad (Ar (Fg (NC:=#["cover","loss"]) (own:=#["cover"]) (cs:=#["loss"]) (ix:=#[1]) I (Au.of I) I [[I,.inl I,I],trivial] (Jz K (Bd (pv 0) I)) (λ_ _ _=>(Oh 0)) (λ_ _ _=>(Hu (Bm (Cn (VP d) (p.mono Y) (pv 0) (Bz (pv 1)))))) (λ_ _ _=>(pv 0))))),?_];let s:(N.map xV).length=N.length:=cn _;refine[_,I,b,Cr,t,u,_,I,e,d.g7.cl,d.gf,a1,B,I,[_,Am.of S],λr C=>?_];refine Cz (K:=K) (a:=B) (xs:=N.map xV) (λi R L=>R=((N.take i).filter λx=>hT x.t z.ls).map xV/\L r=oL R/\Ag H L) [I,Ab,Aa C _]
  (λi R L _ ⟨F,O,j⟩=>[O,by rw[F,cn];exact fO (ni _ _) (by rw[hQ];lia),Am.of (j _ _ S)]) (by rw[ck];lia) (λi v R L f ⟨F,O,j⟩=>?_) (λR L ⟨F,O,j⟩=>?_)
 .rw[jk]at f
  let[x,A,rfl]:=pe.mp f;let W:=kS A;let X:=(T x W).same j;let[d2,f2,_,_,_,k,_,_,_,_,y,_]:=id X;refine[_,I,x.p,d2,f2,I,k,y.1,_,I,x,l,z,I,X,n x W,j _ _ m,_,I,?_];let E:(N.take (i+1)).filter (λx=>hT x.t z.ls)=(N.take i).filter (λx=>hT x.t z.ls)++if hT x.t z.ls=eP then #[x] else []:=by
   rw[Cd A,vf];by_cases c:hT x.t z.ls=eP
   .rw[eR c,vm (by exact c),q_]
   .rw[eQ c,wT (by exact c),q_]
  cases M:hT x.t z.ls with
  |false=>
   refine Cg [I,?_,O,j];rw[E,F,M];simp
  |true=>
   refine En [_,I,O,I,?_,Ab,λb o w=>?_]
   .rw[E,F,M]
    simp
   .rw[Aj (Af w C)]
    exact j b o w
 rw[s,j']at F;subst F;exact q r L j C O
end
def DC(k:Int)(cs:List Cl)(ns:List Int)(W:Int×Int):Prop:=∃B C:Int,NF B (0::(Cb k cs ns).map (·.1))/\MC C (k::(Cb k cs ns).map (·.2))/\W=(B,if C>B then C else B)
def Cy(cs:List Cl)(ns:List Int):Option (Int×Int):=Fd (Cs cs ns) 0 U
inductive R5(κ:A8)(CC CO CL CM C:J)(vs:List V)(H:Hp)(Q:VK):Prop
 |mk (x:_) (ct:_) (u:_) (un:_) (ns:_) (k:Int) (z0:vs=#[.ref x.p,.ref ct,.int k,.ref u]) (z1:cH κ CC CO CL CM C H x) (z2:H ct=oL (iF V.int ns)) (z3:ns.length=x.cs.length) (z4:LP H u un) (z5:un.length<=1000) (z6:∀r W H',Ag H H'->H r=U->DC k x.cs ns W->LP H' r (CRT.payW (x.nm,W,(Cy x.cs ns).map (·.1)) un)->Q (.ref r) H'):R5 κ CC CO CL CM C vs H Q
def PF(B:A8)(M N P L C:J):Sp:=λO H Q x=>R5 B M N P L C O H Q
section
variable {P:eY} {w:fF} {K:a'} {mg:eU->Option eJ} {base:fK}
def K9(O:Pm P w K mg base):Jc O 5 "paid_runs" #["cover","numbers","cents","unpaid"] (PF (A8.mk Ba) Al Al An An Aq):=Iw O.z O.rn #["cover","numbers","cents","unpaid","window","rest","most"] df λo H Q b h=>by
 let[x,M,u,A,E,k,rfl,cx,ac,ln,lu,l9,q]:=h;refine[_,(Ac (Dp o 4 (Cn (JW O) (b.mono Y) (pv 0) (Ca (pv 1) (pv 2))))
   (Ac (Dp o 5 (Cn (MW O) (b.mono Y) (pv 0) (Bz (pv 1))))
   (Ac (Dp o 6 (Kp (Ay Oo (pv 5) Fh (Be _)) Fh (Ej K (pv 5) Ae)))
   (Ad (Ar (Do (P1 O) b (Ca (Do (Pg O) b (Ai (pv 3) (Ca (Ej K (pv 4) Ae) (Ej K (pv 4) Ae)))) (pv 6)))))))),?_]
 refine Fc λN S=>?_;let[z,f,cv,p,xs,e,a1,a2,a3,a4,m,a6,aa,cc,l8]:=id cx;let ab:dP Aq H x.p p:=[z,f,e,a3,m.2];refine[_,I,x.p,z,f,I,e,m.2.2.1,_,I,_,I,x.p,p,M,x.cs,E,k,I,[ab,[xs,aa,cc],ac,ln,l8],(λt R X H1 B ht mx mn=>?_)];refine Gj S #[oR x.p,oR M,oN k,oR u,oR t,U,U] rfl λN S=>?_;refine[_,I,x.p,z,f,I,B _ _ e,m.2.2.2.2,_,I,x.p,p,M,xs,x.cs,E,I,ab.same B,B _ _ aa,cc.mono (Sz B),B _ _ ac,ln,λv H2 s2 d=>?_];refine Gj S #[oR x.p,oR M,oN k,oR u,oR t,g v,U] rfl λN S=>?_;let F:=s2 _ _ ht;let W:=B.trans s2;let C:LP H2 u A:=LP.same W lu;let wa:DC k x.cs E (R,if X>R then X else R):=[R,X,mx,mn,I];let lc:=CR.cutW_len A R (if X>R then X else R);cases c:Fd (Cs x.cs E) 0 U with
 |none=>
  rw[c]at d;let ae:v=.non:=d;subst ae;refine[_,I,I,_,I,dT I ?_];subst S;refine Lf #[oR x.p,oR M,oN k,oR u,oR t,g .non,g .non] rfl ?_;refine[_,I,_,I,_,_,_,_,I,I,Bh.of F,I,_,I,_,_,_,_,I,I,Bh.of F,I,u,A,R,_,I,C,l9,(λr1 H3 T af l=>[_,I,.inr [r1,_,I,l,(λr a i s L=>?_)]])];refine q r _ a (W.trans (T.trans i)) (W.free (T.free s)) wa ?_;unfold Cy;rw[c];exact L
 |some nj=>
  let[n,j]:=nj;rw[c]at d;let[t2,rfl,ad]:=d;refine[_,I,I,_,I,dF (λy=>by cases y) [_,I,_,_,_,_,I,I,Bh.of ad,I,?_]];subst S;refine Lf #[oR x.p,oR M,oN k,oR u,oR t,oR t2,oN n] rfl ?_;refine[_,I,_,I,_,_,_,_,I,I,Bh.of F,I,_,I,_,_,_,_,I,I,Bh.of F,I,u,A,R,_,I,C,l9,(λr1 H3 T af l=>[_,I,.inl [r1,_,n,I,l,zY,(λr a i s L=>?_)]])];refine q r _ a (W.trans (T.trans i)) (W.free (T.free s)) wa ?_;unfold Cy;rw[c];exact L
end
abbrev AB:=CRT.Sx eU
def FZ(s:AB):List V:=#[.int s.1,.int s.2.1,.str s.2.2.1,.int s.2.2.2]
def cK(H:Hp):List V->List AB->Prop
 |[],[]=>True
 |x::C,p::B=>(∃t,x=.ref t/\H t=oT (FZ p))/\cK H C B
 |_,_=>False
theorem cK.len:∀{xs} {ps},cK H xs ps->xs.length=ps.length
 |[],[],_=>rfl
 |[],_::_,h=>h.elim
 |_::_,[],h=>h.elim
 |x::xs,p::ps,h=>by rw[c_,c_,cK.len h.2]
theorem cK.mono{H H':Hp}(s:II H H'):∀{xs} {ps},cK H xs ps->cK H' xs ps
 |[],[],_=>trivial
 |[],_::_,h=>h.elim
 |_::_,[],h=>h.elim
 |x::xs,p::ps,[[t,e,h],r]=>[[t,e,s _ _ h],cK.mono s r]
theorem cK.app:∀{xs} {ps} {ys} {qs},cK H xs ps->cK H ys qs->cK H (xs++ys) (ps++qs)
 |[],[],_,_,_,h=>h
 |[],_::_,_,_,r,_=>r.elim
 |_::_,[],_,_,r,_=>r.elim
 |x::xs,p::ps,_,_,[z,r],h=>[z,cK.app r h]
def cK.one{t:J}{p:AB}(h:H t=oT (FZ p)):cK H #[.ref t] #[p]:=[[t,I,h],trivial]
theorem cK.get:∀{xs} {ps} {i:Nat} {x},cK H xs ps->xs[i]?=g x->∃t p,ps[i]?=g p/\x=.ref t/\H t=oT (FZ p)
 |[],[],_,_,_,e=>by simp at e
 |[],_::_,_,_,h,_=>h.elim
 |_::_,[],_,_,h,_=>h.elim
 |x::xs,p::ps,0,y,[[t,e,h],r],q=>by
  simp at q;subst q;exact[t,p,I,e,h]
 |x::xs,p::ps,i+1,y,[_,r],q=>by
  let[t,j,B,F]:=cK.get (i:=i) r (by simpa using q);exact[t,j,by simpa using B,F]
def Zr{nm:eU}{k:Int}{ps:List CR.Rn}{i:Nat}{p:CR.Rn}(h:ps[i]?=g p):CRT.tag nm k (ps.take (i+1))=CRT.tag nm k (ps.take i)++#[(p.1,p.2,nm,k)]:=by
 unfold CRT.tag;rw[Cd h,iN];rfl
def JP{k:Int}(k0:0<=k)(c:Cl)(n:Int):(0<=UW c n k/\UW c n k<=k)/\0<=SZ c n k/\SZ c n k<=k:=by
 cases c with
 |lim y m=>exact[[iH _,k0],k0,iH _]
 |any y=>exact[[iH _,k0],k0,iH _]
theorem A0{k:Int}(k0:0<=k):∀(cs:List Cl) (ns:List Int),∀p∈Cb k cs ns,(0<=p.1/\p.1<=k)/\0<=p.2/\p.2<=k
 |[],_,p,h=>by unfold Cb at h;simp at h
 |_::_,[],p,h=>by unfold Cb at h;simp at h
 |c::cs,n::ns,p,h=>by
  unfold Cb at h;rw[wW]at h;rcases cr.mp h with z|z
  .rw[z];exact JP k0 c n
  .exact A0 k0 cs ns p z
def HW{k:Int}(k0:0<=k){sp:List (Int×Int)}(bd:∀p∈sp,(0<=p.1/\p.1<=k)/\0<=p.2/\p.2<=k){M:List Int}(P:M.Pairwise (· < ·))(N:∀y,y∈M↔YG sp k y):CRP.Ch (CRP.fw sp) 0 U (CRP.foldP sp M (M.length-1)) k:=by
 let L:∀y∈M,∃j,j<M.length/\M.getD j 0=y:=λy Q=>by
  let[j,S,e]:=pb Q;exact[j,S,by rw[l_,hD S];exact e]
 let F:∀j,j<M.length->0<=M.getD j 0/\M.getD j 0<=k:=λj S=>by
  let m:M.getD j 0∈M:=by
   rw[l_,hD S];exact vk S
  rcases (N _).mp m with z|z|⟨p,O,z|z⟩
  .rw[z];exact[iH _,k0]
  .rw[z];exact[k0,iH _]
  .rw[z];exact(bd p O).1
  .rw[z];exact(bd p O).2
 let[B,W,C]:=L 0 ((N 0).mpr (.inl I));let[H,A,X]:=L k ((N k).mpr (.inr (.inl I)));let R:M.getD 0 0=0:=by
  rcases vR B with z|z
  .rw[z]at C;exact C
  .have:=CRP.get_lt P z W
   let:=F 0 Z
   lia
 let T:M.getD (M.length-1) 0=k:=by
  by_cases z:H=M.length-1
  .rw[<- z];exact X
  .have:=CRP.get_lt P (show H<M.length-1 by lia) Z
   let:=F (M.length-1) Z
   lia
 let c:=CRP.fold_ch P (sp:=sp) (λp O=>[(N _).mpr (.inr (.inr [p,O,.inl I])),(N _).mpr (.inr (.inr [p,O,.inr I]))]) (M.length-1) Z R;rw[T]at c;exact c
def I0(B:Option (Int×Int))(k:Int):Int:=match B with
 |none=>k
 |some (_,j)=>if k = -1 then j else k
def O6{nm:eU}{B:Int->Int}{C:List CR.Rn}{ps:List CRP.Tr3}{i:Nat}{p:CRP.Tr3}(h:ps[i]?=g p):CRT.borneS nm B (ps.take (i+1)) C=CRT.borneS nm B (ps.take i) C++CRT.tag nm (B p.2.2) (CR.cutW C p.1 p.2.1):=by
 unfold CRT.borneS;rw[Cd h,iN,uO];simp
def CZ{C}{i:Nat}{L}{D}{B}{H}(v:V)(h:∀j:VK,j v H->C B H j)(k:L D (B.set i (g v)) H):GZ (P6 C (Dx i)) L D B H:=h _ k
inductive Zl(κ:A8)(CC CO CL CM C:J)(vs:List V)(H:Hp)(Q:VK):Prop
 |mk (x:_) (ct:_) (u:_) (un:_) (ns:_) (k:Int) (z0:vs=#[.ref x.p,.ref ct,.int k,.ref u]) (z1:cH κ CC CO CL CM C H x) (z2:H ct=oL (iF V.int ns)) (z3:ns.length=x.cs.length) (z4:LP H u un) (z5:un.length<=60) (z6:0<=k) (z7:∀r ys parts H',Ag H H'->H r=U->H' r=oL ys->CRP.Ch (CRP.fw (Cb k x.cs ns)) 0 U parts k->parts.length<=20->cK H' ys (CRT.borneS x.nm (I0 (Cy x.cs ns)) parts un)->ys.length<=1200->Q (.ref r) H'):Zl κ CC CO CL CM C vs H Q
def KI(B:A8)(M N P L C:J):Sp:=λO H Q x=>Zl B M N P L C O H Q
section
variable {P:eY} {w:fF} {K:a'} {mg:eU->Option eJ} {base:fK}
def Tu(B:Pm P w K mg base):Jc B 5 "borne_strips" #["cover","numbers","cents","unpaid"] (KI (A8.mk Ba) Al Al An An Aq):=Iw B.z B.kj #["cover","numbers","cents","unpaid","rest","strips","lo","hi","k","clause"] df λm H Q hr h=>by
 let[x,ct,u,S,O,k,rfl,cx,b0,ln,lu,c9,k0,q]:=h;refine[_,(Ac (Dp m 4 (Cn (MW B) (hr.mono Y) (pv 0) (Bz (pv 1))))
   (Ac (Dp m 5 (Bu Eg))
   (Ac (Cj fH I (Jz K (Cn (QH B) (hr.mono Y) (pv 0) (Ca (pv 1) (pv 2)))) (Eb (K:=K) (n:=3) I I (Bf (Gi m 6) (Bf (Gi m 7) (Bf (Gi m 8) Ds))))
    (Ac (Yn (i:=9) m.nd I (Or.inr I) (Kp (PW.pt (Rj (Ay Fe (pv 8) (Sw Ls Ae) (Be _)) (Mp (Ay Xi (pv 4) Fh (Be _))))) (Ej K (pv 4) Ae) (pv 8)))
   (Ad (Bk (Ed (K:=K) I fG gX gW Io (pv 5) (Bz (Fg (NC:=#["run","clause","cover"]) (own:=#["run"]) (cs:=#["clause","cover"]) (ix:=#[9,0]) I (Au.of I) I [[I,.inl I,I],[[I,.inl I,I],trivial]] (Jz K (Do (Pg B) hr (Ai (pv 3) (Ca (pv 6) (pv 7))))) (λ_ _ _=>(Oh 0)) (λ_ _ _=>Ez) (λ_ _ _=>(Bl (Ai (Ej K (pv 0) Ae) (Ai (Ej K (pv 0) Ae) (Ca (Jt (K:=K) (pv 2) I) (pv 1)))))))))))))
   (Ad (Ar (pv 5)))))),?_]
 refine Fc λN eN=>?_;let[dx,fs,cv,cl,xs,e,a1,a2,a3,a4,n5,a6,b2,cc,l8]:=id cx;let a8:dP Aq H x.p cl:=[dx,fs,e,a3,n5.2];refine[_,I,x.p,dx,fs,I,e,n5.2.2.2.2,_,I,x.p,cl,ct,xs,x.cs,O,I,a8,b2,cc,b0,ln,λv H1 s1 rv=>?_];refine Gj eN #[oR x.p,oR ct,oN k,oR u,g v,U,U,U,U,U] rfl λN eN=>?_;refine[de _,λM d=>?_];let l:=s1.trans (Aa d (.lst []));let a5:=rv.same (Aa d (.lst []));let r:upd H1 M (.lst []) M=oL []:=Ab;let X:=s1.free d;generalize upd H1 M (.lst [])=H2 at l a5 r;refine Gj eN #[oR x.p,oR ct,oN k,oR u,g v,oR M,U,U,U,U] rfl λN eN=>?_;refine[_,I,x.p,dx,fs,I,l _ _ e,n5.2.2.2.1,_,I,_,I,x.p,cl,ct,x.cs,O,k,I,[a8.same l,[xs,l _ _ b2,cc.mono (Sz l)],l _ _ b0,ln,l8],(λpl c8 ms H3 s3 c4 b7 up c2 d0 tr=>?_)];let ch:=HW k0 (A0 k0 x.cs O) up c2;let a0:(CRP.foldP (Cb k x.cs O) ms (ms.length-1)).length<=20:=fO (CRP.foldP_len _ _ _) Z;generalize CRP.foldP (Cb k x.cs O) ms (ms.length-1)=L at tr ch a0;let b8:=tr.len;let S3:=l.trans s3;let A:=a5.same s3;let F:=s3 _ _ r;let a9:pl≠M:=(Af r c4).symm;refine[pl,I,[_,Am.of b7],?_];refine Fq (K:=K) (a:=pl) (xs:=c8) (λi σ W=>(∃o6 o7 o8 o9,σ=#[oR x.p,oR ct,oN k,oR u,g v,oR M,o6,o7,o8,o9])/\(∃s,W M=oL s/\cK W s (CRT.borneS x.nm (I0 (Cy x.cs O)) (L.take i) S)/\s.length<=60*i)/\(∀b o,H3 b=g o->b≠M->W b=g o))
  [[U,U,U,U,I],[[],F,trivial,b' _],λb o z _=>z] (λi σ W _ hh=>Am.of (hh.2.2 _ _ b7 a9)) ?_ ?_
 .rintro i y σ W hi ⟨⟨o6,o7,o8,o9,rfl⟩,⟨s,h4,sy,ly⟩,kp⟩
  let[t,p,hp,rfl,ht]:=tr.get hi;let il:i<L.length:=(hI.mp hp).1;let f:∀{b:J} {T:List V},H3 b=oT T->W b=oT T:=λz=>kp _ _ z (Br z F (by intro y;cases y));refine[t,_,I,(Bh.of (f ht)),I,(vC I (vC I (vC I ([I,?_]))))];refine CZ (.int (I0 (Cy x.cs O) p.2.2)) (λQ' R=>?_) ?_
  .by_cases c:p.2.2 = -1
   .refine[_,I,_,I,I,_,I,dT (by rw[c]) ?_]
    cases ro:Fd (Cs x.cs O) 0 U with
    |none=>
     rw[ro]at A;let b9:v=.non:=A;subst b9;refine[_,I,I,_,I,nF I [_,I,?_]];unfold Cy at R;rw[ro]at R;exact R
    |some nj=>
     let[n,j]:=nj;rw[ro]at A;let[t2,rfl,c3]:=A;refine[_,I,I,_,I,nT (λy=>by cases y) [_,I,_,_,_,_,I,I,Bh.of (f c3),I,?_]];unfold Cy I0 at R;rw[ro]at R
     dsimp only at R
     rw[eR c]at R;exact R
   .refine[_,I,_,I,I,_,I,dF (λy=>c (V.int.inj y)) [_,I,?_]]
    let eg:I0 (Cy x.cs O) p.2.2=p.2.2:=by
     unfold I0
     split
     .rfl
     .rw[eQ c]
    rw[eg]at R;exact R
  refine WK #[oR x.p,oR ct,oN k,oR u,g v,oR M,oN p.1,oN p.2.1,oN p.2.2,oN (I0 (Cy x.cs O) p.2.2)] rfl ?_;generalize I0 (Cy x.cs O)=C at sy⊢;let[us,a7,c5]:=id lu;let c7:LP W u S:=[us,kp _ _ (S3 _ _ a7) (Af a7 X),(c5.mono (Bn S3)).mono λb ws y=>f y];let e4:=kp _ _ (S3 _ _ e) (Af e X);refine[_,I,.inl [I,_,Am.of h4],_,I,_,I,_,I,u,S,p.1,p.2.1,I,c7,Z,(λr1 H5 s5 d1 lp=>?_)];let[rs,b1,pr]:=id lp;let lr:=pr.len;let lc:=CR.cutW_len S p.1 p.2.1;refine[r1,I,[_,Am.of b1],λc1 b5=>?_];refine Cz (K:=K) (a:=r1) (xs:=rs) (λj T H6=>cK H6 T (CRT.tag x.nm (C p.2.2) ((CR.cutW S p.1 p.2.1).take j))/\H6 c1=oL T/\Ag H5 H6) [trivial,Ab,Aa b5 _]
   (λj T H6 _ ⟨e6,x1,E⟩=>[x1,by rw[e6.len];unfold CRT.tag;rw[cn,hQ];lia,Am.of (E _ _ b1)]) (by rw[ck];lia) (λj w T H6 hj ⟨e6,x1,E⟩=>?_) (λT H6 ⟨e6,x1,E⟩=>?_)
  .let[t',p',c6,rfl,b3]:=pr.get hj
   refine[_,I,_,_,_,_,I,I,Bh.of (E _ _ b3),I,_,I,_,_,_,_,I,I,Bh.of (E _ _ b3),I,_,I,x.p,Aq,dx,fs,_,I,E _ _ (s5 _ _ e4),B.ac.cl,B.ae,a1,_,I,Ax (by show 4<=1000;decide),λv1 c0=>?_];let s7:=Aa c0 (.tup #[.int p'.1,.int p'.2,.str x.nm,.int (C p.2.2)]);refine[s7 _ _ x1,I,?_,Ab,λb o z=>?_]
   .rw[Zr c6]
    exact((e6.mono (Bn s7)).app (cK.one (p:=(p'.1,p'.2,x.nm,C p.2.2)) Ab)).mono (Ec (s7 _ _ x1) _)
   .rw[Aj (Af z b5)]
    exact s7 _ _ (E b o z)
  rw[lr,j']at e6;let s6:=s5.trans E;let h6:=s6 _ _ h4;let lz:=e6.len;let lt:(CRT.tag x.nm (C p.2.2) (CR.cutW S p.1 p.2.1)).length=(CR.cutW S p.1 p.2.1).length:=by unfold CRT.tag;rw[cn]
  refine[M,c1,s,T,I,I,h6,x1,(by rw[ck];lia),?_];refine[[_,_,_,_,I],[_,Ab,?_,by rw[fy];lia],λb o z nb=>?_]
  .rw[O6 hp]
   exact((sy.mono (Bn s6)).app e6).mono (Ec h6 _)
  .rw[Aj nb]
   exact s6 _ _ (kp b o z nb)
 .rintro σ W ⟨⟨o6,o7,o8,o9,rfl⟩,⟨s,h4,sy,ly⟩,kp⟩
  rw[b8,j']at sy;subst eN;refine[_,I,q M s L W (λb o z=>kp b o (S3 _ _ z) (Af z X)) X h4 ch a0 sy Z]
end
theorem Nj:∀{C} {k:Int} {o} {n j:Int},Fd C k o=g (n,j)->o=g (n,j)\/∃i:Nat,C[i]?=g (g n)/\j=k+i
 |[],k,o,n,j,h=>.inl h
 |none::r,k,o,n,j,h=>by
  unfold Fd at h;rcases Nj h with z|⟨i,F,L⟩
  .exact .inl z
  .exact .inr [i+1,by simpa using F,Z]
 |some m::r,k,U,n,j,h=>by
  unfold Fd at h;rcases Nj h with z|⟨i,F,L⟩
  .cases z
   exact .inr [0,I,zZ]
  .exact .inr [i+1,by simpa using F,Z]
 |some m::r,k,g (B,S),n,j,h=>by
  unfold Fd at h;rcases Nj h with z|⟨i,F,L⟩
  .split at z
   .cases z
    exact .inr [0,I,zZ]
   .exact .inl z
  .exact .inr [i+1,by simpa using F,Z]
theorem Wf:∀{cs} {ns:List Int} {i:Nat} {n:Int} (k:Int),(Cs cs ns)[i]?=g (g n)->(Cb k cs ns)[i]?=g (0,k)
 |[],_,i,n,k,h=>by unfold Cs at h;simp at h
 |_::_,[],i,n,k,h=>by unfold Cs at h;simp at h
 |c::cs,m::ns,0,n,k,h=>by
  unfold Cs at h;unfold Cb;rw[wW]at h⊢;simp at h;cases c with
  |lim y a=>rfl
  |any y=>cases h
 |c::cs,m::ns,i+1,n,k,h=>by
  unfold Cs at h;unfold Cb;rw[wW]at h⊢;simp only[rY]at h⊢;exact Wf (cs:=cs) (ns:=ns) k h
theorem DM:∀{sp} {k c:Int},CRP.fwFrom sp k c = -1\/∃i:Nat,∃q,sp[i]?=g q/\CRP.fwFrom sp k c=k+i/\(c<q.1\/q.2<=c)
 |[],k,c=>.inl I
 |(a,b)::r,k,c=>by
  unfold CRP.fwFrom;by_cases z:c<a\/b<=c
  .rw[eR z]
   exact .inr [0,(a,b),I,zZ,z]
  .rw[eQ z]
   rcases DM (sp:=r) (k:=k+1) (c:=c)with y|⟨i,q,j,F,L⟩
   .exact .inl y
   .exact .inr [i+1,q,by simpa using j,by rw[F];lia,L]
theorem MJ:∀{sp} {k c:Int},0<=k->CRP.fwFrom sp k c = -1->∀q∈sp,q.1<=c/\c<q.2
 |[],_,_,_,_,q,h=>nomatch h
 |(a,b)::r,k,c,k0,h,q,j=>by
  unfold CRP.fwFrom at h;by_cases z:c<a\/b<=c
  .rw[eR z]at h
   lia
  .rw[eQ z]at h
   rcases cr.mp j with y|y
   .rw[y]
    exact[by show a<=c;lia,by show c<b;lia]
   .exact MJ Z h q y
def PX{sp:List (Int×Int)}{k:Int}(ch:CRP.Ch (CRP.fw sp) 0 U parts k){p:CRP.Tr3}(H:p∈parts):∃c,0<=c/\c<k/\CRP.fw sp c=p.2.2:=by
 let[i,C,e]:=pb H;let B:=CRP.Ch.get (i:=i) (p:=p) ch (by rw[hD C,e]);exact[p.1,B.2.2.2.1,by let:=B.1;let:=B.2.2.2.2;omega,B.2.1 p.1 (iH _) B.1]
def V2{cs:List Cl}{ns:List Int}{k n j:Int}(L:Cy cs ns=g (n,j))(ch:CRP.Ch (CRP.fw (Cb k cs ns)) 0 U F k):0<=j/\∀p∈F,p.2.2≠j:=by
 unfold Cy at L;rcases Nj L with z|⟨i,N,O⟩
 .cases z
 refine[Z,λp M e=>?_];let[c,P,R,C]:=PX ch M;let sp:=Wf k N;unfold CRP.fw at C;rcases DM (sp:=Cb k cs ns) (k:=0) (c:=c)with y|⟨H,q,S,Q,B⟩
 .lia
 .have:H=i:=by lia
  subst this;rw[sp]at S;cases S
  dsimp only at B
  lia
def VY{cs:List Cl}{ns:List Int}{k:Int}(ch:CRP.Ch (CRP.fw (Cb k cs ns)) 0 U F k):∀p∈F,∀q∈F,I0 (Cy cs ns) p.2.2=I0 (Cy cs ns) q.2.2->p.2.2=q.2.2:=by
 intro p O q Q e;cases B:Cy cs ns with
 |none=>
  rw[B]at e;exact e
 |some H=>
  let[n,j]:=H;let[R,M]:=V2 B ch;rw[B]at e;let L:(if p.2.2 = -1 then j else p.2.2)=if q.2.2 = -1 then j else q.2.2:=e;let P:=M p O;let N:=M q Q;by_cases C:p.2.2 = -1
  .by_cases S:q.2.2 = -1
   .lia
   .rw[eR C,eQ S]at L
    exact fA L.symm N
  .by_cases S:q.2.2 = -1
   .rw[eQ C,eR S]at L
    exact fA L P
   .rw[eQ C,eQ S]at L
    exact L
def QD(kvs:Od)(z:LF)(x:Nt)(a:CRT.Av eU):Prop:=∃W,DC z.ct x.cs (numsOf kvs z x) W/\a=(x.nm,W,(Cy x.cs (numsOf kvs z x)).map (·.1))
def dU(kvs:Od)(z:LF):List Nt->List (CRT.Av eU)->Prop
 |[],[]=>True
 |x::B,a::C=>QD kvs z x a/\dU kvs z B C
 |_,_=>False
theorem dU.names{kvs:Od}{z:LF}:∀{xs} {as},dU kvs z xs as->as.map (·.1)=xs.map (·.nm)
 |[],[],_=>rfl
 |[],_::_,h=>h.elim
 |_::_,[],h=>h.elim
 |x::xs,a::as,[[W,_,e],r]=>by rw[iw,iw,dU.names r,e]
theorem dU.snoc{kvs:Od}{z:LF}:∀{xs} {as} {x} {a},dU kvs z xs as->QD kvs z x a->dU kvs z (xs++#[x]) (as++#[a])
 |[],[],_,_,_,h=>[h,trivial]
 |[],_::_,_,_,r,_=>r.elim
 |_::_,[],_,_,r,_=>r.elim
 |x::xs,a::as,_,_,[h,r],B=>[h,dU.snoc r B]
def dU.len{kvs:Od}{z:LF}{xs:List Nt}{as:List (CRT.Av eU)}(h:dU kvs z xs as):as.length=xs.length:=by
 let:=gF mL h.names
 rwa[cn,cn]at this
def OO{kvs:Od}{z:LF}{x:Nt}{xs:List Nt}{as:List (CRT.Av eU)}(v:dU kvs z (x::xs) as)(X:0<z.ct)(ch:CRP.Ch (CRP.fw (Cb z.ct x.cs (numsOf kvs z x))) 0 U F z.ct) :
  ∀p∈F,I0 (Cy x.cs (numsOf kvs z x)) p.2.2 = -1->∀n,p.1<=n->n<p.2.1->CR.inR (CRT.leftS as #[(0,z.ct)]) n=eM:=by
 intro p E S n f A
 match as,v with
 |a::as,[[W,l,R],r]=>
  let[i,w,e]:=pb E;let B:=CRP.Ch.get (i:=i) (p:=p) ch (by rw[hD w,e]);let T:=B.2.1 n f A;let b0:=B.2.2.2.1;let b1:=B.2.2.2.2;cases P:Cy x.cs (numsOf kvs z x)with
  |some d=>
   let[m,j]:=d;let[j0,h]:=V2 P ch;rw[P]at S;let s:(if p.2.2 = -1 then j else p.2.2) = -1:=S
   split at s
   .omega
   .contradiction
  |none=>
   rw[P]at S R;let k:p.2.2 = -1:=S;rw[k]at T;let L:=MJ (iH 0) T;let[O,N,K,b,c]:=l;let o:O<=n:=by
    rcases cr.mp K.1 with y|y
    .omega
    .let[q,Q,C]:=g_.mp y
     let:=L q Q;let M:q.1=O:=C;omega
   let l2:n<N:=by
    rcases cr.mp b.1 with y|y
    .omega
    .let[q,Q,C]:=g_.mp y
     let:=L q Q;let M:q.2=N:=C;omega
   cases t:CR.inR (CRT.leftS (a::as) #[(0,z.ct)]) n with
   |false=>rfl
   |true=>
    exfalso;let f1:=CRT.frm_one X;let u:CR.inR (CRT.leftS as (CR.outW #[(0,z.ct)] (CRT.payW a #[(0,z.ct)]))) n=eP:=t;let:=CRT.leftS_sub (CR.outW_frm f1 (CRT.payW_frm f1)) u;rw[CR.outW_in (CRT.payW_frm f1),gd,ql]at this;let H:CR.inR (CRT.payW a #[(0,z.ct)]) n=eP:=by
     rw[R];show CR.inR (CR.cutW #[(0,z.ct)] W.1 W.2) n=eP;rw[CR.cutW_in,gd,gd,fR,fR,c];refine[CRT.in_one.mpr [zY,zY],o,?_];show n<if N>O then N else O
     split<;>omega
    rw[H]at this;cases this.2
def A4(kvs:Od)(z:LF)(as:List Nt)(S:List AB):Prop:=match as with
 |[]=>S=#[((0:Int),z.ct,("" : eU),(0:Int))]
 |x::_=>∃C B,dU kvs z as C/\CRP.Ch (CRP.fw (Cb z.ct x.cs (numsOf kvs z x))) 0 U B z.ct/\S.Perm (CRT.allS C x.nm (I0 (Cy x.cs (numsOf kvs z x))) B z.ct)/\S.Pairwise (λs t=>s.1<t.1)
theorem Qw(a:CRT.Av eU):∀(as:List (CRT.Av eU)) (B:List CR.Rn),CRT.paidS (as++#[a]) B=CRT.paidS as B++CRT.tag a.1 (-1) (CRT.payW a (CRT.leftS as B))/\CRT.leftS (as++#[a]) B=CR.outW (CRT.leftS as B) (CRT.payW a (CRT.leftS as B))
 |[],B=>[by show CRT.tag a.1 (-1) (CRT.payW a B)++[]=[]++CRT.tag a.1 (-1) (CRT.payW a B);simp,I]
 |c::as,B=>by
  let C:=Qw a as (CR.outW B (CRT.payW c B));refine[?_,C.2];show CRT.tag c.1 (-1) (CRT.payW c B)++CRT.paidS (as++#[a]) _=(CRT.tag c.1 (-1) (CRT.payW c B)++CRT.paidS as _)++_;rw[C.1,vj];rfl
def LJ{C:List CR.Rn}{B:List Int}(f:CR.Frm C)(e:CRT.EndsIn B C):C.length<=B.length:=by
 let j:(C.map (·.1)).Nodup:=by
  rw[wY,vy];refine f.pw.imp_of_mem λ{p q} H L h z=>?_;let:=f.lt p H
  lia
 let:=CRT.few_of (m:=B) j λx F=>by
  let[p,H,rfl]:=g_.mp F;exact(e p H).1
 rwa[cn]at this
def Ys{c:Int}(j:0<c)(as:List (CRT.Av eU)):(CRT.leftS as #[(0,c)]).length<=2+3*as.length:=by
 let[B,F,S,L,b4]:=CRT.paid_ends (cs:=as) (B:=#[0,c]) (CRT.frm_one j) (λp C=>by rw[d_.mp C];simp);let:=LJ (CRT.leftS_frm (CRT.frm_one j)) L;rw[F]at this;exact this
def IU(a:CRT.Av eU)(B:List CR.Rn):(CRT.payW a B).length<=B.length:=by
 unfold CRT.payW
 split
 .exact CR.cutW_len _ _ _
 .exact fO (CR.lowW_len _ _) (CR.cutW_len _ _ _)
theorem cK.tupF{K:a'}:∀{xs} {S},cK H xs S->dX K H xs (S.map (·.1))
 |[],[],_=>trivial
 |[],_::_,h=>h.elim
 |_::_,[],h=>h.elim
 |x::xs,p::B,[[t,e,h],r]=>[[t,_,e,Bh.of h,I],cK.tupF r]
theorem cK.pick{xs:List V}{S:List AB}(h:cK H xs S):∀l:List Nat,(∀i∈l,i<S.length)->cK H (l.map λi=>xs.getD i .non) (l.map λi=>S.getD i (0,0,"",0))
 |[],_=>trivial
 |i::l,N=>by
  let O:=N i fk;let C:=h.len;let[t,p,F,M,L]:=h.get (i:=i) (hD Z);refine[[t,?_,?_],cK.pick h l λj B=>N j (e_ _ B)]
  .show xs.getD i .non=.ref t
   rw[l_,hD Z];exact M
  .show H t=oT (FZ (S.getD i (0,0,"",0)))
   rw[l_,F];exact L
inductive Vs(κ:A8)(CC CO CL CM C CB CN:J)(vs:List V)(H:Hp)(Q:VK):Prop
 |mk (b:_) (cp:_) (kp:_) (kvs:_) (l:_) (z:_) (bs:_) (z0:vs=#[.ref b,.ref cp,.ref l]) (z1:Pr κ CC CO CL CM C CB H b bs) (z2:(∀x∈bs,SQ x.t<4)) (z3:bs.length<=8) (z4:(bs.map (·.nm)).Nodup) (z5:cG CN H cp kp kvs) (z6:cQ kvs) (z7:H l=oT (LF.vs z)) (z8:0<z.ct) (z9:∀r ys S H',Ag H H'->H r=U->H' r=oL ys->cK H' ys S->A4 kvs z (Hf z bs) S->S.length<64->Q (.ref r) H'):Vs κ CC CO CL CM C CB CN vs H Q
def F2(B:A8)(N O T M C P L:J):Sp:=λR H Q x=>Vs B N O T M C P L R H Q
section
seal L2.PS L2.PSs L2.PE L2.PA
variable {P:eY} {w:fF} {K:a'} {mg:eU->Option eJ} {base:fK}
def Xg:Bg #["book","counts","loss","cents","asked","unpaid","strips","cover","paid","first"] #["book","counts","loss"] (Ao Ks):=by injections
def Xl(B:Pm P w K mg base){f:J}{fd:m_}(F:cF K "strips_of" "strips_of" Ks f fd) :
  Bp P w K mg base Fv 7 f fd #["book","counts","loss"] (F2 (A8.mk Ba) Al Al An An Aq Cr Aw):=by
 let sc:=Xg;bv_omega
 .let[_,_,_,_,_,_,_,rfl,_]:=h
  rfl
 let[b,cp,kp,L,l,z,bs,rfl,c2,hm,l8,nd,ct,iv,hl,c0,q]:=h;refine[_,(Ac (Dp sc 3 (Ej K (pv 2) (Lb B.z B.gj)))
   (Ac (Dp sc 4 (Do (Vo B) hr (Ca (pv 0) (pv 2))))
   (Ac (Bj (Bt (GR (pv 4)))
    (Ad (Ar (Bu (Bz (Bl (Ai Ae (Ai (pv 3) (Ca Bo Ae))))))))
    At)
   (Ac (Dp sc 5 (Bu (Bz (Bl (Ca Ae (pv 3))))))
   (Ac (Dp sc 6 (Bu Eg))
   (Ac (Cj fH I (Jz K (pv 4)) (Wu (i:=7) sc.nd I (Or.inr I))
    (Ac (Dp sc 8 (Do (K9 B) hr (Ai (pv 7) (Ai (Do (Pn B) hr (Ai (pv 7) (Ca (pv 1) (pv 2)))) (Ca (pv 3) (pv 5))))))
   (Ac (Bk (Ed (K:=K) I fG gX gW Io (pv 6) (Bz (Fg (NC:=#["run","cover"]) (own:=#["run"]) (cs:=#["cover"]) (ix:=#[7]) I (Au.of I) I [[I,.inl I,I],trivial] (Jz K (pv 8)) (λ_ _ _=>(Oh 0)) (λ_ _ _=>Ez) (λ_ _ _=>(Bl (Ai (Ej K (pv 0) Ae) (Ai (Ej K (pv 0) Ae) (Ca (Jt (K:=K) (pv 1) I) (Sw Ls Ae))))))))))
   (Ad (Dp sc 5 (Do (EW B) hr (Ca (pv 5) (pv 8))))))))
   (Ac (Dp sc 9 (Nv K (pv 4) Ae))
   (Ac (Bk (Ed (K:=K) I fG gX gW Io (pv 6) (Bz (Do (Tu B) hr (Ai (pv 9) (Ai (Do (Pn B) hr (Ai (pv 9) (Ca (pv 1) (pv 2)))) (Ca (pv 3) (pv 5))))))))
   (Ad (Ar (Nu Xd B.z B.ig (Bz (pv 6))))))))))))),?_]
 refine Fc λN v=>?_;let c8:1<=sizeLine:=by rw[ck];decide
 let e1:2<=sizeLine:=by rw[ck];decide
 refine[_,I,_,_,_,_,I,I,Bh.of hl,I,?_];refine Gj v #[oR b,oR cp,oR l,oN z.ct,U,U,U,U,U,U] rfl λN v=>?_;refine[_,I,_,I,b,l,bs,z,I,c2,hm,Z,hl,(λak H1 s1 f7 a0=>?_)];refine Gj v #[oR b,oR cp,oR l,oN z.ct,oR ak,U,U,U,U,U] rfl λN v=>?_;let b7:∀x∈Hf z bs,x∈bs:=λx hx=>(nw.mp hx).1;let la:(Hf z bs).length<=8:=fO (ni _ _) l8;let a9:((Hf z bs).map (·.nm)).Nodup:=nd.sublist (List.Sublist.map _ List.filter_sublist);let[_,_,_,_,_,_,d0]:=c2;let a2:∀x∈Hf z bs,cH (A8.mk Ba) Al Al An An Aq H1 x:=λx hx=>(d0 x (b7 x hx)).same s1;let b2:=ct.same s1;let d2:=s1 _ _ hl;clear d0 ct hl hm l8 nd;generalize Hf z bs=as at a0 b7 la a9 a2 q;refine[_,I,_,.inl [_,Am.of a0,I],?_];cases a3:as with
 |nil=>
  rw[a3]at q;refine En [_,I,Ax (by show 4<=1000;decide),λt nt=>[c8,λr nr=>?_]];let s2:=Aa nt (.tup (FZ (0,z.ct,"",0)));let s3:=Aa nr (.lst #[V.ref t]);exact q r #[.ref t] #[(0,z.ct,"",0)] _ (s1.trans (s2.trans s3)) (s1.free (s2.free nr)) Ab (cK.one (s3 _ _ Ab)) I (show 1<64 by lk)
 |cons k f4=>
 refine Cg ?_;let e0:as[0]?=g k:=by rw[a3];rfl
 refine Iu v λN v=>?_;refine[_,I,e1,λt0 f3=>[c8,λu0 c4=>?_]];let s2:=(Aa f3 (.tup #[V.int 0,.int z.ct])).trans (Aa c4 (.lst #[V.ref t0]));let b3:LP (upd (upd H1 t0 (.tup #[V.int 0,.int z.ct])) u0 (.lst #[V.ref t0])) u0 #[(0,z.ct)]:=[_,Ab,[t0,I,Aa c4 (.lst #[V.ref t0]) _ _ Ab],trivial];generalize upd (upd H1 t0 (.tup #[V.int 0,.int z.ct])) u0 (.lst #[V.ref t0])=H2 at s2 b3;refine Gj v #[oR b,oR cp,oR l,oN z.ct,oR ak,oR u0,U,U,U,U] rfl λN v=>?_;refine[de _,λM a4=>?_];let S3:=s2.trans (Aa a4 (.lst []));let a5:=s2.free a4;let c5:=LP.same (Aa a4 (.lst [])) b3;let a7:upd H2 M (.lst []) M=oL []:=Ab;let e4:u0≠M:=by
  let[_,y,_]:=b3;exact Af y a4
 generalize upd H2 M (.lst [])=H3 at S3 c5 a7;refine Gj v #[oR b,oR cp,oR l,oN z.ct,oR ak,oR u0,oR M,U,U,U] rfl λN v=>?_;let d3:=S3 _ _ a0;let f6:cp≠M/\kp≠M:=by
  let[[_,_,y,_],y2]:=id b2;exact[Af y a5,Af y2 a5]
 refine[_,I,ak,I,[_,Am.of d3],?_];refine Ei (K:=K) (a:=ak) (xs:=as.map xV) (λi σ H4=>(∃u o7 o8,σ=#[oR b,oR cp,oR l,oN z.ct,oR ak,oR u,oR M,o7,o8,U]/\u≠M /\
   ∃C R,dU L z (as.take i) C/\LP H4 u (CRT.leftS C #[(0,z.ct)])/\H4 M=oL R/\cK H4 R (CRT.paidS C #[(0,z.ct)])/\R.length<=60*i)/\Ag H1 H4)
  [[u0,U,U,I,e4,[],[],trivial,c5,a7,trivial,b' _],S3] (λi σ H4 _ hh=>Am.of (hh.2 _ _ a0)) ?_ ?_
 .rintro i y σ H4 hi ⟨⟨u,o7,o8,rfl,nu,C,R,av,lu,h4,sy,ly⟩,S4⟩ N9 d6
  rw[jk]at hi;let[x,hx,rfl]:=pe.mp hi;let il:i<as.length:=(hI.mp hx).1;let d9:C.length<=8:=by rw[av.len,hQ];lia
  let c3:=Ys c0 C;let cx:=(a2 x (kS hx)).same S4;generalize e3:CRT.leftS C #[(0,z.ct)]=un at lu c3;refine[_,I,_,I,_,I,_,I,x,cp,kp,L,l,z,I,cx,(b2.same S4),iv,(S4 _ _ d2),(λnr H5 s5 d5 b1=>[_,I,_,I,x,nr,u,un,numsOf L z x,z.ct,I,cx.same s5,b1,C2 L z x,LP.same s5 lu,Z,λpd W H6 s6 e5 wa b8=>?_])];subst v;refine Lf #[oR b,oR cp,oR l,oN z.ct,oR ak,oR u,oR M,oR x.p,oR pd,U] rfl ?_;let T:=s5.trans s6;let e8:=IU (x.nm,W,(Cy x.cs (numsOf L z x)).map (·.1)) un;let b5:QD L z x (x.nm,W,(Cy x.cs (numsOf L z x)).map (·.1)):=[W,wa,I];let sn:=Qw (x.nm,W,(Cy x.cs (numsOf L z x)).map (·.1)) C #[(0,z.ct)];rw[e3]at sn;generalize (x.nm,W,(Cy x.cs (numsOf L z x)).map (·.1))=n at b8 e8 b5 sn;let en:n.1=x.nm:=by let[_,_,y]:=b5;rw[y]
  rw[en]at sn;let h6:=T _ _ h4;let[rs,b0,pr]:=id b8;let lr:=pr.len;let[dx,fs,_,_,_,e,a1,_]:=cx.same T;refine[_,I,.inl [I,_,Am.of h6],_,I,pd,I,[_,Am.of b0],λc1 d1=>?_];refine Cz (K:=K) (a:=pd) (xs:=rs) (λj zs m=>cK m zs (CRT.tag x.nm (-1) ((CRT.payW n un).take j))/\m c1=oL zs/\Ag H6 m) [trivial,Ab,Aa d1 _]
   (λj zs m _ ⟨e6,x1,x2⟩=>[x1,by rw[e6.len];unfold CRT.tag;rw[cn,hQ];lia,Am.of (x2 _ _ b0)]) (by rw[ck];lia) (λj w zs m hj ⟨e6,x1,x2⟩=>?_) (λzs m ⟨e6,x1,x2⟩=>?_)
  .let[t',p',e7,rfl,c9]:=pr.get hj
   refine[_,I,_,_,_,_,I,I,Bh.of (x2 _ _ c9),I,_,I,_,_,_,_,I,I,Bh.of (x2 _ _ c9),I,_,I,x.p,Aq,dx,fs,_,I,x2 _ _ e,B.ac.cl,B.ae,a1,_,I,Ax (by show 4<=1000;decide),λv1 d7=>?_];let s7:=Aa d7 (.tup #[.int p'.1,.int p'.2,.str x.nm,.int (-1)]);refine[s7 _ _ x1,I,?_,Ab,λb o z=>?_]
   .rw[Zr e7]
    exact((e6.mono (Bn s7)).app (cK.one (p:=(p'.1,p'.2,x.nm,-1)) Ab)).mono (Ec (s7 _ _ x1) _)
   .rw[Aj (Af z d1)]
    exact s7 _ _ (x2 b o z)
  rw[lr,j']at e6;let h7:=x2 _ _ h6;let lz:=e6.len;let lt:(CRT.tag x.nm (-1) (CRT.payW n un)).length=(CRT.payW n un).length:=by unfold CRT.tag;rw[cn]
  refine[M,c1,R,zs,I,I,h7,x1,(by rw[ck];lia),?_];let k7:II m (upd m M (.lst (R++zs))):=Ec h7 _;let O:=((sy.mono (Bn (T.trans x2))).app e6).mono k7;rw[<- sn.1]at O;let S8:Ag H1 (upd m M (.lst (R++zs))):=λb o z=>by rw[Aj (Af z a5)];exact x2 _ _ (T _ _ (S4 _ _ z))
  let a6:LP (upd m M (.lst (R++zs))) pd (CRT.payW n un):=by
   let b9:pd≠M:=(Af (s5 _ _ h4) e5).symm;exact[rs,by rw[Aj b9];exact x2 _ _ b0,(pr.mono (Bn x2)).mono k7]
  let c6:LP (upd m M (.lst (R++zs))) u un:=by
   let[us,y1,y2]:=lu;exact[us,by rw[Aj nu];exact x2 _ _ (T _ _ y1),(y2.mono (Bn (T.trans x2))).mono k7]
  let h8:upd m M (.lst (R++zs)) M=oL (R++zs):=Ab;generalize upd m M (.lst (R++zs))=H8 at O S8 a6 c6 h8;refine[_,I,_,I,u,pd,un,CRT.payW n un,I,c6,a6,Z,Z,λu2 H9 s9 f2 d8=>?_];let c7:u2≠M:=(Af h8 f2).symm;refine d6 _ _ [[u2,_,_,I,c7,C++#[n],R++zs,?_,?_,s9 _ _ h8,O.mono (Bn s9),by rw[fy];lia],S8.trans s9]
  .rw[Cd hx]
   exact av.snoc b5
  .rw[sn.2]
   exact d8
 .rintro σ H4 ⟨⟨u,o7,o8,rfl,nu,C,R,av,lu,h4,sy,ly⟩,S4⟩
  rw[cn,j']at av;rw[cn]at ly;let d9:C.length<=8:=by rw[av.len];exact la
  let c3:=Ys c0 C;let d4:Wv (as.map xV) 0=g (.ref k.p):=Lh (by rw[jk,e0];rfl);refine Iu v λN v=>?_;refine[_,I,_,_,_,_,I,I,Am.of (S4 _ _ a0),d4,?_];refine Gj v #[oR b,oR cp,oR l,oN z.ct,oR ak,oR u,oR M,o7,o8,oR k.p] rfl λN v=>?_;let cx:=(a2 k (kS e0)).same S4;refine[_,I,.inl [I,_,Am.of h4],_,I,_,I,_,I,_,I,k,cp,kp,L,l,z,I,cx,(b2.same S4),iv,(S4 _ _ d2),(λnr H5 s5 d5 b1=>[_,I,_,I,k,nr,u,_,numsOf L z k,z.ct,I,cx.same s5,b1,C2 L z k,LP.same s5 lu,Z,Z,λr1 c X H6 s6 f8 e2 ch f5 sb f9=>?_])];let T:=s5.trans s6;let h6:=T _ _ h4;refine[M,r1,R,c,I,I,h6,e2,(by rw[ck];lia),?_];let a8:=((sy.mono (Bn T)).app sb).mono (Ec h6 (.lst (R++c)));let S7:Ag H1 (upd H6 M (.lst (R++c))):=λb o z=>by rw[Aj (Af z a5)];exact T _ _ (S4 _ _ z)
  let h7:upd H6 M (.lst (R++c)) M=oL (R++c):=Ab;generalize upd H6 M (.lst (R++c))=m at a8 S7 h7;rw[a3]at av a9;let sp:CRT.Sep (CRT.allS C k.nm (I0 (Cy k.cs (numsOf L z k))) X z.ct):=CRT.all_sep c0 (by rw[av.names];exact a9) ch (VY ch) (OO av c0 ch);let ln:=CRT.all_len (f:=CRP.fw (Cb z.ct k.cs (numsOf L z k))) c0 sp;let O:cK m (R++c) (CRT.allS C k.nm (I0 (Cy k.cs (numsOf L z k))) X z.ct):=a8;generalize eS:CRT.allS C k.nm (I0 (Cy k.cs (numsOf L z k))) X z.ct=S at O sp ln;let lS:=O.len;subst v;refine[_,I,M,R++c,S.map (·.1),I,Am.of h7,?_,O.tupF,sp.starts,λr p nr pm up=>?_]
  .lia
  rw[lS]at pm up;let[o1,o2]:=Y3 (d:=((0:Int),(0:Int),("" : eU),(0:Int))) (f:=λs:AB=>s.1) pm up sp.starts;let s8:=Aa nr (.lst (p.toList.map λi=>(R++c).getD i .non));refine q r _ (p.toList.map λi=>S.getD i (0,0,"",0)) _ (s1.trans (S7.trans s8)) (s1.free (S7.free nr)) Ab ((O.pick p.toList λi hi=>?_).mono (Bn s8)) ?_ (by rw[o1.length_eq];lia)
  .have pl:p.toList.Perm (kw S.length):=by
    let:=vx.mp pm
    simpa using this
   exact wk.mp (pl.mem_iff.mp hi)
  .rw[a3]
   exact[C,X,av,ch,by rw[eS];exact o1,o2]
def G6(B:Pm P w K mg base):Jc B 7 "strips_of" #["book","counts","loss"] (F2 (A8.mk Ba) Al Al An An Aq Cr Aw):=(SM B.z B.rp bd).cal λf C F=>Xl B F
end
def Yg(nm:eU)(s:AB):Bool:=decide (s.2.2.1=nm)&&decide (s.2.2.2 = -1)
def Kb(nm:eU)(S:List AB):List Int:=(S.filter (Yg nm)).map λs=>s.2.1-s.1
inductive MG  (vs:List V)(H:Hp)(Q:VK):Prop
 |mk (nm:_) (a:_) (ys:_) (S:_) (z0:vs=#[.str nm,.ref a]) (z1:H a=oL ys) (z2:cK H ys S) (z3:S.length<=900) (z4:∀H',Ag H H'->Q (.int (Kb nm S).sum) H'):MG  vs H Q
def aA:Sp:=λB H Q x=>MG  B H Q
section
variable {P:eY} {w:fF} {K:a'} {mg:eU->Option eJ} {base:fK}
def E3(N:Pm P w K mg base):Jc N 1 "paid_by" #["name","strips"] aA:=Iw N.z N.u7 #["name","strips"] df λu H Q l h=>by
 let[O,a,d,S,rfl,B,L,s,q]:=h;refine[_,(Ad (Ar (Nu (No I) N.z N.iq (Bz (Fg (NC:=#["lo","hi","payer","k","name"]) (own:=#["lo","hi","payer","k"]) (cs:=#["name"]) (ix:=#[0]) I (Au.of I) I [[I,.inl I,I],trivial] (Jz K (pv 1)) (λm m m=>(Eb (K:=K) (n:=4) I I (Bf (Oh 0) (Bf (Oh 1) (Bf (Oh 2) (Bf (Oh 3) Ds)))))) (λm m m=>(Hu (PW.pt (Rj (Ay Fe (pv 2) (pv 4) (Be _)) (Mp (Ay Fe (pv 3) (Sw Ls Ae) (Be _))))))) (λm m m=>(As Fi (pv 1) (pv 0)))))))),?_];let E:=L.len;refine[_,I,a,I,[_,Am.of B],λr X=>?_];refine I9 (K:=K) (a:=a) (xs:=d) (λi T F=>T=(Kb O (S.take i)).map V.int/\F r=oL T/\Ag H F) [I,Ab,Aa X _]
  (λi T F m ⟨e,R,j⟩=>[R,by rw[e,cn];unfold Kb;rw[cn];exact fO (ni _ _) (by rw[hQ];lia),Am.of (j _ _ B)]) (by rw[ck];lia) (λi x T F f ⟨e,R,j⟩=>?_) (λT F ⟨e,R,j⟩=>?_)
 .let[t,p,A,rfl,k]:=L.get f
  refine[t,_,_,_,_,I,(Bh.of (j _ _ k)),?_];let W:Kb O (S.take (i+1))=Kb O (S.take i)++if Yg O p=eP then #[p.2.1-p.1] else []:=by
   unfold Kb;rw[Cd A,vf,iN];by_cases c:Yg O p=eP
   .rw[eR c,vm c,q_];rfl
   .rw[eQ c,wT c,q_];rfl
  by_cases C:p.2.2.1=O
  .refine[_,I,_,I,I,_,I,dT (gF V.str C) [_,I,_,I,I,_,I,?_]]
   by_cases M:p.2.2.2 = -1
   .refine dT (gF V.int M) ?_
    let c:Yg O p=eP:=by unfold Yg;rw[eT C,eT M];rfl
    refine[_,I,_,I,_,_,I,I,R,I,?_,Ab,λb o z=>?_]
    .rw[W,eR c,iN,e]
     rfl
    .rw[Aj (Af z X)]
     exact j b o z
   .refine dF (λy=>M (V.int.inj y)) ?_
    let c:¬Yg O p=eP:=by unfold Yg;rw[eZ M,mr];exact f_
    refine[I,?_,R,j];rw[W,eQ c,lq,e]
  .refine[_,I,_,I,I,_,I,dF (λy=>C (V.str.inj y)) ?_]
   let c:¬Yg O p=eP:=by unfold Yg;rw[eZ C,qP];exact f_
   refine Cg [I,?_,R,j];rw[W,eQ c,lq,e]
 rw[E,j']at e;subst e;exact[r,_,I,(Am.of R),(q F j)]
end
def Vy:Cl->Bool
 |.lim _ _=>eP
 |_=>eM
def Jw(z:LF)(x:Nt)(pd:Int)(kvs:Od):Nat->Od
 |0=>kvs
 |i+1=>Ck (Jw z x pd kvs i) (A6 x.nm (i:Int) (Qe ((x.cs[i]?).getD (.any "")).way z)) (.int (U2 (Sc (Jw z x pd kvs i) x.nm (i:Int) (Qe ((x.cs[i]?).getD (.any "")).way z))+if Vy ((x.cs[i]?).getD (.any ""))=eP then pd else z.ct))
def cQ.put{kvs:Od}(h:cQ kvs)(k:List Dm)(n:Int):cQ (Ck kvs k (.int n)):=λj v e=>by
 rw[Ep]at e;by_cases c:j=k
 .rw[eR c]at e
  cases e
  exact[n,I]
 .rw[eQ c]at e
  exact h j v e
theorem Xj{z:LF}{x:Nt}{pd:Int}{kvs:Od}(h:cQ kvs):∀i,cQ (Jw z x pd kvs i)
 |0=>h
 |i+1=>(Xj h i).put _ _
theorem Yf{z:LF}{x:Nt}{pd:Int}{kvs:Od}:∀i,(Jw z x pd kvs i).length<=kvs.length+i
 |0=>b' _
 |i+1=>fO (Cu _ _ _) (by let:=Yf (z:=z) (x:=x) (pd:=pd) (kvs:=kvs) i;lia)
inductive W7(κ:A8)(CC CO CL CM C CN:J)(vs:List V)(H:Hp)(Q:VK):Prop
 |mk (x:_) (cp:_) (kp:_) (kvs:_) (l:_) (z:_) (pd:Int) (z0:vs=#[.ref x.p,.ref cp,.ref l,.int pd]) (z1:cH κ CC CO CL CM C H x) (z2:cG CN H cp kp kvs) (z3:cQ kvs) (z4:kvs.length<=800) (z5:H l=oT (LF.vs z)) (z6:∀H',(∀b o,H b=g o->b≠kp->H' b=g o)->cG CN H' cp kp (Jw z x pd kvs x.cs.length)->Q .non H'):W7 κ CC CO CL CM C CN vs H Q
def NW(B:A8)(M N R L C P:J):Sp:=λO H Q x=>W7 B M N R L C P O H Q
section
variable {P:eY} {w:fF} {K:a'} {mg:eU->Option eJ} {base:fK}
def JD{w:fF}(B:Pm P w K mg base){o:J}{c:Cl}(h:dG Al Al An An H o c):∃C,TyOf K H (.ref o) (.ref C)/\hY K (.ref C) (.ref An)=g (Vy c):=by
 let[L,e]:=h;cases c with
 |lim y m=>exact[_,aV B.bp B.uw e,B.ku]
 |any y=>exact[_,aV B.bu B.ur e,B.jt]
def K3(N:Pm P w K mg base):Jc N 3 "count_for" #["cover","counts","loss","paid"] (NW (A8.mk Ba) Al Al An An Aq Aw):=Iw N.z N.rq #["cover","counts","loss","paid","k","clause","counted"] df λk H Q hr h=>by
 let[x,O,X,kvs,l,z,pd,rfl,cx,ct,iv,l8,hl,q]:=h;refine[_,(Ad (Cj fH I (Ji I (N.z.nn N.au) (Bz (Bd (pv 0) I))) (Eb (K:=K) (n:=2) I I (Bf (Gi k 4) (Bf (Gi k 5) Ds)))
    (Ac (Dp k 6 (Kp (Bm (Nu Dv N.z N.ad (Ca (pv 5) (Rk I (N.z.nv N.bp.ns))))) (pv 3) (Ej K (pv 2) (Lb N.z N.gj))))
   (Ad (Bk (Cn (aQ N) (hr.mono Y) (pv 1) (Ai (Bd (pv 0) I) (Ai (pv 4) (Ca (Kj (TR N) (hr.mono Y) (pv 5) (Bz (pv 2))) (pv 6)))))))))),?_]
 let[dx,u,cv,cl,xs,e,a1,a2,a3,a4,a5,a6,M,cc,c8]:=id cx;let lx:=cc.len;let hk:=ct.hk;let nk:∀{b:J} {o:HO},H b=g o->(∀m,o≠.dT m)->b≠X:=λy n=>Br y hk (n _);refine[_,I,x.p,Aq,dx,u,_,I,e,N.ac.cl,N.aq,a3,cl,I,[_,Am.of M],?_];refine Y8 (K:=K) (a:=cl) (xs:=xs) (λi A j=>(∃r E d,A=#[oR x.p,oR O,oR l,oN pd,r,E,d])/\cG Aw j O X (Jw z x pd kvs i)/\∀b o,H b=g o->b≠X->j b=g o)
  [[U,U,U,I],ct,λ_ _ y _=>y] (λi A j _ hh=>Am.of (hh.2.2 _ _ M (nk M (λ_ y=>by cases y)))) ?_ ?_
 .rintro i v A j t hi ⟨⟨r,E,d,rfl⟩,F,S⟩ nt N9 ad
  let[o,c,hc,rfl,ho]:=cc.get hi;let il:i<x.cs.length:=(hI.mp hc).1;let T:=Aa nt (.tup #[.int i,.ref o]);let p:∀{b:J} {R:HO},H b=g R->(∀m,R≠.dT m)->upd j t (.tup #[.int i,.ref o]) b=g R:=λy n=>T _ _ (S _ _ y (nk y n));let B:dG Al Al An An (upd j t (.tup #[.int i,.ref o])) o c:=by
   let[f,y]:=ho;exact[f,p y (λ_ y=>by cases y)]
  let s:=p e (λ_ y=>by cases y);let C:=p hl (λ_ y=>by cases y);let L:=F.same T;generalize upd j t (.tup #[.int i,.ref o])=H3 at T B s C L;let[ae,ty,kt]:=JD N B;let[f,ab]:=id B;let[[dc,fc,ac,b1,b2,b3],_]:=id L;let[n,en]:=(Xj (z:=z) (x:=x) (pd:=pd) iv i).have x.nm (i:Int) (Qe c.way z);refine CZ (.int (if Vy c=eP then pd else z.ct)) (λQ' W=>?_) ?_
  .refine[_,I,_,_,_,_,_,I,Eo,ty,kt,_,I,?_]
   cases aa:Vy c with
   |true=>
    rw[aa]at W;exact En [_,I,W]
   |false=>
    rw[aa]at W;exact Cg [_,I,_,_,_,_,I,I,Bh.of C,I,W]
  refine WK #[oR x.p,oR O,oR l,oN pd,oN i,oR o,oN (if Vy c=eP then pd else z.ct)] rfl ?_;refine[_,I,O,dc,fc,I,ac,b3,_,I,x.p,Aq,dx,u,_,I,s,N.ac.cl,N.ae,a1,_,I,_,I,o,_,f,_,I,ab,Xp _ _ _ _ c,FR c,_,I,o,c,l,z.ev,z.th,z.ca,z.n,z.d,z.ct,I,B,I,C,_,I,O,X,_,x.nm,(i:Int),Qe c.way z,_,n,by rw[HK];rfl,L,en,?_,λH4 s4=>?_]
  .have:=Yf (z:=z) (x:=x) (pd:=pd) (kvs:=kvs) i
   lia
  let ec:Jw z x pd kvs (i+1)=Ck (Jw z x pd kvs i) (A6 x.nm (i:Int) (Qe c.way z)) (.int (n+if Vy c=eP then pd else z.ct)):=by
   show Ck _ _ _=_;rw[hc];show Ck _ (A6 x.nm (i:Int) (Qe c.way z)) (.int (U2 (Sc (Jw z x pd kvs i) x.nm (i:Int) (Qe c.way z))+_))=_;rw[en];rfl
  refine ad _ _ [[_,_,_,I],?_,λb R y nb=>?_]
  .rw[ec]
   exact(L.same s4).put _
  .rw[Aj nb]
   exact s4 _ _ (T _ _ (S b R y nb))
 .rintro A j ⟨⟨r,E,d,rfl⟩,F,S⟩
  rw[lx]at F;exact q j S F
end
def GH(H H':Hp):Prop:=∀b o,H b=g o->(∀m,o≠HO.dT m)->H' b=g o
def Yx{H H':Hp}{m:Od}(j:H c=g (.dT m))(k:∀b o,H b=g o->b≠c->H' b=g o):GH H H':=λb o h n=>k b o h (Br h j (n _))
def dA.kd{H H':Hp}(s:GH H H'){v:V}(t:JL)(h:dA b H v t):dA b H' v t:=by
 let[p,B,e,h]:=h;exact[p,B,e,s _ _ h (λx y=>by cases y)]
def cH.kd{S L F j C:J}{H H':Hp}{x:Nt}(h:cH b S L F j C H x)(s:GH H H'):cH b S L F j C H' x:=by
 let[W,X,B,A,P,e,K,E,M,T,c,Q,N,O,R]:=h;exact[W,X,B,A,P,s _ _ e (λz y=>by cases y),K,E,M,T,c,dA.kd s _ Q,s _ _ N (λz y=>by cases y),O.mono (λt z z z y=>s _ _ y (λz y=>by cases y)),R]
def Po(z:LF)(S:List AB):List Nt->Od->Od
 |[],k=>k
 |x::B,k=>Po z S B (Jw z x (Kb x.nm S).sum k x.cs.length)
theorem Sb(z:LF)(S:List AB)(x:Nt):∀(xs:List Nt) (k:Od),Po z S (xs++#[x]) k=Jw z x (Kb x.nm S).sum (Po z S xs k) x.cs.length
 |[],k=>rfl
 |y::xs,k=>by
  rw[wO];exact Sb z S x xs _
theorem Oe{z:LF}{S:List AB}:∀{xs} {k},cQ k->cQ (Po z S xs k)
 |[],_,h=>h
 |x::xs,k,h=>Oe (xs:=xs) (Xj h _)
theorem Ox{z:LF}{S:List AB}:∀{xs} {k},(∀x∈xs,x.cs.length<=8)->(Po z S xs k).length<=k.length+8*xs.length
 |[],k,_=>b' _
 |x::xs,k,h=>by
  let B:=Ox (z:=z) (S:=S) (xs:=xs) (k:=Jw z x (Kb x.nm S).sum k x.cs.length) λy j=>h y (e_ _ j);let L:=Yf (z:=z) (x:=x) (pd:=(Kb x.nm S).sum) (kvs:=k) x.cs.length;let F:=h x fk;show(Po z S xs _).length<=_;rw[c_]
  lia
inductive Uv(κ:A8)(CC CO CL CM C CB CN:J)(vs:List V)(H:Hp)(Q:VK):Prop
 |mk (b:_) (cp:_) (kp:_) (kvs:_) (l:_) (z:_) (bs:_) (z0:vs=#[.ref b,.ref cp,.ref l]) (z1:Pr κ CC CO CL CM C CB H b bs) (z2:(∀x∈bs,SQ x.t<4)) (z3:bs.length<=8) (z4:(bs.map (·.nm)).Nodup) (z5:cG CN H cp kp kvs) (z6:cQ kvs) (z7:kvs.length<=700) (z8:H l=oT (LF.vs z)) (z9:0<z.ct) (z10:∀r ys S H',(∀b o,H b=g o->b≠kp->H' b=g o)->H r=U->H' r=oL ys->cK H' ys S->A4 kvs z (Hf z bs) S->S.length<64->cG CN H' cp kp (Po z S (Hf z bs) kvs)->Q (.ref r) H'):Uv κ CC CO CL CM C CB CN vs H Q
def BW(B:A8)(N O T M C P L:J):Sp:=λR H Q x=>Uv B N O T M C P L R H Q
section
variable {P:eY} {w:fF} {K:a'} {mg:eU->Option eJ} {base:fK}
def JF(B:Pm P w K mg base):Jc B 8 "settle" #["book","counts","loss"] (BW (A8.mk Ba) Al Al An An Aq Cr Aw):=Iw B.z B.um #["book","counts","loss","strips","cover"] df λsc H Q hr h=>by
 let[b,j,kp,E,l,z,A,rfl,v,hm,l8,nd,ct,iv,l7,hl,c0,q]:=h;refine[_,(Ac (Dp sc 3 (Do (G6 B) hr (Ai (pv 0) (Ca (pv 1) (pv 2)))))
   (Ac (Cj fH I (Jz K (Do (Vo B) hr (Ca (pv 0) (pv 2)))) (Gi sc 4)
    (Ad (Bk (Do (K3 B) hr (Ai (pv 4) (Ai (pv 1) (Ca (pv 2) (Do (E3 B) hr (Ca (Bd (pv 4) I) (pv 3))))))))))
   (Ad (Ar (pv 3))))),?_]
 refine Fc λN eN=>?_;refine[_,I,_,I,_,I,b,j,kp,E,l,z,A,I,v,hm,l8,nd,ct,iv,hl,c0,(λr ys S H1 u nr a6 a0 so a2=>?_)];refine Gj eN #[oR b,oR j,oR l,oR r,U] rfl λN eN=>?_;let[d0,f0,a8,eb,a9,a7,p]:=v;refine[_,I,_,I,b,l,A,z,I,[d0,f0,a8,u _ _ eb,a9,u _ _ a7,λx L=>(p x L).same u],hm,Z,(u _ _ hl),(λak H2 s2 b2 R=>?_)];let m:=u.trans s2;let a3:∀x∈Hf z A,x∈A:=λx L=>(nw.mp L).1;let la:(Hf z A).length<=8:=fO (ni _ _) l8;let M:∀x∈Hf z A,cH (A8.mk Ba) Al Al An An Aq H2 x:=λx L=>(p x (a3 x L)).same m;let c:=ct.same m;let X:=c.hk;let a4:=m _ _ hl;let s:=s2 _ _ a6;let W:=a0.mono (Bn s2);generalize Hf z A=f at R la M so q;let c8:∀x∈f,x.cs.length<=8:=λx L=>by
  let[_,_,_,_,_,_,_,_,_,_,_,_,_,_,y]:=M x L;exact y
 refine[ak,I,[_,Am.of R],?_];refine Ei (K:=K) (a:=ak) (xs:=f.map xV) (λi σ F=>(∃o,σ=#[oR b,oR j,oR l,oR r,o])/\cG Aw F j kp (Po z S (f.take i) E)/\(∀b o,H2 b=g o->b≠kp->F b=g o))
  [[U,I],c,λ_ _ y _=>y] (λi σ F _ hh=>Am.of (hh.2.2 _ _ R (Br R X (by intro y;cases y)))) ?_ ?_
 .rintro i y σ F hi ⟨⟨o,rfl⟩,T,O⟩ N9 a5
  rw[jk]at hi;let[x,L,rfl]:=pe.mp hi;let mx:=kS L;let C:=Yx X O;let cx:=(M x mx).kd C;let[dx,fs,_,_,_,e,a1,_]:=id cx;let b0:=C _ _ s (λ_ y=>by cases y);let d:=W.mono λt ws y=>C _ _ y (λ_ y=>by cases y);refine[_,I,_,I,_,I,_,I,x.p,Aq,dx,fs,_,I,e,B.ac.cl,B.ae,a1,_,I,x.nm,r,ys,S,I,b0,d,Z,λH5 s5=>[x,j,kp,_,l,z,_,I,(cx.same s5),(T.same s5),(Oe iv),?_,(s5 _ _ (C _ _ a4 (λ_ y=>by cases y))),(λH6 k6 b1=>?_)]]
  .have:=Ox (z:=z) (S:=S) (xs:=f.take i) (k:=E) λx L=>c8 x (tY L)
   let:(f.take i).length<=8:=by rw[hQ];lia
   lia
  .refine a5 _ _ [[_,I],?_,λb o y n=>k6 _ _ (s5 _ _ (O b o y n)) n]
   rw[Cd L,Sb];exact b1
 .rintro σ F ⟨⟨o,rfl⟩,T,O⟩
  rw[cn,j']at T;let C:=Yx X O;subst eN;exact[_,I,q r ys S F (λb o y n=>O _ _ (m _ _ y) n) nr (C _ _ s (λ_ y=>by cases y)) (W.mono λt ws y=>C _ _ y (λ_ y=>by cases y)) so a2 T]
end
abbrev Ia:nA:=[37,31,37,54]
def fW(j F:J):(#[("waiting",.ref j),("numbers",.ref F)]:List (eU×V)).lookup ("waiting" : eU)=g (.ref j):=rfl
def fN(F j:J):(#[("waiting",.ref F),("numbers",.ref j)]:List (eU×V)).lookup ("numbers" : eU)=g (.ref j):=rfl
def NI(j F:J):(#[("waiting",.ref j),("numbers",.ref F)]:List (eU×V)).lookup ("put" : eU)=U:=rfl
def WI(j F:J):(#[("waiting",.ref j),("numbers",.ref F)]:List (eU×V)).lookup ("has_number" : eU)=U:=rfl
def ZJ(j F:J):(#[("waiting",.ref j),("numbers",.ref F)]:List (eU×V)).lookup ("up_to" : eU)=U:=rfl
def pW(L j F:J):By ("waiting" : eU) (.ref j) (#[("waiting",.ref L),("numbers",.ref F)]:List (eU×V))=(#[("waiting",.ref j),("numbers",.ref F)]:List (eU×V)):=rfl
inductive CY(C:J)(vs:List V)(H:Hp)(Q:VK):Prop
 |mk (x:_) (dx:_) (z0:vs=#[.ref x]) (z1:H x=oI C dx []) (z2:∀wl nl H',(∀b o,H b=g o->b≠x->H' b=g o)->H wl=U->H nl=U->H' x=oI C dx #[("waiting",.ref wl),("numbers",.ref nl)]->H' wl=oL []->H' nl=g (.dK [])->Q .non H'):CY C vs H Q
def TX(C:J):Sp:=λB H Q x=>CY C B H Q
inductive FI(C:J)(vs:List V)(H:Hp)(Q:VK):Prop
 |mk (x:_) (wl:_) (nl:_) (kvs:_) (n:Int) (z0:vs=#[.ref x,.int n]) (z1:Dy C H x wl nl) (z2:H nl=g (.dK kvs)) (z3:Q (.bl (Cc kvs (.inl n)).isSome) H):FI C vs H Q
def WW(C:J):Sp:=λB H Q x=>FI C B H Q
def Sm(H:Hp)(t wl B:J)(xs:List V)(kvs:List (Dm×V))(d r n:Int)(v:V):Hp:=upd (upd (upd H t (.tup #[.int d,.int r,.int n,v])) wl (.lst (xs++#[.ref t]))) B (.dK (Ck kvs (.inl n) (.bl eP)))
inductive HC(C:J)(vs:List V)(H:Hp)(Q:VK):Prop
 |mk (x:_) (wl:_) (nl:_) (xs:_) (kvs:_) (d r n:Int) (v:_) (z0:vs=#[.ref x,.int d,.int r,.int n,v]) (z1:Dy C H x wl nl) (z2:H wl=oL xs) (z3:xs.length<1000) (z4:H nl=g (.dK kvs)) (z5:kvs.length<1000) (z6:∀t,H t=U->Q .non (Sm H t wl nl xs kvs d r n v)):HC C vs H Q
def SR(C:J):Sp:=λB H Q x=>HC C B H Q
structure dM where
 d:Int
 k:Int
 n:Int
 ev:eU
 ct:Int
 vs:List V
def Py(z:LF):dM:=[z.d,0,z.n,z.ev,z.ct,z.vs]
def SG(n d:Int)(B:eU)(ct:Int):dM:=[d,1,n,B,ct,#[.int n,.int d,.str B,.int ct]]
abbrev Wl:=J×dM
def AH(e:Wl):List V:=#[.int e.2.d,.int e.2.k,.int e.2.n,.ref e.1]
def ID(e:Wl):List Int:=#[e.2.d,e.2.k,e.2.n]
def w0:Wl:=(0,[0,0,0,"",0,[]])
theorem BV{K:a'}:∀{xs} {es},TsAt AH H xs es->dH K H xs (es.map ID)
 |[],[],_=>trivial
 |[],_::_,h=>h.elim
 |_::_,[],h=>h.elim
 |x::xs,e::es,[[t,B,h],r]=>[[t,e.2.d,e.2.k,e.2.n,.ref e.1,B,Bh.of h,I],BV r]
inductive NL(C T:J)(vs:List V)(H:Hp)(Q:VK):Prop
 |mk (x:_) (wl:_) (nl:_) (xs:_) (es:List Wl) (day:Int) (z0:vs=#[.ref x,.int day]) (z1:Dy C H x wl nl) (z2:H wl=oL xs) (z3:TsAt AH H xs es) (z4:es.length<64) (z5:LamAt T Ia Lm H) (z6:∀wl' r ys zs es' H',(∀b o,H b=g o->b≠T->b≠x->H' b=g o)->Dy C H' x wl' nl->H wl'=U->H r=U->wl'≠r->H' wl'=oL ys->TsAt AH H' ys (es.filter λe=>decide (day<e.2.d))->H' r=oL zs->TsAt AH H' zs es'->es'.Perm (es.filter λe=>decide (e.2.d<=day))->es'.Pairwise (YF ID)->LamAt T Ia Lm H'->Q (.ref r) H'):NL C T vs H Q
def WU(C T:J):Sp:=λB H Q x=>NL C T B H Q
section
variable {P:eY} {w:fF} {K:a'} {mg:eU->Option eJ} {base:fK} (l:Pm P w K mg base)
def WZ:Jk l 1 "Days" Bc #["self"] (TX Bc):=SW l.z l.bc l.jw #["self"] df λf H Q d h=>by
 let[x,N,rfl,X,q]:=h;refine[_,(Ac (Cq (pv 0) (Bu Eg) I)
   (Ad (Cq (pv 0) Ff I))),?_]
 refine[de _,λj L=>?_];let B:=Aa L (.lst []);let c:upd H j (.lst []) j=oL []:=Ab;generalize upd H j (.lst [])=T at B c;let C:j≠x:=(Af X L).symm;refine[_,I,x,Bc,N,_,I,B _ _ X,l.bc.cl,l.az,Y,?_];let W:upd T x (.ins Bc N (By "waiting" (.ref j) [])) x=oI Bc N #[("waiting",.ref j)]:=Ab;let R:∀b o,T b=g o->b≠x->upd T x (.ins Bc N (By "waiting" (.ref j) [])) b=g o:=λb o z n=>by rw[Aj n];exact z
 generalize upd T x (.ins Bc N (By "waiting" (.ref j) []))=E at W R;intro S F;let O:=Aa F (.dK []);let A:upd E S (.dK []) S=g (.dK []):=Ab;generalize upd E S (.dK [])=k at O A;let M:S≠x:=(Af W F).symm;refine[_,I,x,Bc,N,_,I,O _ _ W,l.bc.cl,l.cu,by show 1<1000;decide,?_];refine q j S _ (λb o z n=>?_) L ?_ ?_ ?_ ?_
 .rw[Aj n]
  exact O _ _ (R _ _ (B _ _ z) n)
 .cases z:H S with
  |none=>rfl
  |some o=>rw[R _ _ (B _ _ z) M]at F;cases F
 .rw[Ab];rfl
 .rw[Aj C]
  exact O _ _ (R _ _ c C)
 .rw[Aj M]
  exact A
def B3:Jm l 1 Bc "has_number" #["self","number"] (WW Bc):=BR l.z l.jc l.bc.cl #["self","number"] df λO H Q N h=>by
 let j:=Gq N;let[x,B,F,M,n,rfl,[C,L],S,q]:=h;refine[_,(Ad (Ar (SA (NN j (pv 1) (Bd (pv 0) I))))),?_];exact[_,I,_,I,x,Bc,C,_,_,I,L,l.bc.cl,l.cu,fN B F,F,_,I,cD.k (k:=.inl n) S,q]
def XO:Jm l 1 Bc "put" #["self","day","rank","number","row"] (SR Bc):=BR l.z l.tm l.bc.cl #["self","day","rank","number","row"] df λc H Q A h=>by
 let E:=Gq A;let[x,j,L,O,T,d,r,n,v,rfl,[R,N],S,b,X,lk,q]:=h;refine[_,(Ac (Bk (Ed (K:=K) I fG gA fZ Dq (Bd (pv 0) I) (Bz (Bl (Ai (pv 1) (Ai (pv 2) (Ca (pv 3) (pv 4))))))))
   (Ad (Fs E (Bd (pv 0) I) (pv 3) Da I))),?_]
 let F:4<=sizeLine:=by rw[ck];decide
 refine[_,I,x,Bc,R,_,_,I,N,l.bc.cl,l.az,fW j L,.inl [I,_,Am.of S],_,I,_,I,_,I,_,I,F,λt W=>?_];let C:=Aa W (.tup #[.int d,.int r,.int n,v]);refine[j,O,_,I,I,C _ _ S,by rw[ck];lia,?_];let B:upd (upd H t (.tup #[.int d,.int r,.int n,v])) j (.lst (O++#[.ref t])) x=oI Bc R #[("waiting",.ref j),("numbers",.ref L)]:=by
  rw[Aj (Br N S (by intro z;cases z))];exact C _ _ N
 let M:upd (upd H t (.tup #[.int d,.int r,.int n,v])) j (.lst (O++#[.ref t])) L=g (.dK T):=OW (C _ _ X) (C _ _ S) _;exact[_,I,x,Bc,R,_,_,I,B,l.bc.cl,l.cu,fN j L,_,I,L,_,I,cM.k (k:=.inl n) M (by rw[ck];lia),q t W]
def Tp:Bg #["self","day","due"] #["self","day"] (Ao Iv):=by injections
seal L2.PS L2.PSs L2.PE L2.PA
def Tw(l:Pm P w K mg base){f c TT:J}(F:cF K "up_to" "Days.up_to" Iv f fd)(hc:fd.code=.ref c)(CH:vQ base c TT)(ac:BI mg base):Bp P w K mg base Fv 5 f fd #["self","day"] (WU Bc TT):=by
 let sc:=Tp;refine F.okC hc sc (λvs H Q E h=>?_) (λA a0 s H vs Q E hr h=>?_)
 .let[_,_,_,_,_,_,rfl,_]:=h
  rfl
 let[x,wl,R,xs,es,S,rfl,[O,W],hw,en,le,ag,q]:=h;refine[_,(Ac (Ht (NC:=#["entry","day"]) (own:=#["entry"]) (cs:=#["day"]) (ix:=#[1]) (j:=2) sc.nd I I I (Au.of I) I [[I,.inl I,I],trivial] (Jz K (Bd (pv 0) I)) (λ_ _ _=>(Oh 0)) (λ_ _ _=>(Hu (Ay Ke (Ej K (pv 0) Ae) (pv 1) (Be _)))) (λ_ _ _=>(pv 0)))
   (Ac (Cq (pv 0) (Fg (NC:=#["entry","day"]) (own:=#["entry"]) (cs:=#["day"]) (ix:=#[1]) I (Au.of I) I [[I,.inl I,I],trivial] (Jz K (Bd (pv 0) I)) (λ_ _ _=>(Oh 0)) (λ_ _ _=>(Hu (Ay Pc (Ej K (pv 0) Ae) (pv 1) (Be _)))) (λ_ _ _=>(pv 0))) I)
   (Ad (Ar (AS (pv 2) (VF [I,I,I,Y,I,G,G] (λ_ _ _ _=>I)) (hr.mono Y) I CH ac I I I I (l.z.nn l.ig)))))),?_]
 refine[_,I,x,Bc,O,_,_,I,W,l.bc.cl,l.az,fW wl R,wl,I,[_,Am.of hw],λp d=>?_];refine W5 (K:=K) (fv:=AH) (λe=>decide (e.2.d<=S)) hw d en Z (λt e B Q _ _ ht q=>?_) (λx B Q q=>[_,I,q]) (λX ez=>?_)
 .exact[_,I,t,_,_,_,I,I,Bh.of ht,I,_,I,_,_,I,I,_,I,q]
 let T:=Aa d (.lst X);let e1:upd H p (.lst X) p=oL X:=Ab;refine Lf #[oR x,oN S,oR p] rfl ?_;generalize upd H p (.lst X)=H1 at T e1;refine[_,I,x,Bc,O,_,_,I,T _ _ W,l.bc.cl,l.az,fW wl R,wl,I,[_,Am.of (T _ _ hw)],λN M=>?_];refine W5 (K:=K) (fv:=AH) (λe=>decide (S<e.2.d)) (T _ _ hw) M (en.mono (Bn T)) Z (λt e B Q _ _ ht q=>?_) (λx B Q q=>[_,I,q]) (λu ey=>?_)
 .exact[_,I,t,_,_,_,I,I,Bh.of ht,I,_,I,_,_,I,I,_,I,q]
 let s2:=Aa M (.lst u);let e2:upd H1 N (.lst u) N=oL u:=Ab;generalize upd H1 N (.lst u)=B at s2 e2;let L:=T.trans s2;let ad:p≠x:=(Af W d).symm;let aa:N≠x:=(Af (T _ _ W) M).symm;let ah:p≠N:=Af e1 M;refine[_,I,x,Bc,O,_,I,L _ _ W,l.bc.cl,l.az,by show 2<1000;decide,?_];rw[pW];let e3:upd B x (.ins Bc O #[("waiting",.ref N),("numbers",.ref R)]) x=oI Bc O #[("waiting",.ref N),("numbers",.ref R)]:=Ab;let k:∀b o,B b=g o->b≠x->upd B x (.ins Bc O #[("waiting",.ref N),("numbers",.ref R)]) b=g o:=λb o z n=>by rw[Aj n];exact z
 let C:LamAt TT Ia Lm (upd B x (.ins Bc O #[("waiting",.ref N),("numbers",.ref R)])):=(ag.same L).ins (L _ _ W) _;let t3:II B (upd B x (.ins Bc O #[("waiting",.ref N),("numbers",.ref R)])):=λt X z=>by
  rw[Aj (Br z (L _ _ W) (by intro y;cases y))];exact z
 generalize upd B x (.ins Bc O #[("waiting",.ref N),("numbers",.ref R)])=v at e3 k C t3;let ab:TsAt AH v X (es.filter λe=>decide (e.2.d<=S)):=(ez.mono (Bn L)).mono t3;let ae:TsAt AH v u (es.filter λe=>decide (S<e.2.d)):=(ey.mono (Bn s2)).mono t3;let lz:=ab.len;let lf:(es.filter λe=>decide (e.2.d<=S)).length<=es.length:=ni _ _;refine[_,I,p,X,_,I,Am.of (k _ _ (s2 _ _ e1) ad),BV ab,Z,C,λpm a H4 r m L4 d hu ha=>?_];let hT:∃ps,v TT=g (.tbl ps):=by
  rcases C with z|⟨_,z,_⟩
  .exact[_,z]
  .exact[_,z]
 let[ai,hT]:=hT;let nT:∀b o,v b=g o->(∀ps,o≠.tbl ps)->b≠TT:=λb o z n y=>by rw[y,hT]at z;cases z;exact n _ I
 let t4:II v H4:=λt us z=>m _ _ z (nT _ _ z λ_ y=>by cases y);rw[lz]at d hu;let[af,pw]:=cI w0 ID d hu;refine q N a u _ _ H4 (λb o z n1 n2=>m _ _ (k _ _ (L _ _ z) n2) n1) [O,m _ _ e3 (nT _ _ e3 λ_ y=>by cases y)] (T.free M) ?_ ?_ (m _ _ (k _ _ e2 aa) (nT _ _ (k _ _ e2 aa) λ_ y=>by cases y)) (ae.mono t4) ha ?_ af pw L4
 .cases z:H a with
  |none=>rfl
  |some o=>
   by_cases nx:a=x
   .rw[nx,e3]at r;cases r
   .rw[k _ _ (L _ _ z) nx]at r;cases r
 .intro z
  rw[<- z,k _ _ e2 aa]at r;cases r
 .exact(TsAt.pick w0 ab _ λi hi=>by let:=WT d i hi;lia).mono t4
def OG:Jm l 5 Bc "up_to" #["self","day"] (WU Bc TT):=bP l.kb l.v8 l.bc.cl (λf B c F j L=>Tw l F j L l.bi) bd
end
def Hd(l:List Nat):Prop:=(Dg 46 l).length<=4/\∀p∈Dg 46 l,Fx p
instance(l:List Nat):Decidable (Hd l):=by unfold Hd;exact inferInstance
def Er:V->Bool
 |.str z=>decide (Hd z.cps.toList)
 |_=>eM
set_option tactic.hygienic true in
def LL{c:Nat}:∀{l p:List Nat},p∈Dg c l->p.length<=l.length:=by
 intro l
 induction l with
 |nil=>
  intro p B;let e:p=[]:=by simpa[Dg]using B
  rw[e];exact b' _
 |cons a r C=>
  intro p B;unfold Dg at B
  split at B
  .rcases cr.mp B with e|B
   .rw[e];exact de _
   .exact pC (C B)
  .split at B
   .have e:p=#[a]:=by simpa using B
    rw[e,c_,c_];exact vt (de _)
   .rename_i q t z
    rcases cr.mp B with e|B
    .rw[e,c_,c_]
     exact vt (C (by rw[z];exact fk))
    .exact pC (C (by rw[z];exact e_ _ B))
def _root_.L2.TyOf.same{K:a'}{H H':Hp}{x:V}{t:eJ}(h:TyOf K H x t)(s:Ag H H'):TyOf K H' x t:=by
 cases h with
 |non=>exact .non
 |bl b=>exact .bl b
 |int i=>exact .int i
 |str i=>exact .str i
 |flt i=>exact .flt i
 |lst e=>exact .lst (s _ _ e)
 |frz e=>exact .frz (s _ _ e)
 |tup e=>exact .tup (s _ _ e)
 |dK e=>exact .dK (s _ _ e)
 |dT e=>exact .dT (s _ _ e)
 |ins e B F S j L=>exact .ins (s _ _ e) B F S j L
inductive B5(K:a')(vs:List V)(H:Hp)(Q:VK):Prop
 |mk (x:_) (T:_) (z0:vs=#[x]) (z1:TyOf K H x (.type T)) (z2:okX x) (z3:∀H',Ag H H'->Q (.bl (Er x)) H'):B5 K vs H Q
def KD(K:a'):Sp:=λB H Q x=>B5 K B H Q
def VE(n d:Int)(B C H:List Nat)(c:Int):Prop:=Hr 1000000000 (.int n)=eP/\Hr 1000000 (.int d)=eP/\(Hd B/\B.length<=900)/\Fx C/\Fx H/\Hr 999999999999 (.int c)=eP/\1<=c
section
seal L2.PS L2.PSs L2.PE
variable {P:eY} {w:fF} {K:a'} {mg:eU->Option eJ} {base:fK} (b:Pm P w K mg base)
def Wh:Jc b 3 "is_event" #["thing"] (KD K):=Iw b.z b.sv #["thing","names","name"] df λE H Q k h=>by
 let[x,ty,rfl,S,ok,q]:=h;refine[_,(Ac (Bj (Bt (Bm (Nu Dv b.z b.ad (Ca (pv 0) (Kq "str" rfl (b.z.nn b.gr) I)))))
    (Ad (Ar Da))
    At)
   (Ac (Dp E 1 (Ed (K:=K) I PySem.F.plainAttrs_str PySem.F.slot_str_split PySem.F.type_str_split EY (pv 0) (Bz Bo)))
   (Ac (Bj (Ay Pc (Cw (Dr (K:=K) I) I (b.z.nn b.ax) (show fz _=g (.builtin "len") from rfl) (Bz (pv 1))) (Lb b.z b.qw) (Be _))
    (Ad (Ar Da))
    At)
   (Ac (Cj fH I (Jz K (pv 1)) (Gi E 2)
    (Ad (Bj (Bt (Bm (Do (Kf b) k (Bz (pv 2)))))
    (Ad (Ar Da))
    At)))
   (Ad (Ar Da)))))),?_]
 refine[_,I,_,_,_,_,_,I,Jv,S,Y1 S,_,I,?_];cases x with
 |str z=>
  let u:=ok z I;obtain⟨l,rfl⟩:∃l,z=tx l:=[_,(HX z).symm];let v:l.length<=900:=by rw[<- Gm];exact u
  let r:Er (.str (tx l))=decide (Hd l):=rfl;rw[r]at q;refine Cg [_,I,I,_,_,I,I,I,by rw[ck];omega,λp f=>?_];let s:(fM ".")=tx #[46]:=by ac_nf
  let m:pL (tx l) (fM ".")=(Dg 46 l).map tx:=by rw[s,Y4]
  rw[m];let O:=Aa f (.lst (iF V.str ((Dg 46 l).map tx)));let R:upd H p (.lst (iF V.str ((Dg 46 l).map tx))) p=oL (iF V.str ((Dg 46 l).map tx)):=Ab;generalize upd H p (.lst (iF V.str ((Dg 46 l).map tx)))=t at O R;let X:(iF V.str ((Dg 46 l).map tx)).length=(Dg 46 l).length:=by rw[cn,cn]
  refine[_,I,p,_,I,.inl (Am.of R),_,_,I,I,_,I,?_];by_cases C:(4:Int)<(iF V.str ((Dg 46 l).map tx)).length
  .refine dT C ?_
   rw[eZ (λy:Hd l=>by let:=y.1;rw[X]at C;omega)]at q;exact q _ O
  refine dF C [_,I,p,I,[_,Am.of R],Fq (K:=K) (a:=p) (xs:=iF V.str ((Dg 46 l).map tx)) (λi T M=>((∃o,T=#[oS (tx l),oR p,o])/\M=t)/\∀j y,j<i->(Dg 46 l)[j]?=g y->Fx y) [[[U,I],I],λ_ _ z=>fA z (t_ _)] (λi T M _ ⟨⟨_,e⟩,_⟩=>by rw[e];exact Am.of R) ?_ ?_]
  .rintro i y T M N ⟨⟨⟨o,rfl⟩,rfl⟩,F⟩
   rw[jk,jk]at N;cases L:(Dg 46 l)[i]? with
   |none=>rw[L]at N;cases N
   |some c=>
    rw[L]at N;cases N;let lc:c.length<=900:=fO (LL (kS L)) v;refine[_,I,_,_,I,.str _,(λz e=>by cases e;rw[Gm];exact lc),_,I,?_];show if (!decide (Fx c))=eP then _ else _;by_cases B:Fx c
    .refine nF B [[[_,I],I],λj d W A=>?_]
     by_cases e:j=i
     .subst e
      rw[L]at A;cases A;exact B
     .exact F j d zY A
    .refine nT B ?_
     rw[eZ (λy:Hd l=>B (y.2 _ (kS L)))]at q;exact q _ O
  .rintro T M ⟨⟨⟨o,rfl⟩,rfl⟩,F⟩
   rw[eT (show Hd l from [by rw[X]at C;omega,λy n=>by let[j,W,e]:=pb n;exact F j y (by rw[X];exact W) (by rw[hD W,e])])]at q;exact q _ O
 |_=>exact En (q _ (Ag.refl _))
def Jo:Jc b 2 "is_number" #["thing"] (GV K 1000000000):=Iw b.z b.rj #["thing"] df λC H Q B h=>by
 let[x,M,rfl,L,q]:=h;refine[_,(Ad (Ar (Jn (Do (Li b) B (Bz (pv 0))) (Ho (Nm Ke Ke Ae (pv 0) (Lb b.z b.pf)))))),?_];refine[_,I,_,_,I,L,_,I,?_];cases x with
 |int i=>
  refine En [_,I,_,_,I,I,_,I,?_];by_cases F:(0:Int)<=i
  .refine dT F [_,_,I,I,?_]
   show Q (.bl (decide (i<=1000000000))) H;let e:decide (0<=i/\i<=1000000000)=decide (i<=1000000000):=by
    by_cases j:i<=1000000000
    .rw[eT j,eT [F,j]]
    .rw[eZ j,eZ (λy=>j y.2)]
   rw[<- e];exact q
  .refine dF F ?_
   rw[show Hr 1000000000 (.int i)=eM from eZ (λy=>F y.1)]at q;exact q
 |_=>exact Cg q
def Yb:Jc b 2 "is_day" #["thing"] (GV K 1000000):=Iw b.z b.ul #["thing"] df λC H Q B h=>by
 let[x,M,rfl,L,q]:=h;refine[_,(Ad (Ar (Jn (Do (Li b) B (Bz (pv 0))) (Ho (Nm Ke Ke Ae (pv 0) (Lb b.z b.tq)))))),?_];refine[_,I,_,_,I,L,_,I,?_];cases x with
 |int i=>
  refine En [_,I,_,_,I,I,_,I,?_];by_cases F:(0:Int)<=i
  .refine dT F [_,_,I,I,?_]
   show Q (.bl (decide (i<=1000000))) H;let e:decide (0<=i/\i<=1000000)=decide (i<=1000000):=by
    by_cases j:i<=1000000
    .rw[eT j,eT [F,j]]
    .rw[eZ j,eZ (λy=>j y.2)]
   rw[<- e];exact q
  .refine dF F ?_
   rw[show Hr 1000000 (.int i)=eM from eZ (λy=>F y.1)]at q;exact q
 |_=>exact Cg q
end
def TB:Option Int->V
 |none=>.non
 |some d=>.int d
def IN(c:Option Int)(B:Int):Prop:=∀d,c=g d->d<B
inductive DH  (vs:List V)(H:Hp)(Q:VK):Prop
 |mk (a:_) (kvs:_) (v:_) (n:Int) (z0:vs=#[.ref a,.int n]) (z1:H a=g (.dK kvs)) (z2:Cc kvs (.inl n)=g v) (z3:0<=n) (z4:n<=1000000000) (z5:Q .non H):DH  vs H Q
def VG:Sp:=λB H Q x=>DH  B H Q
section
variable {P:eY} {w:fF} {K:a'} {mg:eU->Option eJ} {base:fK}
def D1(C:Pm P w K mg base):Jc C 3 "check_told" #["kept","number"] VG:=Iw C.z C.i6 #["kept","number"] df λO H Q M h=>by
 let j:=Gq M;let[a,N,v,n,rfl,F,B,S,L,q]:=h;refine[_,(Ad (Bj (PW.pt (Fb (Bt (Bm (Do (Jo C) M (Bz (pv 1))))) (Ea (FC (Vn j (pv 1) (pv 0))))))
    (Ad Fn)
    At)),?_]
 let e:Hr 1000000000 (.int n)=eP:=eT [S,L];refine[_,I,_,_,I,.int _,?_];rw[e];refine[_,I,(Cg [_,I,_,I,a,_,I,cD.k (k:=.inl n) F,?_])];rw[B];exact[_,I,Cg q]
end
def Ql(C:J)(f:eU):Sp:=λB H Q x=>∃a v,B=#[.ref a,v]/\H a=g (IJ a (.ref C) U)/\∀d,H d=U->d≠a->Q .non (upd (upd H a (IJ a (.ref C) (g d))) d (.xd #[(f,v)]))
def dY(C:J)(f:eU)(n:Int)(H:Hp)(E:XK):Prop:=∀d B,Ag H B->B d=g (.xd #[(f,.int n)])->E (.ref C) (g d) B
def Rx{a d:J}(k:Ag H c)(S:c a=U)(L:upd c a f d=U):Ag H (unt (upd (upd (upd c a f) a p) d l) a):=λb o e=>by
 let j:=k b o e;let F:b≠a:=λz=>by rw[z,S]at j;cases j
 let B:b≠d:=λz=>by rw[<- z,Aj F,j]at L;cases L
 rw[Mj F,Aj B,Aj F,Aj F,j]
def Lt(c:Option Int)(B:Int)(H:Hp)(C:J)(E:XK):Prop:=∀d,c=g d->B<=d->dY C "day" d H E
inductive QB(CL:J)(vs:List V)(H:Hp)(Q:VK)(E:XK):Prop
 |mk (c:_) (day:Int) (z0:vs=#[TB c,.int day]) (z1:IN c day->Q .non H) (z2:Lt c day H CL E)
inductive OU(CL CT CD:J)(vs:List V)(H:Hp)(Q:VK)(E:XK):Prop
 |mk (x:_) (wl:_) (nl:_) (kvs:_) (c:_) (n day:Int) (z0:vs=#[.ref x,TB c,.int n,.int day]) (z1:Dy CD H x wl nl) (z2:H nl=g (.dK kvs)) (z3:Cc kvs (.inl n)=U->IN c day->Q .non H)
  (z4:Cc kvs (.inl n)≠U->dY CT "number" n H E) (z5:Cc kvs (.inl n)=U->Lt c day H CL E)
def aK:Option Int->Int->Bool
 |none,_=>eP
 |some d,B=>decide (d<B)
inductive PP(K:a')(CE:J)(vs:List V)(H:Hp)(Q:VK)(E:XK):Prop
 |mk (c:_) (v:V) (T:String) (z0:vs=#[TB c,v]) (z1:TyOf K H v (.type T)) (z2:∀day:Int,v=.int day->0<=day->day<=1000000->Q (.bl (aK c day)) H) (z3:Hr 1000000 v=eM->E (.ref CE) U H)
inductive PY(CT:J)(vs:List V)(H:Hp)(Q:VK)(E:XK):Prop
 |mk (a:_) (kvs:_) (n:Int) (z0:vs=#[.ref a,.int n]) (z1:H a=g (.dK kvs)) (z2:0<=n) (z3:n<=1000000000) (z4:Cc kvs (.inl n)≠U->Q .non H) (z5:Cc kvs (.inl n)=U->E (.ref CT) U H)
def Tt:V->Bool
 |.int c=>decide (1<=c)
 |_=>eM
def Dd(L M C N H B:V):Bool:=Hr 1000000000 L&&Hr 1000000 M&&Er C&&nameV N&&nameV H&&Hr 999999999999 B&&Tt B
inductive WS(K:a')(CE:J)(vs:List V)(H:Hp)(Q:VK)(E:XK):Prop
 |mk (v0 v1 v2 v3 v4 v5:V) (T0 T1 T2 T3 T4 T5:String) (z0:vs=#[v0,v1,v2,v3,v4,v5]) (t0:TyOf K H v0 (.type T0)) (t1:TyOf K H v1 (.type T1)) (t2:TyOf K H v2 (.type T2)) (t3:TyOf K H v3 (.type T3)) (t4:TyOf K H v4 (.type T4)) (t5:TyOf K H v5 (.type T5))
  (o2:okX v2) (o3:okX v3) (o4:okX v4) (zq:Dd v0 v1 v2 v3 v4 v5=eP->∀p H',Ag H H'->H p=U->H' p=oT #[v0,v1,v2,v3,v4,v5]->Q (.ref p) H') (ze:Dd v0 v1 v2 v3 v4 v5=eM->∀H',Ag H H'->E (.ref CE) U H')
section
seal L2.PS L2.PSs L2.PE L2.PA
variable {P:eY} {w:fF} {K:a'} {mg:eU->Option eJ} {base:fK}
def Om:Bg #["self","day"] #["self","day"] (Ao Gk):=by injections
def Oa(B:Pm P w K mg base){f:J}(F:cF K "__init__" "Late.__init__" Gk f b):Bp P w K mg base Fv 1 f b #["self","day"] (Ql Ci "day"):=by
 let sc:=Om;bv_omega
 .let[_,_,rfl,_]:=h
  rfl
 let[e,n,rfl,L,q]:=h;refine[_,(Ad (Q2 (pv 0) (pv 1) I)),?_];exact[_,I,_,I,e,Ci,I,L,B.r9,λd j C=>q d j C]
def XN(B:Pm P w K mg base):KH P w K mg base 1 "Late" Ci #["self","day"] (Ql Ci "day"):=bC B.z B.j6 B.va bd λf C F=>Oa B F
def Mw:Bg #["self","number"] #["self","number"] (Ao Fz):=by injections
def Na(B:Pm P w K mg base){f:J}(F:cF K "__init__" "Twice.__init__" Fz f b):Bp P w K mg base Fv 1 f b #["self","number"] (Ql Bx "number"):=by
 let sc:=Mw;bv_omega
 .let[_,_,rfl,_]:=h
  rfl
 let[e,n,rfl,L,q]:=h;refine[_,(Ad (Q2 (pv 0) (pv 1) I)),?_];exact[_,I,_,I,e,Bx,I,L,B.mh,λd j C=>q d j C]
def QK(B:Pm P w K mg base):KH P w K mg base 1 "Twice" Bx #["self","number"] (Ql Bx "number"):=bC B.z B.ik B.v6 bd λf C F=>Na B F
def Pt(B:Pm P w K mg base):Pw P w K mg base 3 "check_open" #["closed","day"] (QB Ci):=KQ B.z B.qc #["closed","day"] (dg λN H Q E h=>by
  let[_,_,rfl,_]:=h;rfl) λO H Q E M h=>by
 let[c,j,rfl,q,L]:=h;refine[_,(Ad (Bj (PW.pt (Rj (Ay Xi (pv 0) Fh (Be _)) (Mp (Ay Ke (pv 1) (pv 0) (Be _)))))
    (Ad (Vi Ce I (XN B) (M.mono Y) I (Bz (pv 0))))
    At)),?_]
 cases c with
 |none=>exact[_,I,I,_,I,nF I (Cg (q λd e=>nomatch e))]
 |some d=>
  refine[_,I,I,_,I,nT (λe=>by cases e) [_,I,_,I,_,_,I,I,_,I,?_]];by_cases h:j<=d
  .refine dT h [_,I,Ax (by show 1<=1000;decide),λa F=>?_]
   refine[a,_,I,Ab,λx S C=>[I,x,by rw[Aj C.symm,Ab],?_]];exact L d I h x _ (Rx (Ag.refl _) F S) (by rw[Mj C,Ab];rfl)
  .exact dF h (q λe y=>by cases y;lia)
def Ph(N:Pm P w K mg base):Pw P w K mg base 4 "check_free" #["days","closed","number","day"] (OU Ci Bx Bc):=KQ N.z N.qf #["days","closed","number","day"] (dg λd H Q E h=>by
  let[_,_,_,_,_,_,_,rfl,_]:=h;rfl) λf H Q E R h=>by
 let[x,L,S,O,c,n,j,rfl,F,W,q,A,M]:=h;refine[_,(Ac (Bj (Bm (Cn (B3 N) (R.mono Y) (pv 0) (Bz (pv 2))))
    (Ad (Vi Ce I (QK N) (R.mono Y) I (Bz (pv 2))))
    At)
   (Ad (Bk (Df (Pt N) (R.mono Y) Ce I (Ca (pv 1) (pv 3)))))),?_]
 let[b,B]:=id F;refine[_,I,x,b,_,I,B,WI L S,_,I,x,L,S,O,n,I,F,W,?_];cases e:Cc O (.inl n)with
 |none=>exact[_,I,Cg [_,I,_,I,c,j,I,q e,M e]]
 |some v=>
  refine[_,I,En [_,I,Ax (by show 1<=1000;decide),λa C=>?_]];refine[a,_,I,Ab,λy X T=>[I,y,by rw[Aj T.symm,Ab],?_]];exact A (λz=>nomatch e.symm.trans z) y _ (Rx (Ag.refl _) C X) (by rw[Mj T,Ab])
def Wn(C:Pm P w K mg base):Pw P w K mg base 3 "opens_close" #["closed","day"] (PP K Bi):=KQ C.z C.mz #["closed","day"] (dg λO H Q E h=>by
  let[_,_,_,rfl,_]:=h;rfl) λR H Q E N h=>by
 let[c,v,B,rfl,M,q,S]:=h;refine[_,(Ac (Bj (Bt (Bm (Do (Yb C) N (Bz (pv 1)))))
    (Ad (Es Ce I (GL C.z C.am C.ar) I (Bz Bo)))
    At)
   (Ad (Ar (NJ (Gw Oo (pv 0) Fh (Be _)) (Ho (Gw Pc (pv 1) (pv 0) (Be _))))))),?_]
 refine[_,I,_,_,I,M,?_];cases e:Hr 1000000 v with
 |false=>exact[_,I,En [Ax (by show 1<=1000;decide),S e]]
 |true=>
  obtain⟨j,rfl,L,F⟩:∃j:Int,v=.int j/\0<=j/\j<=1000000:=by
   cases v<;>first|(let e:=fE e;exact[_,I,e.1,e.2])|cases e
  let q:=q j I L F;refine[_,I,Cg ?_];cases c with
  |none=>exact[_,I,I,_,I,dT I q]
  |some d=>exact[_,I,I,_,I,dF (λe=>by cases e) [_,I,_,I,_,_,I,I,q]]
def Gf(M:Pm P w K mg base):Pw P w K mg base 3 "check_told" #["kept","number"] (PY Bq):=KQ M.z M.i6 #["kept","number"] (dg λR H Q E h=>by
  let[_,_,_,rfl,_]:=h;rfl) λT H Q E O h=>by
 let j:=Gq O;let[a,N,n,rfl,L,B,S,q,C]:=h;refine[_,(Ad (Bj (PW.pt (Fb (Bt (Bm (Do (Jo M) O (Bz (pv 1))))) (Ea (FC (Vn j (pv 1) (pv 0))))))
    (Ad (Es Ce I (GL M.z M.j7 M.ug) I (Bz Bo)))
    At)),?_]
 let e:Hr 1000000000 (.int n)=eP:=eT [B,S];refine[_,I,_,_,I,.int _,?_];rw[e];refine[_,I,(Cg [_,I,_,I,a,_,I,cD.k (k:=.inl n) L,?_])];cases F:Cc N (.inl n)with
 |none=>exact[_,I,En [Ax (by show 1<=1000;decide),C F]]
 |some v=>exact[_,I,Cg (q λz=>nomatch F.symm.trans z)]
def Yt(N:Pm P w K mg base):Pw P w K mg base 4 "loss_of" #["number","day","event","thing","cause","cents"] (WS K Bi):=KQ N.z N.tz #["number","day","event","thing","cause","cents"] (dg λi H Q E h=>by
  let[_,_,_,_,_,_,_,_,_,_,_,_,rfl,_]:=h;rfl) λsc H Q E R h=>by
 let[d,r,u,k,v,X,TT,e,x,n,T4,a,rfl,s,b,m,t,f,o,z,l,y,q,L]:=h;refine[_,(Ac (Bj (Bt (Bm (Do (Jo N) R (Bz (pv 0)))))
    (Ad (Es Ce I (GL N.z N.am N.ar) I (Bz Bo)))
    At)
   (Ac (Bj (Bt (Bm (Do (Yb N) R (Bz (pv 1)))))
    (Ad (Es Ce I (GL N.z N.am N.ar) I (Bz Bo)))
    At)
   (Ac (Bj (Bt (Bm (Do (Wh N) R (Bz (pv 2)))))
    (Ad (Es Ce I (GL N.z N.am N.ar) I (Bz Bo)))
    At)
   (Ac (Bj (PW.pt (Fb (Bt (Bm (Do (Kf N) R (Bz (pv 3))))) (Ea (Bt (Bm (Do (Kf N) R (Bz (pv 4))))))))
    (Ad (Es Ce I (GL N.z N.am N.ar) I (Bz Bo)))
    At)
   (Ac (Bj (PW.pt (Fb (Bt (Bm (Do (Lp N) R (Bz (pv 5))))) (Ea (Ay Hv (pv 5) Ae (Be _)))))
    (Ad (Es Ce I (GL N.z N.am N.ar) I (Bz Bo)))
    At)
   (Ad (Ar (Bl (Ai (pv 0) (Ai (pv 1) (Ai (pv 2) (Ai (pv 3) (Ca (pv 4) (pv 5)))))))))))))),?_]
 let O:1<=sizeLine:=Ax (by show 1<=1000;decide);refine[_,I,_,_,I,s,?_];cases F:Hr 1000000000 d with
 |false=>exact[_,I,En [O,L (by unfold Dd;rw[F];rfl) H (Ag.refl _)]]
 |true=>
 refine[_,I,Cg [_,I,_,_,I,b,?_]];cases S:Hr 1000000 r with
 |false=>exact[_,I,En [O,L (by unfold Dd;rw[F,S];rfl) H (Ag.refl _)]]
 |true=>
 refine[_,I,Cg [_,I,_,_,I,m,z,λT j=>?_]];cases C:Er u with
 |false=>exact[_,I,En [O,L (by unfold Dd;rw[F,S,C];rfl) T j]]
 |true=>
 refine[_,I,Cg [_,I,_,_,I,t.same j,l,?_]];cases M:nameV k with
 |false=>exact[_,I,En (En [O,L (by unfold Dd;rw[F,S,C,M];rfl) T j])]
 |true=>
 refine[_,I,Cg [_,I,_,_,I,f.same j,y,?_]];cases B:nameV v with
 |false=>exact[_,I,En [O,L (by unfold Dd;rw[F,S,C,M,B];rfl) T j]]
 |true=>
 refine[_,I,Cg [_,I,_,_,I,o.same j,?_]];cases W:Hr 999999999999 X with
 |false=>exact[_,I,En (En [O,L (by unfold Dd;rw[F,S,C,M,B,W];rfl) T j])]
 |true=>
 obtain⟨c,rfl⟩:∃c:Int,X=.int c:=by
  cases X<;>first|exact[_,I]|cases W
 refine[_,I,Cg [_,I,_,_,I,I,_,I,?_]];by_cases h:c<1
 .exact dT h [O,L (by unfold Dd;rw[F,S,C,M,B,W];exact eZ Z) T j]
 .refine dF h [_,I,_,I,_,I,_,I,_,I,_,I,Ax (by show 6<=1000;decide),λp A=>?_]
  exact q (by unfold Dd;rw[F,S,C,M,B,W];exact eT Z) p _ (j.trans (Aa A _)) (j.free A) Ab
end
def Fl(H C L B:V):Bool:=Hr 1000000000 H&&Hr 1000000 C&&Er L&&Hr 999999999999 B&&Tt B
inductive UC(K:a')(CE:J)(vs:List V)(H:Hp)(Q:VK)(E:XK):Prop
 |mk (v0 v1 v2 v5:V) (T0 T1 T2 T5:String) (z0:vs=#[v0,v1,v2,v5]) (t0:TyOf K H v0 (.type T0)) (t1:TyOf K H v1 (.type T1)) (t2:TyOf K H v2 (.type T2)) (t5:TyOf K H v5 (.type T5))
  (o2:okX v2) (zq:Fl v0 v1 v2 v5=eP->∀p H',Ag H H'->H p=U->H' p=oT #[v0,v1,v2,v5]->Q (.ref p) H') (ze:Fl v0 v1 v2 v5=eM->∀H',Ag H H'->E (.ref CE) U H')
section
seal L2.PS L2.PSs L2.PE L2.PA
variable {P:eY} {w:fF} {K:a'} {mg:eU->Option eJ} {base:fK}
def DS(N:Pm P w K mg base):Pw P w K mg base 4 "back_of" #["number","day","event","cents"] (UC K Bi):=KQ N.z N.ua #["number","day","event","cents"] (dg λs H Q E h=>by
  let[_,_,_,_,_,_,_,_,rfl,_]:=h;rfl) λv H Q E R h=>by
 let[A,d,k,B,TT,r,t,u,rfl,f,X,o,b,l,q,S]:=h;refine[_,(Ac (Bj (PW.pt (Fb (Bt (Bm (Do (Jo N) R (Bz (pv 0))))) (Fb (Bt (Bm (Do (Yb N) R (Bz (pv 1))))) (Ea (Bt (Bm (Do (Wh N) R (Bz (pv 2)))))))))
    (Ad (Es Ce I (GL N.z N.am N.ar) I (Bz Bo)))
    At)
   (Ac (Bj (PW.pt (Fb (Bt (Bm (Do (Lp N) R (Bz (pv 3))))) (Ea (Ay Hv (pv 3) Ae (Be _)))))
    (Ad (Es Ce I (GL N.z N.am N.ar) I (Bz Bo)))
    At)
   (Ad (Ar (Bl (Ai (pv 0) (Ai (pv 1) (Ca (pv 2) (pv 3))))))))),?_]
 let O:1<=sizeLine:=Ax (by show 1<=1000;decide);refine[_,I,_,_,I,f,?_];cases j:Hr 1000000000 A with
 |false=>exact[_,I,En (En [O,S (by unfold Fl;rw[j];rfl) H (Ag.refl _)])]
 |true=>
 refine[_,I,Cg [_,I,_,_,I,X,?_]];cases L:Hr 1000000 d with
 |false=>exact[_,I,En (En [O,S (by unfold Fl;rw[j,L];rfl) H (Ag.refl _)])]
 |true=>
 refine[_,I,Cg [_,I,_,_,I,o,l,λT F=>?_]];cases M:Er k with
 |false=>exact[_,I,En [O,S (by unfold Fl;rw[j,L,M];rfl) T F]]
 |true=>
 refine[_,I,Cg [_,I,_,_,I,b.same F,?_]];cases C:Hr 999999999999 B with
 |false=>exact[_,I,En (En [O,S (by unfold Fl;rw[j,L,M,C];rfl) T F])]
 |true=>
 obtain⟨c,rfl⟩:∃c:Int,B=.int c:=by
  cases B<;>first|exact[_,I]|cases C
 refine[_,I,Cg [_,I,_,_,I,I,_,I,?_]];by_cases h:c<1
 .exact dT h [O,S (by unfold Fl;rw[j,L,M,C];exact eZ Z) T F]
 .refine dF h [_,I,_,I,_,I,_,I,Ax (by show 4<=1000;decide),λp W=>?_]
  exact q (by unfold Fl;rw[j,L,M,C];exact eT Z) p _ (F.trans (Aa W _)) (F.free W) Ab
end
structure Gr(p C dx:J)(H Hk:Hp)(fs:List (eU×V))(xs:List (J×HO)):Prop where
 k:KB p H Hk
 e:Hk p=oI C dx fs
 x:∀q∈xs,Hk q.1=g q.2/\H q.1=U/\q.1≠p
 nd:(xs.map (·.1)).Nodup
def SN{p x:J}{o:HO}(k:KB p H b)(C:b p=g o)(j:b x=U):H x=U/\x≠p:=by
 let B:x≠p:=λe=>by rw[e,C]at j;cases j
 refine[?_,B];cases z:H x with
 |none=>rfl
 |some o=>rw[k _ _ z B]at j;cases j
section
variable {p C dx:J} {H Hk:Hp} {fs:List (eU×V)} {xs:List (J×HO)}
def Gr.begin(h:H p=oI C dx []):Gr p C dx H H [] []:=[λx x e x=>e,h,(λx h=>nomatch h),vi]
def Gr.fld(B:Gr p C dx H Hk fs xs)(f:eU)(v:V){fs':List (eU×V)}(e:By f v fs=fs'):Gr p C dx H (upd Hk p (.ins C dx (By f v fs))) fs' xs:=
 [λb u e n=>by rw[Aj n];exact B.k b u e n,by rw[e];exact Ab,λq j=>by let[a,b,c]:=B.x q j;exact[by rw[Aj c];exact a,b,c],B.nd]
def Gr.out(B:Gr p C dx H Hk fs xs){a:J}(h:Hk a=U):a∉xs.map (·.1):=λm=>by
 let[q,j,e]:=g_.mp m;let z:=(B.x q j).1;rw[e,h]at z;cases z
def Gr.new(B:Gr p C dx H Hk fs xs){a:J}(h:Hk a=U)(o:HO):Gr p C dx H (upd Hk a o) fs ((a,o)::xs):=by
 let s:=Aa h o;refine[λb u e n=>s _ _ (B.k b u e n),s _ _ B.e,λq j=>?_,?_]
 .rcases cr.mp j with rfl|j
  .exact[Ab,SN B.k B.e h]
  .let[x,y,z]:=B.x q j
   exact[s _ _ x,y,z]
 .rw[iw]
  exact lj.mpr [B.out h,B.nd]
def Gr.add(B:Gr p C dx H Hk fs xs){H':Hp}(k:∀b o,Hk b=g o->H' b=g o){a:J}{o:HO}(h:Hk a=U)(e:H' a=g o):Gr p C dx H H' fs ((a,o)::xs):=by
 refine[λb u e n=>k _ _ (B.k b u e n),k _ _ B.e,λq j=>?_,?_]
 .rcases cr.mp j with rfl|j
  .exact[e,SN B.k B.e h]
  .let[x,y,z]:=B.x q j
   exact[k _ _ x,y,z]
 .rw[iw]
  exact lj.mpr [B.out h,B.nd]
def Gr.more(B:Gr p C dx H Hk fs xs){a:J}{o:HO}(h:H a=U)(n:a≠p)(e:Hk a=g o)(L:a∉xs.map (·.1)):Gr p C dx H Hk fs ((a,o)::xs):=by
 refine[B.k,B.e,λq j=>?_,?_]
 .rcases cr.mp j with rfl|j
  .exact[e,h,n]
  .exact B.x q j
 .rw[iw]
  exact lj.mpr [L,B.nd]
end
structure Lg where
 r:J
 b:J
 cp:J
 kp:J
 dy:J
 wl:J
 nl:J
 ol:J
 lr:J
 br:J
 oc:J
 ba:J
 pd:J
 sk:J
 lf:J
 fi:J
def Ly(R:Lg)(c:Option Int):List (eU×V):=#[("book",.ref R.b),("counts",.ref R.cp),("days",.ref R.dy),("closed",TB c),("order",.ref R.ol),("loss_rows",.ref R.lr),("back_rows",.ref R.br),("outcomes",.ref R.oc),("bases",.ref R.ba),("paid",.ref R.pd),("stacks",.ref R.sk),("left",.ref R.lf),("findings",.ref R.fi)]
def Lg.own(R:Lg):List J:=#[R.r,R.cp,R.kp,R.dy,R.wl,R.nl,R.ol,R.lr,R.br,R.oc,R.ba,R.pd,R.sk,R.lf,R.fi]
def Xy(R:Lg)(c:Option Int):(Ly R c).lookup ("book" : eU)=g (.ref R.b):=rfl
def Uo(R:Lg)(c:Option Int):(Ly R c).lookup ("counts" : eU)=g (.ref R.cp):=rfl
def Nl(R:Lg)(c:Option Int):(Ly R c).lookup ("days" : eU)=g (.ref R.dy):=rfl
def Iq(R:Lg)(c:Option Int):(Ly R c).lookup ("closed" : eU)=g (TB c):=rfl
def F0(R:Lg)(c:Option Int):(Ly R c).lookup ("order" : eU)=g (.ref R.ol):=rfl
def Np(R:Lg)(c:Option Int):(Ly R c).lookup ("loss_rows" : eU)=g (.ref R.lr):=rfl
def Wy(R:Lg)(c:Option Int):(Ly R c).lookup ("back_rows" : eU)=g (.ref R.br):=rfl
def Ka(R:Lg)(c:Option Int):(Ly R c).lookup ("outcomes" : eU)=g (.ref R.oc):=rfl
def HI(R:Lg)(c:Option Int):(Ly R c).lookup ("bases" : eU)=g (.ref R.ba):=rfl
def Wq(R:Lg)(c:Option Int):(Ly R c).lookup ("paid" : eU)=g (.ref R.pd):=rfl
def Ut(R:Lg)(c:Option Int):(Ly R c).lookup ("stacks" : eU)=g (.ref R.sk):=rfl
def Lj(R:Lg)(c:Option Int):(Ly R c).lookup ("left" : eU)=g (.ref R.lf):=rfl
def Kl(R:Lg)(c:Option Int):(Ly R c).lookup ("findings" : eU)=g (.ref R.fi):=rfl
def RH(R:Lg)(c:Option Int)(d:Int):By ("closed" : eU) (.int d) (Ly R c)=Ly R (g d):=rfl
inductive WD(CL0 CN CD:J)(vs:List V)(H:Hp)(Q:VK)(E:XK):Prop
 |mk (p dx b:J) (z0:vs=#[.ref p,.ref b]) (z1:H p=oI CL0 dx [])
  (z2:∀(R:Lg) (H':Hp),R.r=p->R.b=b->KB p H H'->(R.own).Nodup->(∀a∈R.own,a=p\/H a=U)->H' R.r=oI CL0 dx (Ly R U)->cG CN H' R.cp R.kp []->Dy CD H' R.dy R.wl R.nl->H' R.wl=oL []->H' R.nl=g (.dK [])->H' R.ol=oL [] ->
   H' R.lr=g (.dK [])->H' R.br=g (.dK [])->H' R.oc=g (.dK [])->H' R.ba=g (.dK [])->H' R.pd=g (.dK [])->H' R.sk=g (.dK [])->H' R.lf=g (.dK [])->H' R.fi=g (.dK [])->Q .non H')
section
seal L2.PS L2.PSs L2.PE L2.PA
variable {P:eY} {w:fF} {K:a'} {mg:eU->Option eJ} {base:fK}
def JR(M:Pm P w K mg base):Jk M 3 "Ledger" Ah #["self","book"] (WD Ah Aw Bc):=SW M.z M.aa M.jd #["self","book"] df λsc H Q hr h=>by
 let[p,X,b,rfl,hp,q]:=h;refine[_,(Ac (Cq (pv 0) (pv 1) I)
   (Ac (Cq (pv 0) (Uz (IZ M) (hr.mono Y) I) I)
   (Ac (Cq (pv 0) (Uz (WZ M) (hr.mono Y) I) I)
   (Ac (Cq (pv 0) Fh I)
   (Ac (Cq (pv 0) (Bu Eg) I)
   (Ac (Cq (pv 0) Ff I)
   (Ac (Cq (pv 0) Ff I)
   (Ac (Cq (pv 0) Ff I)
   (Ac (Cq (pv 0) Ff I)
   (Ac (Cq (pv 0) Ff I)
   (Ac (Cq (pv 0) Ff I)
   (Ac (Cq (pv 0) Ff I)
   (Ad (Cq (pv 0) Ff I)))))))))))))),?_]
 let N:=Gr.begin hp;refine[_,I,_,I,p,Ah,X,_,I,N.e,M.aa.cl,M.bv,(by show 0<1000;decide),?_];replace N:=N.fld (fs':=#[("book",.ref b)]) "book" (.ref b) I;generalize upd H p _=l at N⊢;intro W u C bt nd2;let sC:Ag l (upd (upd l u (.own W)) W (.ins Aw u [])):=λb o e=>by rw[Aj (Af e C),Aj (Af e bt)];exact e
 refine[W,u,I,Ab,(λr H2 kb ct i=>[I,?_])];let[[d4,f4,ec,ax],ek]:=ct;let x:l r=U:=sC.free i;let am:r≠W:=λy=>by rw[y,Ab]at i;cases i
 let bc:∀b o,l b=g o->H2 b=g o:=λb o e=>kb _ _ (sC _ _ e) (Af e C);replace N:=((N.add bc C ec).more (SN N.k N.e x).1 (SN N.k N.e x).2 ek (by rw[iw];exactλy=>(cr.mp y).elim am (N.out x)));refine[_,I,p,Ah,X,_,I,N.e,M.aa.cl,M.cg,(by show 1<1000;decide),?_];replace N:=N.fld (fs':=#[("book",.ref b),("counts",.ref W)]) "counts" (.ref W) I;generalize upd H2 p _=n at N⊢;intro T k m bp cb;let E:Ag n (upd (upd n k (.own T)) T (.ins Bc k [])):=λb o e=>by rw[Aj (Af e m),Aj (Af e bp)];exact e
 refine[T,k,I,Ab,(λf s H4 k4 fw d ey ew en=>[I,?_])];let au:f≠T:=λy=>by rw[y,Ab]at fw;cases fw
 let bg:s≠T:=λy=>by rw[y,Ab]at d;cases d
 let bn:s≠f:=Br en ew (by intro y;cases y);let bz:∀b o,n b=g o->H4 b=g o:=λb o e=>k4 _ _ (E _ _ e) (Af e m);let ac:=SN N.k N.e (E.free fw);let ad:=SN N.k N.e (E.free d);let ow:=N.out (E.free fw);let on:=N.out (E.free d);replace N:=(((N.add bz m ey).more ac.1 ac.2 ew (by rw[iw];exactλy=>(cr.mp y).elim au ow)).more ad.1 ad.2 en (by rw[iw,iw];exactλy=>(cr.mp y).elim bn λy=>(cr.mp y).elim bg on));refine[_,I,p,Ah,X,_,I,N.e,M.aa.cl,M.aw,(by show 2<1000;decide),?_];replace N:=N.fld (fs':=#[("book",.ref b),("counts",.ref W),("days",.ref T)]) "days" (.ref T) I;generalize upd H4 p _=H5 at N⊢;refine[_,I,p,Ah,X,_,I,N.e,M.aa.cl,M.ah,(by show 3<1000;decide),?_];replace N:=N.fld (fs':=#[("book",.ref b),("counts",.ref W),("days",.ref T),("closed",.non)]) "closed" (.non) I;generalize upd H5 p _=H6 at N⊢;refine[de _,λj bj=>?_];replace N:=N.new bj (.lst []);generalize upd H6 j (.lst [])=H7 at N⊢;refine[_,I,p,Ah,X,_,I,N.e,M.aa.cl,M.cz,(by show 4<1000;decide),?_];replace N:=N.fld (fs':=#[("book",.ref b),("counts",.ref W),("days",.ref T),("closed",.non),("order",.ref j)]) "order" (.ref j) I;generalize upd H7 p _=H8 at N⊢;intro F aj;replace N:=N.new aj (.dK []);generalize upd H8 F (.dK [])=v at N⊢;refine[_,I,p,Ah,X,_,I,N.e,M.aa.cl,M.bq,(by show 5<1000;decide),?_];replace N:=N.fld (fs':=#[("book",.ref b),("counts",.ref W),("days",.ref T),("closed",.non),("order",.ref j),("loss_rows",.ref F)]) "loss_rows" (.ref F) I
 generalize upd v p _=ag at N⊢;intro L a0;replace N:=N.new a0 (.dK []);generalize upd ag L (.dK [])=bq at N⊢;refine[_,I,p,Ah,X,_,I,N.e,M.aa.cl,M.dk,(by show 6<1000;decide),?_];replace N:=N.fld (fs':=#[("book",.ref b),("counts",.ref W),("days",.ref T),("closed",.non),("order",.ref j),("loss_rows",.ref F),("back_rows",.ref L)]) "back_rows" (.ref L) I;generalize upd bq p _=bv at N⊢;intro S ao;replace N:=N.new ao (.dK []);generalize upd bv S (.dK [])=av at N⊢;refine[_,I,p,Ah,X,_,I,N.e,M.aa.cl,M.bh,(by show 7<1000;decide),?_];replace N:=N.fld (fs':=#[("book",.ref b),("counts",.ref W),("days",.ref T),("closed",.non),("order",.ref j),("loss_rows",.ref F),("back_rows",.ref L),("outcomes",.ref S)]) "outcomes" (.ref S) I;generalize upd av p _=ar at N⊢;intro O aw;replace N:=N.new aw (.dK []);generalize upd ar O (.dK [])=bm at N⊢;refine[_,I,p,Ah,X,_,I,N.e,M.aa.cl,M.g8,(by show 8<1000;decide),?_];replace N:=N.fld (fs':=#[("book",.ref b),("counts",.ref W),("days",.ref T),("closed",.non),("order",.ref j),("loss_rows",.ref F),("back_rows",.ref L),("outcomes",.ref S),("bases",.ref O)]) "bases" (.ref O) I;generalize upd bm p _=b0 at N⊢;intro B ah;replace N:=N.new ah (.dK []);generalize upd b0 B (.dK [])=ap at N⊢;refine[_,I,p,Ah,X,_,I,N.e,M.aa.cl,M.bw,(by show 9<1000;decide),?_];replace N:=N.fld (fs':=#[("book",.ref b),("counts",.ref W),("days",.ref T),("closed",.non),("order",.ref j),("loss_rows",.ref F),("back_rows",.ref L),("outcomes",.ref S),("bases",.ref O),("paid",.ref B)]) "paid" (.ref B) I
 generalize upd ap p _=bw at N⊢;intro A bl;replace N:=N.new bl (.dK []);generalize upd bw A (.dK [])=be at N⊢;refine[_,I,p,Ah,X,_,I,N.e,M.aa.cl,M.cm,(by show 10<1000;decide),?_];replace N:=N.fld (fs':=#[("book",.ref b),("counts",.ref W),("days",.ref T),("closed",.non),("order",.ref j),("loss_rows",.ref F),("back_rows",.ref L),("outcomes",.ref S),("bases",.ref O),("paid",.ref B),("stacks",.ref A)]) "stacks" (.ref A) I;generalize upd be p _=aq at N⊢;intro c bx;replace N:=N.new bx (.dK []);generalize upd aq c (.dK [])=an at N⊢;refine[_,I,p,Ah,X,_,I,N.e,M.aa.cl,M.ao,(by show 11<1000;decide),?_];replace N:=N.fld (fs':=#[("book",.ref b),("counts",.ref W),("days",.ref T),("closed",.non),("order",.ref j),("loss_rows",.ref F),("back_rows",.ref L),("outcomes",.ref S),("bases",.ref O),("paid",.ref B),("stacks",.ref A),("left",.ref c)]) "left" (.ref c) I;generalize upd an p _=bb at N⊢;intro t af;replace N:=N.new af (.dK []);generalize upd bb t (.dK [])=bi at N⊢;refine[_,I,p,Ah,X,_,I,N.e,M.aa.cl,M.bj,(by show 12<1000;decide),?_];replace N:=N.fld (fs':=Ly [p,b,W,r,T,f,s,j,F,L,S,O,B,A,c,t] U) "findings" (.ref t) I;generalize upd bi p _=v at N⊢;let R:=N.x;let nd:=N.nd;simp only[uC]at R;let[[a1,b1,c1],[a2,b2,c2],[a3,b3,c3],[a4,b4,c4],[a5,b5,c5],[a6,b6,c6],[a7,b7,c7],[a8,b8,c8],[a9,b9,c9],[bu,cc,ak],[az,ca,ay],[bo,ce,ae],[al,cf,as],[bh,cd,ai],_]:=R;refine q [p,b,W,r,T,f,s,j,F,L,S,O,B,A,c,t] v I I N.k ?_ (λa ha=>?_) N.e [[d4,f4,bh,ax],al] [k,bo] az bu a9 a8 a7 a6 a5 a4 a3 a2 a1
 .refine lj.mpr [?_,?_]
  .simp only[cr,j_,gP,not_or]
   exact[ai.symm,as.symm,ae.symm,ay.symm,ak.symm,c9.symm,c8.symm,c7.symm,c6.symm,c5.symm,c4.symm,c3.symm,c2.symm,c1.symm]
  .have z:=List.pairwise_reverse.mpr (List.Pairwise.imp (λh=>fQ h) nd)
   exact z
 .simp only[Lg.own,cr,j_,gP]at ha
  rcases ha with rfl|rfl|rfl|rfl|rfl|rfl|rfl|rfl|rfl|rfl|rfl|rfl|rfl|rfl|rfl
  .exact .inl I
  all_goals exact .inr (by assumption)
end
inductive Kd:Type
 |entry
 |twice (n:Int)
 |late (d:Int)
 |untold
def Kd.nm:Kd->eU
 |.entry => "entry"
 |.twice _ => "twice"
 |.late _ => "late"
 |.untold => "untold"
def YQ(CE B L C:J)(H:Hp)(e:J):Kd->Prop
 |.entry=>H e=g (BS e (.ref CE) U)
 |.twice n=>∃d,H e=g (BS e (.ref B) (g d))/\H d=g (.xd #[("number",.int n)])
 |.late n=>∃d,H e=g (BS e (.ref L) (g d))/\H d=g (.xd #[("day",.int n)])
 |.untold=>H e=g (BS e (.ref C) U)
inductive R0(CE CT CL CN:J)(vs:List V)(H:Hp)(Q:VK)(E:XK):Prop
 |mk (e:J) (k:Kd) (z0:vs=#[.ref e]) (z1:YQ CE CT CL CN H e k) (z2:∀p H',Ag H H'->H p=U->H' p=oT #[.str k.nm]->Q (.ref p) H')
section
seal L2.PS L2.PSs L2.PE L2.PA
variable {P:eY} {w:fF} {K:a'} {mg:eU->Option eJ} {base:fK}
def Ub:Bg #["_law_error","_law_told"] #["_law_error"] (Ao Jd):=by injections
def Uf(N:Pm P w K mg base){f:J}(F:cF K "_law_class" "_law_class" Jd f fd):Zc P w K mg base 1 f fd #["_law_error"] (R0 Bi Bx Ci Bq):=by
 let sc:=Ub;refine F.okH sc (λvs H Q E h=>?_) (λa1 A a0 s H vs Q E hr h=>?_)
 .let[_,_,rfl,_]:=h
  rfl
 let[e,k,rfl,X,q]:=h;refine[_,(Ac (Dp sc 1 (Bu (Ca (Cw (Ft (K:=K)) I (N.z.nn N.ad) (show fz _=g (.builtin "isinstance") from rfl) (Ca (pv 0) (Rk I (N.z.nv N.am)))) (Cw (Ft (K:=K)) I (N.z.nn N.ad) (show fz _=g (.builtin "isinstance") from rfl) (Ca (pv 0) (Rk I (N.z.nv N.ik)))))))
   (Ac (Dp sc 1 (As Xo (pv 1) (Bu (Ca (Cw (Ft (K:=K)) I (N.z.nn N.ad) (show fz _=g (.builtin "isinstance") from rfl) (Ca (pv 0) (Rk I (N.z.nv N.j6)))) (Cw (Ft (K:=K)) I (N.z.nn N.ad) (show fz _=g (.builtin "isinstance") from rfl) (Ca (pv 0) (Rk I (N.z.nv N.j7))))))))
   (Ac (Bj (PW.pt (Fb (Bt (Bm (Cw (Ft (K:=K)) I (N.z.nn N.ad) (show fz _=g (.builtin "isinstance") from rfl) (Ca (pv 0) (Kq "ValueError" rfl (N.z.nn N.ie) I))))) (Ea (Ay FE (Ed (K:=K) I fG PySem.F.slot_list_count PySem.F.type_list_count HY (pv 1) (Bz Da)) Ae (Be _)))))
    (Ad (Ar (Bl (Bz Bo))))
    At)
   (Ad (Ar (Nv K (Bu (Ai (Bl (Bz Bo)) (Ai (Bl (Bz Bo)) (Ca (Bl (Bz Bo)) (Bl (Bz Bo)))))) (Ed (K:=K) I fG PySem.F.slot_list_index PySem.F.type_list_index (AC (K:=K) I) (pv 1) (Bz Da)))))))),?_]
 let aa:2<=sizeLine:=Ax (by show 2<=1000;decide);let O:1<=sizeLine:=Ax (by show 1<=1000;decide);let S:4<=sizeLine:=Ax (by show 4<=1000;decide);cases k with
 |entry=>
  let C:=N.ue;let r:Nh H e Bi:=.inl X;refine[_,I,e,_,_,_,_,I,r,C,Eo,N.jf,_,I,e,_,_,_,_,I,r,C,Eo,N.kc,aa,λR n1=>?_];let W:=Aa n1 (.lst #[V.bl eP,.bl eM]);let v:upd H R (.lst #[V.bl eP,.bl eM]) R=oL #[V.bl eP,.bl eM]:=Ab;generalize upd H R (.lst #[V.bl eP,.bl eM])=b at W v;let B:Nh b e Bi:=.inl (W _ _ X);refine[_,I,_,I,e,_,_,_,_,I,B,C,Eo,N.m7,_,I,e,_,_,_,_,I,B,C,Eo,N.jg,aa,λT n2=>?_];let c:=Aa n2 (.lst #[V.bl eM,.bl eM]);let o:upd b T (.lst #[V.bl eM,.bl eM]) T=oL #[V.bl eM,.bl eM]:=Ab;generalize upd b T (.lst #[V.bl eM,.bl eM])=t at c o;refine[R,T,_,_,I,I,c _ _ v,o,S,λL n3=>?_];let p:=Aa n3 (.lst (#[V.bl eP,.bl eM]++#[V.bl eM,.bl eM]));let M:upd t L (.lst (#[V.bl eP,.bl eM]++#[V.bl eM,.bl eM])) L=oL #[V.bl eP,.bl eM,.bl eM,.bl eM]:=Ab;refine Lf #[oR e,oR L] rfl ?_;generalize upd t L (.lst (#[V.bl eP,.bl eM]++#[V.bl eM,.bl eM]))=H3 at p M;let j:=(W.trans c).trans p;let ab:Nh H3 e Bi:=.inl (j _ _ X);refine[_,I,e,_,_,_,_,I,ab,C,Jv,N.uf,_,I,Cg ?_];refine[_,I,.inl [I,_,Am.of M],L,_,_,I,I,Am.of M,I,I,?_];refine[I,_,I,nF I ?_];refine[O,λt1 m1=>[O,λt2 m2=>[O,λt3 m3=>[O,λt4 m4=>[S,λl4 n4=>?_]]]]];let y:=Aa m1 (.tup #[V.str "entry"]);let a:=Aa m2 (.tup #[V.str "twice"]);let i:=Aa m3 (.tup #[V.str "late"]);let x:=Aa m4 (.tup #[V.str "untold"]);let u:=Aa n4 (.lst #[V.ref t1,.ref t2,.ref t3,.ref t4])
  let l:=(((y.trans a).trans i).trans x).trans u;let h5:=j.trans l;refine[_,I,.inl [I,_,Am.of (l _ _ M)],L,_,_,0,I,I,Am.of (l _ _ M),I,I,Y,[_,I,I],(λm z hm hz=>by rcases m with _|_|_|_<;>first|(cases hz;rfl)|(exfalso;lia)),?_];exact[_,_,_,_,I,I,Am.of Ab,I,q t1 _ h5 (j.free m1) ((((a.trans i).trans x).trans u) _ _ Ab)]
 |twice n=>
  let[d,X,hd]:=X;let C:=N.ml;let r:Nh H e Bx:=.inr [d,_,X,hd];refine[_,I,e,_,_,_,_,I,r,C,Eo,N.kf,_,I,e,_,_,_,_,I,r,C,Eo,N.pq,aa,λR n1=>?_];let W:=Aa n1 (.lst #[V.bl eM,.bl eP]);let v:upd H R (.lst #[V.bl eM,.bl eP]) R=oL #[V.bl eM,.bl eP]:=Ab;generalize upd H R (.lst #[V.bl eM,.bl eP])=b at W v;let B:Nh b e Bx:=.inr [d,_,W _ _ X,W _ _ hd];refine[_,I,_,I,e,_,_,_,_,I,B,C,Eo,N.r8,_,I,e,_,_,_,_,I,B,C,Eo,N.kg,aa,λT n2=>?_];let c:=Aa n2 (.lst #[V.bl eM,.bl eM]);let o:upd b T (.lst #[V.bl eM,.bl eM]) T=oL #[V.bl eM,.bl eM]:=Ab;generalize upd b T (.lst #[V.bl eM,.bl eM])=t at c o;refine[R,T,_,_,I,I,c _ _ v,o,S,λL n3=>?_];let p:=Aa n3 (.lst (#[V.bl eM,.bl eP]++#[V.bl eM,.bl eM]));let M:upd t L (.lst (#[V.bl eM,.bl eP]++#[V.bl eM,.bl eM])) L=oL #[V.bl eM,.bl eP,.bl eM,.bl eM]:=Ab;refine Lf #[oR e,oR L] rfl ?_;generalize upd t L (.lst (#[V.bl eM,.bl eP]++#[V.bl eM,.bl eM]))=H3 at p M;let j:=(W.trans c).trans p;let ab:Nh H3 e Bx:=.inr [d,_,j _ _ X,j _ _ hd];refine[_,I,e,_,_,_,_,I,ab,C,Jv,N.v7,_,I,Cg ?_];refine[_,I,.inl [I,_,Am.of M],L,_,_,I,I,Am.of M,I,I,?_];refine[I,_,I,nF I ?_];refine[O,λt1 m1=>[O,λt2 m2=>[O,λt3 m3=>[O,λt4 m4=>[S,λl4 n4=>?_]]]]];let y:=Aa m1 (.tup #[V.str "entry"]);let a:=Aa m2 (.tup #[V.str "twice"]);let i:=Aa m3 (.tup #[V.str "late"])
  let x:=Aa m4 (.tup #[V.str "untold"]);let u:=Aa n4 (.lst #[V.ref t1,.ref t2,.ref t3,.ref t4]);let l:=(((y.trans a).trans i).trans x).trans u;let h5:=j.trans l;refine[_,I,.inl [I,_,Am.of (l _ _ M)],L,_,_,1,I,I,Am.of (l _ _ M),I,I,Y,[_,I,I],(λm z hm hz=>by rcases m with _|_|_|_<;>first|(cases hz;rfl)|(exfalso;lia)),?_];exact[_,_,_,_,I,I,Am.of Ab,I,q t2 _ h5 ((j.trans y).free m2) (((i.trans x).trans u) _ _ Ab)]
 |late n=>
  let[d,X,hd]:=X;let C:=N.rf;let r:Nh H e Ci:=.inr [d,_,X,hd];refine[_,I,e,_,_,_,_,I,r,C,Eo,N.mq,_,I,e,_,_,_,_,I,r,C,Eo,N.rg,aa,λR n1=>?_];let W:=Aa n1 (.lst #[V.bl eM,.bl eM]);let v:upd H R (.lst #[V.bl eM,.bl eM]) R=oL #[V.bl eM,.bl eM]:=Ab;generalize upd H R (.lst #[V.bl eM,.bl eM])=b at W v;let B:Nh b e Ci:=.inr [d,_,W _ _ X,W _ _ hd];refine[_,I,_,I,e,_,_,_,_,I,B,C,Eo,N.sj,_,I,e,_,_,_,_,I,B,C,Eo,N.mt,aa,λT n2=>?_];let c:=Aa n2 (.lst #[V.bl eP,.bl eM]);let o:upd b T (.lst #[V.bl eP,.bl eM]) T=oL #[V.bl eP,.bl eM]:=Ab;generalize upd b T (.lst #[V.bl eP,.bl eM])=t at c o;refine[R,T,_,_,I,I,c _ _ v,o,S,λL n3=>?_];let p:=Aa n3 (.lst (#[V.bl eM,.bl eM]++#[V.bl eP,.bl eM]));let M:upd t L (.lst (#[V.bl eM,.bl eM]++#[V.bl eP,.bl eM])) L=oL #[V.bl eM,.bl eM,.bl eP,.bl eM]:=Ab;refine Lf #[oR e,oR L] rfl ?_;generalize upd t L (.lst (#[V.bl eM,.bl eM]++#[V.bl eP,.bl eM]))=H3 at p M;let j:=(W.trans c).trans p;let ab:Nh H3 e Ci:=.inr [d,_,j _ _ X,j _ _ hd];refine[_,I,e,_,_,_,_,I,ab,C,Jv,N.vc,_,I,Cg ?_];refine[_,I,.inl [I,_,Am.of M],L,_,_,I,I,Am.of M,I,I,?_];refine[I,_,I,nF I ?_];refine[O,λt1 m1=>[O,λt2 m2=>[O,λt3 m3=>[O,λt4 m4=>[S,λl4 n4=>?_]]]]];let y:=Aa m1 (.tup #[V.str "entry"]);let a:=Aa m2 (.tup #[V.str "twice"]);let i:=Aa m3 (.tup #[V.str "late"])
  let x:=Aa m4 (.tup #[V.str "untold"]);let u:=Aa n4 (.lst #[V.ref t1,.ref t2,.ref t3,.ref t4]);let l:=(((y.trans a).trans i).trans x).trans u;let h5:=j.trans l;refine[_,I,.inl [I,_,Am.of (l _ _ M)],L,_,_,2,I,I,Am.of (l _ _ M),I,I,Y,[_,I,I],(λm z hm hz=>by rcases m with _|_|_|_<;>first|(cases hz;rfl)|(exfalso;lia)),?_];exact[_,_,_,_,I,I,Am.of Ab,I,q t3 _ h5 (((j.trans y).trans a).free m3) ((x.trans u) _ _ Ab)]
 |untold=>
  let C:=N.uh;let r:Nh H e Bq:=.inl X;refine[_,I,e,_,_,_,_,I,r,C,Eo,N.jh,_,I,e,_,_,_,_,I,r,C,Eo,N.kh,aa,λR n1=>?_];let W:=Aa n1 (.lst #[V.bl eM,.bl eM]);let v:upd H R (.lst #[V.bl eM,.bl eM]) R=oL #[V.bl eM,.bl eM]:=Ab;generalize upd H R (.lst #[V.bl eM,.bl eM])=b at W v;let B:Nh b e Bq:=.inl (W _ _ X);refine[_,I,_,I,e,_,_,_,_,I,B,C,Eo,N.mv,_,I,e,_,_,_,_,I,B,C,Eo,N.ji,aa,λT n2=>?_];let c:=Aa n2 (.lst #[V.bl eM,.bl eP]);let o:upd b T (.lst #[V.bl eM,.bl eP]) T=oL #[V.bl eM,.bl eP]:=Ab;generalize upd b T (.lst #[V.bl eM,.bl eP])=t at c o;refine[R,T,_,_,I,I,c _ _ v,o,S,λL n3=>?_];let p:=Aa n3 (.lst (#[V.bl eM,.bl eM]++#[V.bl eM,.bl eP]));let M:upd t L (.lst (#[V.bl eM,.bl eM]++#[V.bl eM,.bl eP])) L=oL #[V.bl eM,.bl eM,.bl eM,.bl eP]:=Ab;refine Lf #[oR e,oR L] rfl ?_;generalize upd t L (.lst (#[V.bl eM,.bl eM]++#[V.bl eM,.bl eP]))=H3 at p M;let j:=(W.trans c).trans p;let ab:Nh H3 e Bq:=.inl (j _ _ X);refine[_,I,e,_,_,_,_,I,ab,C,Jv,N.uk,_,I,Cg ?_];refine[_,I,.inl [I,_,Am.of M],L,_,_,I,I,Am.of M,I,I,?_];refine[I,_,I,nF I ?_];refine[O,λt1 m1=>[O,λt2 m2=>[O,λt3 m3=>[O,λt4 m4=>[S,λl4 n4=>?_]]]]];let y:=Aa m1 (.tup #[V.str "entry"]);let a:=Aa m2 (.tup #[V.str "twice"]);let i:=Aa m3 (.tup #[V.str "late"]);let x:=Aa m4 (.tup #[V.str "untold"]);let u:=Aa n4 (.lst #[V.ref t1,.ref t2,.ref t3,.ref t4])
  let l:=(((y.trans a).trans i).trans x).trans u;let h5:=j.trans l;refine[_,I,.inl [I,_,Am.of (l _ _ M)],L,_,_,3,I,I,Am.of (l _ _ M),I,I,Y,[_,I,I],(λm z hm hz=>by rcases m with _|_|_|_<;>first|(cases hz;rfl)|(exfalso;lia)),?_];exact[_,_,_,_,I,I,Am.of Ab,I,q t4 _ h5 ((((j.trans y).trans a).trans i).free m4) (u _ _ Ab)]
def Kv(B:Pm P w K mg base):OH P w K mg base 1 "_law_class" #["_law_error"] (R0 Bi Bx Ci Bq):=(SM B.z B.qj bd).calH λf C F=>Uf B F
end
def Mu:HO->Prop
 |.tup _=>False
 |.ext _=>False
 |.tbl _=>False
 |_=>True
structure Cp(CG CN CD T:J)(D:J->Prop)(H:Hp)(R:Lg)(c:Option Int)(es:List Wl)(ns os:List Int)(zs:List (J×LF))(lf:List (Int×Int))(fs:List Int):Prop where
 hr:∃dx,H R.r=oI CG dx (Ly R c)
 ct:∃kv,cG CN H R.cp R.kp kv/\cQ kv/\kv.length<=64*zs.length
 dy:Dy CD H R.dy R.wl R.nl
 wt:∃xs,H R.wl=oL xs/\TsAt AH H xs es
 el:∀e∈es,H e.1=oT e.2.vs
 nm:∃ks,H R.nl=g (.dK ks)/\ks.length<=ns.length/\∀n,Cc ks (.inl n)≠U↔n∈ns
 od:H R.ol=oL (os.map V.int)
 lr:H R.lr=g (.dK (zs.map λe=>((.inl e.2.n:Dm),V.ref e.1)))
 lt:∀e∈zs,H e.1=oT e.2.vs
 br:∃m,H R.br=g (.dK m)/\m.length<=fs.length
 oc:∃m,H R.oc=g (.dK m)/\m.length<=zs.length/\∀n,Cc m (.inl n)≠U↔∃e∈zs,e.2.n=n
 ba:∃m,H R.ba=g (.dK m)/\m.length<=zs.length
 pd:∃m,H R.pd=g (.dK m)/\m.length<=zs.length/\∀(ev:eU) v,Cc m (.inr ev)=g v->∃p km,v=.ref p/\D p/\p∉R.own/\H p=g (.dK km)/\km.length<=8*zs.length/\∀(s:eU) u,Cc km (.inr s)=g u->∃i:Int,u=.int i
 sk:∃m,H R.sk=g (.dK m)/\m.length<=zs.length/\(∀ev:eU,Cc m (.inr ev)=U->∀e∈zs,e.2.ev≠ev)/\∀(ev:eU) v,Cc m (.inr ev)=g v->∃p,v=.ref p/\D p/\p∉R.own/\H p=oL ((zs.filter λe=>decide (e.2.ev=ev)).map λe=>V.int e.2.n)/\∀(ev':eU),Cc m (.inr ev')=g v->ev'=ev
 lf:H R.lf=g (.dK (lf.map λq=>((.inl q.1:Dm),V.int q.2)))/\lf.map (·.1)=zs.map (·.2.n)
 fi:∃m,H R.fi=g (.dK m)/\m.length<=fs.length/\∀n,Cc m (.inl n)≠U↔n∈fs
 nd:R.own.Nodup
 own:∀a∈R.own,D a
 al:∀a,D a->a≠T/\∃o,H a=g o/\Mu o
section
variable {CG CN CD T:J} {D:J->Prop} {H H':Hp} {R:Lg} {c:Option Int} {es es':List Wl} {ns ns' os:List Int} {zs:List (J×LF)} {lf:List (Int×Int)} {fs:List Int}
def Cp.rows(h:Cp CG CN CD T D H R c es ns os zs lf fs)(k:∀b o,H b=g o->(D b\/∃xs,o=.tup xs)->b≠R.wl->b≠R.nl->H' b=g o)
  (r:∃xs,H' R.wl=oL xs/\TsAt AH H' xs es') (el:∀e∈es',H' e.1=oT e.2.vs) (nm:∃B,H' R.nl=g (.dK B)/\B.length<=ns'.length/\∀n,Cc B (.inl n)≠U↔n∈ns'):Cp CG CN CD T D H' R c es' ns' os zs lf fs:=by
 let[bi,hw,_]:=id h.wt;let[az,z,_]:=id h.nm;let t:∀b W,H b=oT W->H' b=oT W:=λb W e=>k _ _ e (.inr [_,I]) (Br e hw (by intro y;cases y)) (Br e z (by intro y;cases y));let j:∀a,a∈R.own->a≠R.wl->a≠R.nl->∀o,H a=g o->H' a=g o:=λa C X O o e=>k _ _ e (.inl (h.own a C)) X O;let u:=h.nd;simp only[Lg.own,lj,cr,j_,gP,not_or,vi,and_true]at u;let[[a1,a2,a3,a4,a5,a6,a7,a8,a9,bh,bb,bg,av,bc],[b1,b2,b3,b4,b5,b6,b7,b8,b9,a0,ax,be,bl],[c1,c2,c3,c4,c5,c6,c7,c8,c9,aw,ba,au],[d1,d2,d3,d4,d5,d6,d7,d8,d9,bj,ay],[e1,e2,e3,e4,e5,e6,e7,e8,e9,i],[f1,f2,f3,f4,f5,f6,f7,f8,f9],_]:=u;let s:R.wl∈R.own:=by simp[Lg.own]
 let N:R.nl∈R.own:=by simp[Lg.own]
 let[[dx,hr],[m,[[aj,f',g1,g2],g3],g4,g5],[dd,hd],_,_,_,ad,aq,af,[mb,hb,x],[mo,ho,ao,w],[ma,ae,M],[mp,hp,ar,ag],[ms,hs,ac,aa,as],[ah,L],[mf,hf,ak,an],ab,A,al]:=h;refine[[dx,j _ (by simp[Lg.own]) a4 a5 _ hr],[m,[[aj,f',j _ (by simp[Lg.own]) b3 b4 _ g1,g2],j _ (by simp[Lg.own]) c2 c3 _ g3],g4,g5],[dd,j _ (by simp[Lg.own]) d1 d2 _ hd],r,el,nm,j _ (by simp[Lg.own]) (fQ e2) (fQ f1) _ ad,j _ (by simp[Lg.own]) (fQ e3) (fQ f2) _ aq,λe he=>t _ _ (af e he),[mb,j _ (by simp[Lg.own]) (fQ e4) (fQ f3) _ hb,x],[mo,j _ (by simp[Lg.own]) (fQ e5) (fQ f4) _ ho,ao,w],[ma,j _ (by simp[Lg.own]) (fQ e6) (fQ f5) _ ae,M],[mp,j _ (by simp[Lg.own]) (fQ e7) (fQ f6) _ hp,ar,λP v Q=>?_],[ms,j _ (by simp[Lg.own]) (fQ e8) (fQ f7) _ hs,ac,aa,λP v Q=>?_],[j _ (by simp[Lg.own]) (fQ e9) (fQ f8) _ ah,L],[mf,j _ (by simp[Lg.own]) (fQ i) (fQ f9) _ hf,ak,an],ab,A,λa C=>?_]
 .let[p,km,d,S,F,K,f]:=ag P v Q
  exact[p,km,d,S,F,k _ _ K (.inl S) (λy=>F (y▸s)) (λy=>F (y▸N)),f]
 .let[p,d,S,F,K,f]:=as P v Q
  exact[p,d,S,F,k _ _ K (.inl S) (λy=>F (y▸s)) (λy=>F (y▸N)),f]
 .let[X,o,O,n3]:=al a C
  refine[X,?_];by_cases l:a=R.wl
  .let[xs,E,_]:=r
   rw[l];exact[_,E,trivial]
  by_cases q:a=R.nl
  .let[B,E,_]:=nm
   rw[q];exact[_,E,trivial]
  exact[o,k _ _ O (.inl C) l q,n3]
def Cp.keep(h:Cp CG CN CD T D H R c es ns os zs lf fs)(k:∀b o,H b=g o->(D b\/∃xs,o=.tup xs)->H' b=g o):Cp CG CN CD T D H' R c es ns os zs lf fs:=by
 let[xs,j,M]:=id h.wt;let[F,C,S]:=id h.nm;exact h.rows (λb o e d x x=>k b o e d) [xs,k _ _ j (.inl (h.own _ (by simp[Lg.own]))),M.mono λb B e=>k _ _ e (.inr [_,I])] (λe L=>k _ _ (h.el e L) (.inr [_,I])) [F,k _ _ C (.inl (h.own _ (by simp[Lg.own]))),S]
def Cp.same(h:Cp CG CN CD T D H R c es ns os zs lf fs)(s:Ag H H'):Cp CG CN CD T D H' R c es ns os zs lf fs:=h.keep λb o e x=>s b o e
def Cp.put{l t:J}{xs:List V}{ks:List (Dm×V)}{z:dM}(h:Cp CG CN CD T D H R c es ns os zs lf fs)(u:H l=oT z.vs)(L:H t=U)(N:H R.wl=oL xs)(w:TsAt AH H xs es)(S:H R.nl=g (.dK ks))(m:ks.length<=ns.length)(K:∀n,Cc ks (.inl n)≠U↔n∈ns) :
  (∀b o,H b=g o->¬D b->Sm H t R.wl R.nl xs ks z.d z.k z.n (.ref l) b=g o)/\Cp CG CN CD T D (Sm H t R.wl R.nl xs ks z.d z.k z.n (.ref l)) R c (es++#[(l,z)]) (ns++#[z.n]) os zs lf fs:=by
 let C:t≠R.wl:=(Af N L).symm;let B:t≠R.nl:=(Af S L).symm;let F:R.wl≠R.nl:=Br N S (by intro y;cases y);let j:∀b o,H b=g o->b≠R.wl->b≠R.nl->Sm H t R.wl R.nl xs ks z.d z.k z.n (.ref l) b=g o:=λb o e k E=>by
  unfold Sm;rw[Aj E,Aj k,Aj (Af e L)];exact e
 let W:Sm H t R.wl R.nl xs ks z.d z.k z.n (.ref l) t=oT (AH (l,z)):=by
  unfold Sm;rw[Aj B,Aj C];exact Ab
 let X:Sm H t R.wl R.nl xs ks z.d z.k z.n (.ref l) R.wl=oL (xs++#[.ref t]):=by
  unfold Sm;rw[Aj F];exact Ab
 let A:Sm H t R.wl R.nl xs ks z.d z.k z.n (.ref l) R.nl=g (.dK (Ck ks (.inl z.n) (.bl eP))):=Ab;generalize Sm H t R.wl R.nl xs ks z.d z.k z.n (.ref l)=r at j W X A;let P:∀b O,H b=oT O->r b=oT O:=λb O e=>j _ _ e (Br e N (by intro y;cases y)) (Br e S (by intro y;cases y));let f:=h.own R.wl (by simp[Lg.own]);let d:=h.own R.nl (by simp[Lg.own]);refine[λb o e Q=>j _ _ e (λy=>Q (y▸f)) (λy=>Q (y▸d)),h.rows (λb o e x p s=>j _ _ e p s) [_,X,(w.mono P).snoc W] (λe v=>?_) [_,A,?_,λn=>?_]]
 .rcases gw.mp v with M|M
  .exact P _ _ (h.el e M)
  .rw[d_.mp M]
   exact P _ _ u
 .have:=Cu ks (.inl z.n) (.bl eP)
  rw[fy,o5]
  lia
 .rw[Ep]
  by_cases y:(Sum.inl n:Dm)=.inl z.n
  .rw[eR y]
   injection y with y;exact[λx=>gw.mpr (.inr (by rw[y];exact d_.mpr I)),λx q=>by cases q]
  .rw[eQ y,K]
   refine[λq=>gw.mpr (.inl q),λq=>?_];rcases gw.mp q with q|q
   .exact q
   .exact fA (by rw[d_.mp q]) y
end
def Dj(z:LF):Prop:=VE z.n z.d z.ev.cps.toList z.th.cps.toList z.ca.cps.toList z.ct
def JI(P:okX j)(h:Dd L b j F S f=eP):∃z:LF,#[L,b,j,F,S,f]=z.vs/\Dj z:=by
 unfold Dd at h;simp only[gd]at h;let[[[[[[M,H],C],N],B],O],R]:=h;obtain⟨n,rfl⟩:∃n:Int,L=.int n:=by cases L<;>first|exact[_,I]|cases M
 obtain⟨d,rfl⟩:∃n:Int,b=.int n:=by cases b<;>first|exact[_,I]|cases H
 obtain⟨Q,rfl⟩:∃n:eU,j=.str n:=by cases j<;>first|exact[_,I]|cases C
 obtain⟨T,rfl⟩:∃n:eU,F=.str n:=by cases F<;>first|exact[_,I]|cases N
 obtain⟨W,rfl⟩:∃n:eU,S=.str n:=by cases S<;>first|exact[_,I]|cases B
 obtain⟨c,rfl⟩:∃n:Int,f=.int n:=by cases f<;>first|exact[_,I]|cases O
 exact[[n,d,Q,T,W,c],I,M,H,[fE C,P _ I],fE N,fE B,O,fE R]
def dY.same{C:J}{f:eU}{n:Int}{E:XK}(h:dY C f n H E)(s:Ag H b):dY C f n b E:=λd B L e=>h d B (s.trans L) e
structure BF where
 n:Int
 d:Int
 ev:eU
 ct:Int
def BF.vs(z:BF):List V:=#[.int z.n,.int z.d,.str z.ev,.int z.ct]
def D4(z:BF):Prop:=Hr 1000000000 (.int z.n)=eP/\Hr 1000000 (.int z.d)=eP/\Er (.str z.ev)=eP/\Hr 999999999999 (.int z.ct)=eP/\1<=z.ct
def JH(h:Fl j F S L=eP):∃z:BF,#[j,F,S,L]=z.vs/\D4 z:=by
 unfold Fl at h;simp only[gd]at h;let[[[[N,M],B],H],C]:=h;obtain⟨n,rfl⟩:∃n:Int,j=.int n:=by cases j<;>first|exact[_,I]|cases N
 obtain⟨d,rfl⟩:∃n:Int,F=.int n:=by cases F<;>first|exact[_,I]|cases M
 obtain⟨O,rfl⟩:∃n:eU,S=.str n:=by cases S<;>first|exact[_,I]|cases B
 obtain⟨c,rfl⟩:∃n:Int,L=.int n:=by cases L<;>first|exact[_,I]|cases H
 exact[[n,d,O,c],I,N,M,B,H,fE C]
inductive XI(K:a')(CE CT CL CG CN CD T:J)(vs:List V)(H:Hp)(Q:VK)(E:XK):Prop
 |mk (R:_) (D:_) (c:_) (es:_) (ns:_) (os:_) (zs:_) (lf:_) (fs:_) (v0 v1 v2 v3 v4 v5:V) (T0 T1 T2 T3 T4 T5:String) (z0:vs=#[.ref R.r,v0,v1,v2,v3,v4,v5]) (z1:Cp CG CN CD T D H R c es ns os zs lf fs)
  (t0:TyOf K H v0 (.type T0)) (t1:TyOf K H v1 (.type T1)) (t2:TyOf K H v2 (.type T2)) (t3:TyOf K H v3 (.type T3)) (t4:TyOf K H v4 (.type T4)) (t5:TyOf K H v5 (.type T5)) (o2:okX v2) (o3:okX v3) (o4:okX v4) (z5:es.length<=500) (z6:ns.length<=500)
  (ze:Dd v0 v1 v2 v3 v4 v5=eM->∀H',Ag H H'->E (.ref CE) U H')
  (zt:∀z:LF,#[v0,v1,v2,v3,v4,v5]=z.vs->Dj z->z.n∈ns->dY CT "number" z.n H E)
  (zl:∀z:LF,#[v0,v1,v2,v3,v4,v5]=z.vs->Dj z->z.n∉ns->Lt c z.d H CL E)
  (zq:∀z:LF,#[v0,v1,v2,v3,v4,v5]=z.vs->Dj z->z.n∉ns->IN c z.d->∀l H',(∀b o,H b=g o->¬D b->H' b=g o)->Cp CG CN CD T D H' R c (es++#[(l,Py z)]) (ns++#[z.n]) os zs lf fs->Q .non H')
inductive VH(K:a')(CE CT CL CG CN CD T:J)(vs:List V)(H:Hp)(Q:VK)(E:XK):Prop
 |mk (R:_) (D:_) (c:_) (es:_) (ns:_) (os:_) (zs:_) (lf:_) (fs:_) (v0 v1 v2 v5:V) (T0 T1 T2 T5:String) (z0:vs=#[.ref R.r,v0,v1,v2,v5]) (z1:Cp CG CN CD T D H R c es ns os zs lf fs)
  (t0:TyOf K H v0 (.type T0)) (t1:TyOf K H v1 (.type T1)) (t2:TyOf K H v2 (.type T2)) (t5:TyOf K H v5 (.type T5)) (o2:okX v2) (z5:es.length<=500) (z6:ns.length<=500)
  (ze:Fl v0 v1 v2 v5=eM->∀H',Ag H H'->E (.ref CE) U H')
  (zt:∀z:BF,#[v0,v1,v2,v5]=z.vs->D4 z->z.n∈ns->dY CT "number" z.n H E)
  (zl:∀z:BF,#[v0,v1,v2,v5]=z.vs->D4 z->z.n∉ns->Lt c z.d H CL E)
  (zq:∀z:BF,#[v0,v1,v2,v5]=z.vs->D4 z->z.n∉ns->IN c z.d->∀l H',(∀b o,H b=g o->¬D b->H' b=g o)->Cp CG CN CD T D H' R c (es++#[(l,SG z.n z.d z.ev z.ct)]) (ns++#[z.n]) os zs lf fs->Q .non H')
def P9{B:List (Int×Int)}{n:Int}(h:Cc (B.map λq=>((.inl q.1:Dm),V.int q.2)) (.inl n)≠U):n∈B.map (·.1):=by
 cases e:Cc (B.map λq=>((.inl q.1:Dm),V.int q.2)) (.inl n)with
 |none=>exact fA e h
 |some v=>
  let m:=U7 e;rw[rb]at m;let[q,j,y]:=g_.mp m;injection y with y;exact g_.mpr [q,j,y]
inductive MK(CT CG CN CD T:J)(vs:List V)(H:Hp)(Q:VK)(E:XK):Prop
 |mk (R:_) (D:_) (c:_) (es:_) (ns:_) (os:_) (zs:_) (lf:_) (fs:_) (n:Int) (z0:vs=#[.ref R.r,.int n]) (z1:Cp CG CN CD T D H R c es ns os zs lf fs) (z2:0<=n) (z3:n<=1000000000) (z4:∀e∈zs,e.2.n≠n) (z6:E (.ref CT) U H)
inductive MF(CT CG CN CD T:J)(vs:List V)(H:Hp)(Q:VK)(E:XK):Prop
 |mk (R:_) (D:_) (c:_) (es:_) (ns:_) (os:_) (zs:_) (lf:_) (fs:_) (n:Int) (z0:vs=#[.ref R.r,.int n]) (z1:Cp CG CN CD T D H R c es ns os zs lf fs) (z2:0<=n) (z3:n<=1000000000) (z5:n∉fs) (z6:E (.ref CT) U H)
section
seal L2.PS L2.PSs L2.PE L2.PA
variable {P:eY} {w:fF} {K:a'} {mg:eU->Option eJ} {base:fK}
def UA(O:Pm P w K mg base):Ki P w K mg base 5 Ah "loss" #["self","number","day","event","thing","cause","cents"] (XI K Bi Bx Ci Ah Aw Bc TT):=SB O.ou O.aa.cl #["self","number","day","event","thing","cause","cents","row"] (dg λvs H Q E h=>by
  let[_,_,_,_,_,_,_,_,_,_,_,_,_,_,_,_,_,_,_,_,_,rfl,_]:=h;rfl) λsc H Q E f h=>by
 let[R,D,c,es,ns,os,zs,lf,fs,v0,v1,v2,v3,v4,v5,TT,T1,T2,T3,T4,T5,rfl,RA,t0,a,t2,t3,t4,t5,s,o3,o4,le,ln,u,p,r,q]:=h;refine[_,(Ac (Dp sc 7 (Df (Yt O) (f.mono Y) Ce I (Ai (pv 1) (Ai (pv 2) (Ai (pv 3) (Ai (pv 4) (Ca (pv 5) (pv 6))))))))
   (Ac (Bk (Df (Ph O) (f.mono Y) Ce I (Ai (Bd (pv 0) I) (Ai (Bd (pv 0) I) (Ca (pv 1) (pv 2))))))
   (Ad (Bk (Cn (XO O) (f.mono Y) (Bd (pv 0) I) (Ai (pv 2) (Ai (Lb O.z O.fm) (Ca (pv 1) (pv 7))))))))),?_]
 refine Fc λN S=>?_;refine[_,I,_,I,_,I,_,I,_,I,_,I,v0,v1,v2,v3,v4,v5,_,_,_,_,_,_,I,t0,a,t2,t3,t4,t5,s,o3,o4,λlb l H1 M fl v=>?_,u];let[z,j,X]:=JI s lb;let C:=p z j X;let aa:=r z j X;let q1:=q z j X;clear p r q u;rw[j]at v;injection j with e0 j;injection j with e1 j;injection j with e2 j;injection j with e3 j;injection j with e4 j;injection j with e5 j;subst e0 e1 e2 e3 e4 e5;refine Gj S #[oR R.r,oN z.n,oN z.d,oS z.ev,oS z.th,oS z.ca,oN z.ct,oR l] rfl λN S=>?_;let L:=RA.same M;let[k,F]:=L.hr;let[xs,n,m]:=L.wt;let[A,T,n1,W]:=L.nm;let[x,hd]:=id L.dy;let B:Cc A (.inl z.n)=U->z.n∉ns:=λe y=>(W z.n).mpr y e;refine[_,I,R.r,Ah,k,_,_,I,F,O.aa.cl,O.aw,(Nl R c),_,I,R.r,Ah,k,_,_,I,F,O.aa.cl,O.ah,(Iq R c),_,I,_,I,R.dy,R.wl,R.nl,A,c,z.n,z.d,I,L.dy,T,λi af=>?_,λy=>(C ((W z.n).mp y)).same M,λe d h1 h2=>(aa (B e) d h1 h2).same M];let q2:=q1 (B i) af;let lx:=m.len
 first|refine Iu S λN S=>?_|subst S
 refine[_,I,R.r,Ah,k,_,_,I,F,O.aa.cl,O.aw,Nl R c,R.dy,x,_,I,hd,NI _ _,_,I,_,I,_,I,R.dy,R.wl,R.nl,xs,A,z.d,0,z.n,.ref l,I,L.dy,n,Z,T,Z,λt ht=>?_];let[k2,RC]:=L.put (z:=Py z) v ht n m T n1 W;exact q2 l _ (λb o e nd=>k2 b o (M _ _ e) nd) RC
def WX(O:Pm P w K mg base):Ki P w K mg base 5 Ah "back" #["self","number","day","event","cents"] (VH K Bi Bx Ci Ah Aw Bc TT):=SB O.oy O.aa.cl #["self","number","day","event","cents","row"] (dg λvs H Q E h=>by
  let[_,_,_,_,_,_,_,_,_,_,_,_,_,_,_,_,_,rfl,_]:=h;rfl) λsc H Q E f h=>by
 let[R,D,c,es,ns,os,zs,lf,fs,v0,v1,v2,v5,TT,T1,T2,T5,rfl,RA,t0,x,t2,t5,o2,le,ln,s,p,r,q]:=h;refine[_,(Ac (Dp sc 5 (Df (DS O) (f.mono Y) Ce I (Ai (pv 1) (Ai (pv 2) (Ca (pv 3) (pv 4))))))
   (Ac (Bk (Df (Ph O) (f.mono Y) Ce I (Ai (Bd (pv 0) I) (Ai (Bd (pv 0) I) (Ca (pv 1) (pv 2))))))
   (Ad (Bk (Cn (XO O) (f.mono Y) (Bd (pv 0) I) (Ai (pv 2) (Ai (Lb O.z O.sh) (Ca (pv 1) (pv 5))))))))),?_]
 refine Fc λN S=>?_;refine[_,I,_,I,_,I,_,I,v0,v1,v2,v5,_,_,_,_,I,t0,x,t2,t5,o2,λlb l H1 M fl u=>?_,s];let[z,j,X]:=JH lb;let C:=p z j X;let aa:=r z j X;let q1:=q z j X;clear p r q s;rw[j]at u;injection j with e0 j;injection j with e1 j;injection j with e2 j;injection j with e3 j;subst e0 e1 e2 e3;refine Gj S #[oR R.r,oN z.n,oN z.d,oS z.ev,oN z.ct,oR l] rfl λN S=>?_;let L:=RA.same M;let[k,F]:=L.hr;let[xs,m,v]:=L.wt;let[A,T,n1,W]:=L.nm;let[i,hd]:=id L.dy;let B:Cc A (.inl z.n)=U->z.n∉ns:=λe y=>(W z.n).mpr y e;refine[_,I,R.r,Ah,k,_,_,I,F,O.aa.cl,O.aw,(Nl R c),_,I,R.r,Ah,k,_,_,I,F,O.aa.cl,O.ah,(Iq R c),_,I,_,I,R.dy,R.wl,R.nl,A,c,z.n,z.d,I,L.dy,T,λn af=>?_,λy=>(C ((W z.n).mp y)).same M,λe d h1 a=>(aa (B e) d h1 a).same M];let q2:=q1 (B n) af;let lx:=v.len
 first|refine Iu S λN S=>?_|subst S
 refine[_,I,R.r,Ah,k,_,_,I,F,O.aa.cl,O.aw,Nl R c,R.dy,i,_,I,hd,NI _ _,_,I,_,I,_,I,R.dy,R.wl,R.nl,xs,A,z.d,1,z.n,.ref l,I,L.dy,m,Z,T,Z,λt ht=>?_];let[k2,RC]:=L.put (z:=SG z.n z.d z.ev z.ct) u ht m v T n1 W;exact q2 l _ (λb o e nd=>k2 b o (M _ _ e) nd) RC
def KJ(N:Pm P w K mg base):Ki P w K mg base 4 Ah "strips" #["self","number"] (MK Bq Ah Aw Bc TT):=SB N.jx N.aa.cl #["self","number"] (dg λl H Q E h=>by
  let[_,_,_,_,_,_,_,_,_,_,rfl,_]:=h;rfl) λp H Q E O h=>by
 let F:=Gq O;let[R,D,c,f,b,r,k,o,d,n,rfl,L,A,B,S,q]:=h;refine[_,(Ac (Bk (Df (Gf N) (O.mono Y) Ce I (Ca (Bd (pv 0) I) (pv 1))))
   (Ad (Ar (Em (Di (K:=K) I) I (N.z.nn N.bn) (show fz _=g (.type "list") from rfl) (Bz (Jr F (Bd (pv 0) I) (pv 1) (λx x=>I))))))),?_]
 let[W,j]:=L.hr;let[C,M,_,T]:=L.oc;refine[_,I,R.r,Ah,W,_,_,I,j,N.aa.cl,N.bh,(Ka R c),_,I,R.oc,C,n,I,M,A,B,λy=>?_,λx=>q]
 .exfalso
  let[z,X,e]:=(T n).mp y;exact fA e (S z X)
def DJ(N:Pm P w K mg base):Ki P w K mg base 4 Ah "stands" #["self","number"] (MK Bq Ah Aw Bc TT):=SB N.g9 N.aa.cl #["self","number"] (dg λk H Q E h=>by
  let[_,_,_,_,_,_,_,_,_,_,rfl,_]:=h;rfl) λo H Q E O h=>by
 let F:=Gq O;let[R,D,c,d,A,p,f,l,b,n,rfl,L,B,M,S,q]:=h;refine[_,(Ac (Bk (Df (Gf N) (O.mono Y) Ce I (Ca (Bd (pv 0) I) (pv 1))))
   (Ad (Ar (Jr F (Bd (pv 0) I) (pv 1) (λx x=>I))))),?_]
 let[W,j]:=L.hr;let[C,T]:=L.lf;refine[_,I,R.r,Ah,W,_,_,I,j,N.aa.cl,N.ao,(Lj R c),_,I,R.lf,_,n,I,C,B,M,λy=>?_,λx=>q]
 .exfalso
  let m:=P9 y;rw[T]at m;let[z,X,e]:=g_.mp m;exact fA e (S z X)
def SU(N:Pm P w K mg base):Ki P w K mg base 4 Ah "gave" #["self","number"] (MF Bq Ah Aw Bc TT):=SB N.p0 N.aa.cl #["self","number"] (dg λf H Q E h=>by
  let[_,_,_,_,_,_,_,_,_,_,rfl,_]:=h;rfl) λl H Q E O h=>by
 let F:=Gq O;let[R,D,c,A,d,o,b,k,p,n,rfl,L,B,M,X,q]:=h;refine[_,(Ac (Bk (Df (Gf N) (O.mono Y) Ce I (Ca (Bd (pv 0) I) (pv 1))))
   (Ad (Ar (Em (Di (K:=K) I) I (N.z.nn N.bn) (show fz _=g (.type "list") from rfl) (Bz (Nv K (Jr F (Bd (pv 0) I) (pv 1) (λx x=>I)) Ae)))))),?_]
 let[W,j]:=L.hr;let[S,C,_,T]:=L.fi;refine[_,I,R.r,Ah,W,_,_,I,j,N.aa.cl,N.bj,(Kl R c),_,I,R.fi,S,n,I,C,B,M,λy=>?_,λx=>q]
 .exfalso
  exact fA ((T n).mp y) X
def VU(N:Pm P w K mg base):Ki P w K mg base 4 Ah "over" #["self","number"] (MF Bq Ah Aw Bc TT):=SB N.p6 N.aa.cl #["self","number"] (dg λf H Q E h=>by
  let[_,_,_,_,_,_,_,_,_,_,rfl,_]:=h;rfl) λl H Q E O h=>by
 let F:=Gq O;let[R,D,c,A,d,o,b,k,p,n,rfl,L,B,M,X,q]:=h;refine[_,(Ac (Bk (Df (Gf N) (O.mono Y) Ce I (Ca (Bd (pv 0) I) (pv 1))))
   (Ad (Ar (Nv K (Jr F (Bd (pv 0) I) (pv 1) (λx x=>I)) Ae)))),?_]
 let[W,j]:=L.hr;let[S,C,_,T]:=L.fi;refine[_,I,R.r,Ah,W,_,_,I,j,N.aa.cl,N.bj,(Kl R c),_,I,R.fi,S,n,I,C,B,M,λy=>?_,λx=>q]
 .exfalso
  exact fA ((T n).mp y) X
end
def Du:List CR.Rn->Int->List Tr×Int
 |[],w=>([],w)
 |p::r,w=>(if 0<(if w<p.2 then w else p.2) then(p.1,p.2-(if w<p.2 then w else p.2),p.2)::(Du r (w-(if w<p.2 then w else p.2))).1 else(Du r (w-(if w<p.2 then w else p.2))).1,(Du r (w-(if w<p.2 then w else p.2))).2)
def Vx(w:Int):Du [] w=([],w):=rfl
def Lq(p:CR.Rn)(r:List CR.Rn)(w:Int):Du (p::r) w=(if 0<(if w<p.2 then w else p.2) then(p.1,p.2-(if w<p.2 then w else p.2),p.2)::(Du r (w-(if w<p.2 then w else p.2))).1 else(Du r (w-(if w<p.2 then w else p.2))).1,(Du r (w-(if w<p.2 then w else p.2))).2):=rfl
theorem Zd:∀(r:List CR.Rn) (c:Int),(Du r c).1.length<=r.length
 |[],_=>b' _
 |p::r,c=>by
  let:=Zd r (c-(if c<p.2 then c else p.2));unfold Du;by_cases j:0<(if c<p.2 then c else p.2)
  .rw[eR j];simp only[c_];lia
  .rw[eQ j];simp only[c_];lia
theorem cP.rev:∀{xs} {ps},cP H xs ps->cP H xs.reverse ps.reverse
 |[],[],_=>trivial
 |[],_::_,h=>h.elim
 |_::_,[],h=>h.elim
 |x::xs,p::ps,[[t,e,h],r]=>by
  rw[vS,vS];exact r.rev.app [[t,e,h],trivial]
inductive IQ(vs:List V)(H:Hp)(Q:VK)(E:XK):Prop
 |mk (a:J) (ps:List CR.Rn) (c:Int) (z0:vs=#[.ref a,.int c]) (z1:LP H a ps) (z2:ps.length<=1000) (zq:∀f l xs H',Ag H H'->H f=U->H l=U->H' f=oT #[.ref l,.int (Du ps.reverse c).2]->H' l=oL xs->dB H' xs (Du ps.reverse c).1->Q (.ref f) H')
section
seal L2.PS L2.PSs L2.PE L2.PA
variable {P:eY} {w:fF} {K:a'} {mg:eU->Option eJ} {base:fK}
def D7(N:Pm P w K mg base):Jc N 1 "taken_from" #["stack","cents"] IQ:=Iw N.z N.qg #["stack","cents","pieces","wanted","number","left","taken"] df λW H Q hr h=>by
 let[a,T,n,rfl,[xs,y,pr],hl,q]:=h;refine[_,(Ac (Dp W 2 (Bu Eg))
   (Ac (Dp W 3 (pv 1))
   (Ac (Cj fH I (LQ I (N.z.nn N.ip) (Bz (pv 0))) (Eb (K:=K) (n:=2) I I (Bf (Gi W 4) (Bf (Gi W 5) Ds)))
    (Ac (Dp W 6 (Nu (Kz I) N.z N.gb (Ca (pv 5) (pv 3))))
   (Ac (Bj (Ay Pc (pv 6) Ae (Be _))
    (Ad (Bk (Ed (K:=K) I fG gA fZ Dq (pv 2) (Bz (Bl (Ai (pv 4) (Ca (As Fi (pv 5) (pv 6)) (pv 5))))))))
    At)
   (Ad (Dp W 3 (As Fi (pv 3) (pv 6)))))))
   (Ad (Ar (Bl (Ca (pv 2) (pv 3)))))))),?_]
 let lx:=pr.len;refine[de _,λr F=>?_];let m:Ag H (upd H r (.lst [])):=Aa F _;refine[_,I,?_];refine[_,I,a,xs,I,Am.of (m _ _ y),LB (K:=K) (a:=a) (xs:=xs)
  (λi E L=>(∃k d f A,∃O:Int,E=#[oR a,oN n,oR r,oN O,k,d,f]/\L r=oL A/\A.length<=i/\∃M,dB L A M/\Du T.reverse n=(M++(Du (T.reverse.drop i) O).1,(Du (T.reverse.drop i) O).2))/\Ag H L)
  [[U,U,U,[],n,I,Ab,b' _,[],trivial,I],m] (λi E L _ ⟨_,e⟩=>Am.of (e _ _ y)) ?_ ?_]
 .rintro i x E L hi ⟨⟨k,d,f,A,O,rfl,X,v,M,b,j⟩,S⟩
  let[t,p,s,rfl,ht]:=pr.rev.get hi;let aa:=S _ _ ht;let ab:i<T.length:=by rw[<- nD (as:=T)];exact(hI.mp s).1
  rw[Xv s,Lq]at j;refine[t,_,I,Bh.of aa,I,_,_,I,_,_,I,I,?_];refine[_,I,_,I,_,_,I,?_];refine[_,I,_,_,I,I,_,I,Rv (λc=>?_) (λc=>?_)]
  .have l:0<(if O<p.2 then O else p.2):=fE c
   rw[eR l]at j;refine[_,I,.inl [I,_,Am.of X],_,I,_,I,_,I,_,_,I,I,_,I,by show 3<=sizeLine;rw[ck];decide,λu B=>?_];let R:=Aa B (.tup #[.int p.1,.int (p.2-(if O<p.2 then O else p.2)),.int p.2]);refine[r,_,_,I,I,R _ _ X,by rw[ck];lia,?_];refine[_,I,_,I,_,_,I,I,[_,_,_,_,_,I,Ab,by rw[fy];exact rA v (b' 1),_,((b.mono (Bn R)).snoc Ab).mono (Ec (R _ _ X) _),?_],λx o z=>?_]
   .rw[j,vj]
    rfl
   .rw[Aj (Af z F)]
    exact R _ _ (S x o z)
  .have l:¬0<(if O<p.2 then O else p.2):=g0 (ra.mpr c)
   rw[eQ l]at j;exact[_,I,_,I,_,_,I,I,[_,_,_,_,_,I,X,Z,_,b,j],S]
 .rintro E L ⟨⟨k,d,f,A,O,rfl,X,v,M,b,j⟩,S⟩
  rw[show xs.length=T.reverse.length by rw[lx,nD],wg]at j;let C:Du T.reverse n=(M,O):=by rw[j,Vx,lq]
  refine[_,I,_,I,by show 2<=sizeLine;rw[ck];decide,λu B=>?_];let R:=Aa B (.tup #[.ref r,.int O]);refine q u r A _ (S.trans R) (S.free B) F ?_ (R _ _ X) ?_
  .rw[C];exact Ab
  .rw[C];exact b.mono (Bn R)
end
def nd2{l:List J}(C:l.Nodup)(i j:Nat){a b:J}(h:i≠j)(L:l[i]?=g a)(S:l[j]?=g b):a≠b:=by
 intro e;subst e;let[M,F]:=hI.mp L;let[B,H]:=hI.mp S;exact h ((wG C).mp (F.trans H.symm))
def Gd{R:Lg}(i:Nat){a:J}(h:R.own[i]?=g a):a∈R.own:=kS h
section
variable {CG CN CD T:J} {D:J->Prop} {H H':Hp} {R:Lg} {c:Option Int} {es:List Wl} {ns os:List Int} {zs:List (J×LF)} {lf:List (Int×Int)} {fs:List Int}
def Cp.shut{d:Int}{S}(h:Cp CG CN CD T D H R c es ns os zs lf fs)(k:∀b o,H b=g o->b≠R.r->H' b=g o)(q:H' R.r=oI CG S (Ly R (g d))):Cp CG CN CD T D H' R (g d) es ns os zs lf fs:=by
 let[[dx,hr],[u,[[aj,f',g1,g2],g3],g4,g5],[dd,hd],[z,hw,ts],i,[ks,t,ab,an],af,ac,ar,[m,hb,ah],[mo,ho,C,s],[ma,ao,B],[mp,hp,ag,M],[ms,hs,ad,aa,x],[ae,L],[mf,n,ak,aq],j,f,K]:=h;let P:∀b X,H b=oT X->H' b=oT X:=λb X e=>k _ _ e (Br e hr (by intro y;cases y));refine[[S,q],[u,[[aj,f',(k _ _ g1 (nd2 j 1 0 Y I I)),g2],(k _ _ g3 (nd2 j 2 0 Y I I))],g4,g5],[dd,(k _ _ hd (nd2 j 3 0 Y I I))],[z,(k _ _ hw (nd2 j 4 0 Y I I)),ts.mono P],λe W=>P _ _ (i e W),[ks,(k _ _ t (nd2 j 5 0 Y I I)),ab,an],(k _ _ af (nd2 j 6 0 Y I I)),(k _ _ ac (nd2 j 7 0 Y I I)),λe W=>P _ _ (ar e W),[m,(k _ _ hb (nd2 j 8 0 Y I I)),ah],[mo,(k _ _ ho (nd2 j 9 0 Y I I)),C,s],[ma,(k _ _ ao (nd2 j 10 0 Y I I)),B],[mp,(k _ _ hp (nd2 j 11 0 Y I I)),ag,λN v O=>?pd],[ms,(k _ _ hs (nd2 j 12 0 Y I I)),ad,aa,λN v O=>?sk],[(k _ _ ae (nd2 j 13 0 Y I I)),L],[mf,(k _ _ n (nd2 j 14 0 Y I I)),ak,aq],j,f,λa ha=>?K]
 case pd=>
  let[p,km,E,Q,F,A,l]:=M N v O;exact[p,km,E,Q,F,k _ _ A (λy=>F (by rw[y];exact Gd 0 I)),l]
 case sk=>
  let[p,E,Q,F,A,l]:=x N v O;exact[p,E,Q,F,k _ _ A (λy=>F (by rw[y];exact Gd 0 I)),l]
 case K=>
  let[n1,o,w,n3]:=K a ha;refine[n1,?_];by_cases r:a=R.r
  .rw[r];exact[_,q,trivial]
  exact[o,k _ _ w r,n3]
def Cp.ord{os':List Int}(h:Cp CG CN CD T D H R c es ns os zs lf fs)(k:∀b o,H b=g o->b≠R.ol->H' b=g o)(l:H' R.ol=oL (os'.map V.int)):Cp CG CN CD T D H' R c es ns os' zs lf fs:=by
 let[[dx,hr],[s,[[aj,f',g1,x],i],g4,g5],[dd,hd],[u,hw,ts],m,[ks,r,ab,an],af,ac,ar,[w,hb,ah],[mo,ho,C,q],[ma,ao,S],[mp,hp,ag,M],[ms,hs,ad,aa,n],[ae,L],[mf,z,ak,aq],j,d,K]:=h;let P:∀b X,H b=oT X->H' b=oT X:=λb X e=>k _ _ e (Br e af (by intro y;cases y));refine[[dx,(k _ _ hr (nd2 j 0 6 Y I I))],[s,[[aj,f',(k _ _ g1 (nd2 j 1 6 Y I I)),x],(k _ _ i (nd2 j 2 6 Y I I))],g4,g5],[dd,(k _ _ hd (nd2 j 3 6 Y I I))],[u,(k _ _ hw (nd2 j 4 6 Y I I)),ts.mono P],λe W=>P _ _ (m e W),[ks,(k _ _ r (nd2 j 5 6 Y I I)),ab,an],l,(k _ _ ac (nd2 j 7 6 Y I I)),λe W=>P _ _ (ar e W),[w,(k _ _ hb (nd2 j 8 6 Y I I)),ah],[mo,(k _ _ ho (nd2 j 9 6 Y I I)),C,q],[ma,(k _ _ ao (nd2 j 10 6 Y I I)),S],[mp,(k _ _ hp (nd2 j 11 6 Y I I)),ag,λN v O=>?pd],[ms,(k _ _ hs (nd2 j 12 6 Y I I)),ad,aa,λN v O=>?sk],[(k _ _ ae (nd2 j 13 6 Y I I)),L],[mf,(k _ _ z (nd2 j 14 6 Y I I)),ak,aq],j,d,λa ha=>?K]
 case pd=>
  let[p,km,E,Q,F,A,f]:=M N v O;exact[p,km,E,Q,F,k _ _ A (λy=>F (by rw[y];exact Gd 6 I)),f]
 case sk=>
  let[p,E,Q,F,A,f]:=n N v O;exact[p,E,Q,F,k _ _ A (λy=>F (by rw[y];exact Gd 6 I)),f]
 case K=>
  let[n1,o,t,n3]:=K a ha;refine[n1,?_];by_cases B:a=R.ol
  .rw[B];exact[_,l,trivial]
  exact[o,k _ _ t B,n3]
def Cp.back{B}{n:Int}{S F}(h:Cp CG CN CD T D H R c es ns os zs lf fs)(k:∀b o,H b=g o->b≠R.lf->b≠R.br->b≠R.fi->H' b=g o)(r:H' R.lf=g (.dK (B.map λq=>((.inl q.1:Dm),V.int q.2)))/\B.map (·.1)=zs.map (·.2.n))(s:H' R.br=g (.dK S))(e2:S.length<=fs.length+1)(l:H' R.fi=g (.dK F))(e4:F.length<=fs.length+1)(e5:∀m,Cc F (.inl m)≠U↔m∈fs++#[n]):Cp CG CN CD T D H' R c es ns os zs B (fs++#[n]):=by
 let[[dx,hr],[z,[[an,f',g1,g2],g3],g4,g5],[dd,hd],[x,hw,ts],u,[ks,w,af,ap],aj,ag,as,[mb,hb,av],[mo,ho,ae,ao],[ma,aq,ab],[mp,hp,ak,ac],[ms,hs,ah,ad,ar],[ai,au],[mf,hf,aw,ax],j,d,K]:=h;let P:∀b X,H b=oT X->H' b=oT X:=λb X e=>k _ _ e (Br e ai (by intro y;cases y)) (Br e hb (by intro y;cases y)) (Br e hf (by intro y;cases y));refine[[dx,(k _ _ hr (nd2 j 0 13 Y I I) (nd2 j 0 8 Y I I) (nd2 j 0 14 Y I I))],[z,[[an,f',(k _ _ g1 (nd2 j 1 13 Y I I) (nd2 j 1 8 Y I I) (nd2 j 1 14 Y I I)),g2],(k _ _ g3 (nd2 j 2 13 Y I I) (nd2 j 2 8 Y I I) (nd2 j 2 14 Y I I))],g4,g5],[dd,(k _ _ hd (nd2 j 3 13 Y I I) (nd2 j 3 8 Y I I) (nd2 j 3 14 Y I I))],[x,(k _ _ hw (nd2 j 4 13 Y I I) (nd2 j 4 8 Y I I) (nd2 j 4 14 Y I I)),ts.mono P],λe W=>P _ _ (u e W),[ks,(k _ _ w (nd2 j 5 13 Y I I) (nd2 j 5 8 Y I I) (nd2 j 5 14 Y I I)),af,ap],(k _ _ aj (nd2 j 6 13 Y I I) (nd2 j 6 8 Y I I) (nd2 j 6 14 Y I I)),(k _ _ ag (nd2 j 7 13 Y I I) (nd2 j 7 8 Y I I) (nd2 j 7 14 Y I I)),λe W=>P _ _ (as e W),[S,s,by rw[fy,o5];exact e2],[mo,(k _ _ ho (nd2 j 9 13 Y I I) (nd2 j 9 8 Y I I) (nd2 j 9 14 Y I I)),ae,ao],[ma,(k _ _ aq (nd2 j 10 13 Y I I) (nd2 j 10 8 Y I I) (nd2 j 10 14 Y I I)),ab],[mp,(k _ _ hp (nd2 j 11 13 Y I I) (nd2 j 11 8 Y I I) (nd2 j 11 14 Y I I)),ak,λN v O=>?pd],[ms,(k _ _ hs (nd2 j 12 13 Y I I) (nd2 j 12 8 Y I I) (nd2 j 12 14 Y I I)),ah,ad,λN v O=>?sk],r,[F,l,by rw[fy,o5];exact e4,e5],j,d,λa ha=>?K]
 case pd=>
  let[p,km,E,Q,L,A,f]:=ac N v O;exact[p,km,E,Q,L,k _ _ A (λy=>L (by rw[y];exact Gd 13 I)) (λy=>L (by rw[y];exact Gd 8 I)) (λy=>L (by rw[y];exact Gd 14 I)),f]
 case sk=>
  let[p,E,Q,L,A,f]:=ar N v O;exact[p,E,Q,L,k _ _ A (λy=>L (by rw[y];exact Gd 13 I)) (λy=>L (by rw[y];exact Gd 8 I)) (λy=>L (by rw[y];exact Gd 14 I)),f]
 case K=>
  let[n1,o,i,n3]:=K a ha;refine[n1,?_];by_cases t:a=R.lf
  .rw[t];exact[_,r.1,trivial]
  by_cases C:a=R.br
  .rw[C];exact[_,s,trivial]
  by_cases M:a=R.fi
  .rw[M];exact[_,l,trivial]
  exact[o,k _ _ i t C M,n3]
def Cp.up{wl:J}{S:List V}{P:List Wl}(h:Cp CG CN CD T D H R c es ns os zs lf fs)(k:∀b o,H b=g o->b≠T->b≠R.dy->H' b=g o)(aj:∃ps,H T=g (.tbl ps))(u:Dy CD H' R.dy wl R.nl)(fw:H wl=U)(n:H' wl=oL S)(x:TsAt AH H' S P)(sub:∀e∈P,e∈es):Cp CG CN CD T (λa=>D a\/a=wl) H' { R with wl:=wl } c P ns os zs lf fs:=by
 let[[dx,hr],[kv,[[aq,f',g1,g2],g3],g4,g5],[dd,hd],[xs,hw,ts],a7,[ks,hn,ad,a8],ag,az,ai,[mb,B,ax],[mo,ho,av,as],[ma,ah,ab],[mp,hp,a0,ak],[ms,hs,af,ac,a9],[an,N],[mf,hf,ar,i],j,O,F]:=h;let[ba,hT]:=aj;let f:∀b,D b->b≠wl:=λb B=>by
  let[_,o,e,_]:=F b B;exact Af e fw
 let W:∀b,b∈({ R with wl:=wl }:Lg).own->b=wl\/b∈R.own:=λb B=>by
  simp only[Lg.own,cr,j_,gP]at B⊢;rcases B with h|h|h|h|h|h|h|h|h|h|h|h|h|h|h<;>simp[h]
 let t:∀b d,H b=oT d->H' b=oT d:=λb d e=>k _ _ e (Br e hT (by intro y;cases y)) (Br e hd (by intro y;cases y));refine[[dx,(k _ _ hr (F _ (O _ (Gd 0 I))).1 (nd2 j 0 3 Y I I))],[kv,[[aq,f',(k _ _ g1 (F _ (O _ (Gd 1 I))).1 (nd2 j 1 3 Y I I)),g2],(k _ _ g3 (F _ (O _ (Gd 2 I))).1 (nd2 j 2 3 Y I I))],g4,g5],u,[S,n,x],λe K=>t _ _ (a7 e (sub e K)),[ks,(k _ _ hn (F _ (O _ (Gd 5 I))).1 (nd2 j 5 3 Y I I)),ad,a8],(k _ _ ag (F _ (O _ (Gd 6 I))).1 (nd2 j 6 3 Y I I)),(k _ _ az (F _ (O _ (Gd 7 I))).1 (nd2 j 7 3 Y I I)),λe K=>t _ _ (ai e K),[mb,(k _ _ B (F _ (O _ (Gd 8 I))).1 (nd2 j 8 3 Y I I)),ax],[mo,(k _ _ ho (F _ (O _ (Gd 9 I))).1 (nd2 j 9 3 Y I I)),av,as],[ma,(k _ _ ah (F _ (O _ (Gd 10 I))).1 (nd2 j 10 3 Y I I)),ab],[mp,(k _ _ hp (F _ (O _ (Gd 11 I))).1 (nd2 j 11 3 Y I I)),a0,λX v A=>?pd],[ms,(k _ _ hs (F _ (O _ (Gd 12 I))).1 (nd2 j 12 3 Y I I)),af,ac,λX v A=>?sk],[(k _ _ an (F _ (O _ (Gd 13 I))).1 (nd2 j 13 3 Y I I)),N],[mf,(k _ _ hf (F _ (O _ (Gd 14 I))).1 (nd2 j 14 3 Y I I)),ar,i],?Q,λa E=>?O,λa E=>?F]
 case pd=>
  let[p,km,q,L,M,l,s]:=ak X v A;exact[p,km,q,.inl L,λy=>(W p y).elim (f p L) M,k _ _ l (F _ L).1 (λy=>M (by rw[y];exact Gd 3 I)),s]
 case sk=>
  let[p,q,L,M,l,s]:=a9 X v A;exact[p,q,.inl L,λy=>(W p y).elim (f p L) M,k _ _ l (F _ L).1 (λy=>M (by rw[y];exact Gd 3 I)),s]
 case Q=>
  let m:wl∉R.own:=λy=>f _ (O _ y) I;let Q:=j;simp only[Lg.own,lj,cr,j_,gP,not_or,vi,and_true]at Q m⊢;let[w1,w2,w3,w4,w5,w6,w7,w8,w9,ay,ae,a6,aw,ap,ao]:=m;let[[a1,a2,a3,a4,a5],[b1,b2,b3,b4],[c1,c2,c3],[d1,d2],[e1,e2],r]:=Q;exact[[a1,a2,a3,fQ w1,a5],[b1,b2,fQ w2,b4],[c1,fQ w3,c3],[fQ w4,d2],[w6,w7,w8,w9,ay,ae,a6,aw,ap,ao],r]
 case O=>exact(W a E).elim .inr λy=>.inl (O a y)
 case F=>
  rcases E with C|C
  .let[z,o,n2,n3]:=F a C
   refine[z,?_];by_cases w:a=R.dy
   .let[d9,h9]:=u
    rw[w];exact[_,h9,trivial]
   .exact[o,k _ _ n2 z w,n3]
  .subst C
   refine[λy=>?_,_,n,trivial];rw[y,hT]at fw;cases fw
def Cp.loss{z}{l sp P}{S}{B K L F}{zl}{aw}(h:Cp CG CN CD T D H R c es ns os zs lf fs)(k:∀b o,H b=g o->b≠R.kp->b≠R.lr->b≠R.oc->b≠R.ba->b≠R.pd->b≠R.sk->b≠R.lf->b≠sp->H' b=g o)(hl:H l=oT z.vs)(hS:sp∉R.own)(a5:H sp=U\/∃xs,H sp=oL xs)(sT:sp≠T)(qT:P≠T)(m:H' R.kp=g (.dT S))(e2:cQ S)(e3:S.length<=64*(zs.length+1))(e4:H' R.lr=g (.dK ((zs.map λe=>((.inl e.2.n:Dm),V.ref e.1))++#[(.inl z.n,.ref l)])))
  (w:H' R.oc=g (.dK B)) (e6:B.length<=zs.length+1) (e7:∀n,Cc B (.inl n)≠U↔∃e∈zs++#[(l,z)],e.2.n=n) (e8:H' R.ba=g (.dK K)) (e9:K.length<=zs.length+1) (ah:H' R.pd=g (.dK L)) (ap:L.length<=zs.length+1)
  (e12:∀(M:eU) v,Cc L (.inr M)=g v->∃p d,v=.ref p/\(D p\/p=sp\/p=P)/\p∉R.own/\H' p=g (.dK d)/\d.length<=8*(zs++#[(l,z)]).length/\∀(s:eU) u,Cc d (.inr s)=g u->∃i:Int,u=.int i)
  (an:H' R.sk=g (.dK F)) (ay:F.length<=zs.length+1) (a7:∀M:eU,Cc F (.inr M)=U->∀e∈zs++#[(l,z)],e.2.ev≠M)
  (a1:∀(M:eU) v,Cc F (.inr M)=g v->∃p,v=.ref p/\(D p\/p=sp\/p=P)/\p∉R.own/\H' p=oL (((zs++#[(l,z)]).filter λe=>decide (e.2.ev=M)).map λe=>V.int e.2.n)/\∀(f:eU),Cc F (.inr f)=g v->f=M)
  (ak:H' R.lf=g (.dK ((lf.map λq=>((.inl q.1:Dm),V.int q.2))++#[(.inl z.n,.int z.ct)]))) (e18:H' sp=oL zl) (as:H' P=g (.dK aw)):Cp CG CN CD T (λa=>D a\/a=sp\/a=P) H' R c es ns os (zs++#[(l,z)]) (lf++#[(z.n,z.ct)]) fs:=by
 let[[dx,hr],[kv,[[az,f',g1,g2],g3],g4,g5],[dd,hd],[xs,hw,ts],a6,[ks,hn,aq,a8],ar,a4,av,[mb,hb,a3],[mo,ho,bg,be],[ma,au,a9],[mp,hp,bh,bc],[ms,hs,bb,ba,bi],[ax,ab],[mf,hf,a0,a2],j,E,A]:=h;let N:∀i {a:J},R.own[i]?=g a->a≠sp:=λi a h y=>hS (by rw[<- y];exact Gd i h);let tE:∀b O,H b=oT O->b≠sp:=λb O e=>by
  rcases a5 with h|⟨xs,h⟩
  .exact Af e h
  .exact Br e h (by intro y;cases y)
 let Q:∀b O,H b=oT O->H' b=oT O:=λb O e=>k _ _ e (Br e g3 (by intro y;cases y)) (Br e a4 (by intro y;cases y)) (Br e ho (by intro y;cases y)) (Br e au (by intro y;cases y)) (Br e hp (by intro y;cases y)) (Br e hs (by intro y;cases y)) (Br e ax (by intro y;cases y)) (tE _ _ e);refine[[dx,(k _ _ hr (nd2 j 0 2 Y I I) (nd2 j 0 7 Y I I) (nd2 j 0 9 Y I I) (nd2 j 0 10 Y I I) (nd2 j 0 11 Y I I) (nd2 j 0 12 Y I I) (nd2 j 0 13 Y I I) (N 0 I))],[S,[[az,f',(k _ _ g1 (nd2 j 1 2 Y I I) (nd2 j 1 7 Y I I) (nd2 j 1 9 Y I I) (nd2 j 1 10 Y I I) (nd2 j 1 11 Y I I) (nd2 j 1 12 Y I I) (nd2 j 1 13 Y I I) (N 1 I)),g2],m],e2,by rw[fy,o5];exact e3],[dd,(k _ _ hd (nd2 j 3 2 Y I I) (nd2 j 3 7 Y I I) (nd2 j 3 9 Y I I) (nd2 j 3 10 Y I I) (nd2 j 3 11 Y I I) (nd2 j 3 12 Y I I) (nd2 j 3 13 Y I I) (N 3 I))],[xs,(k _ _ hw (nd2 j 4 2 Y I I) (nd2 j 4 7 Y I I) (nd2 j 4 9 Y I I) (nd2 j 4 10 Y I I) (nd2 j 4 11 Y I I) (nd2 j 4 12 Y I I) (nd2 j 4 13 Y I I) (N 4 I)),ts.mono Q],λe X=>Q _ _ (a6 e X),[ks,(k _ _ hn (nd2 j 5 2 Y I I) (nd2 j 5 7 Y I I) (nd2 j 5 9 Y I I) (nd2 j 5 10 Y I I) (nd2 j 5 11 Y I I) (nd2 j 5 12 Y I I) (nd2 j 5 13 Y I I) (N 5 I)),aq,a8],(k _ _ ar (nd2 j 6 2 Y I I) (nd2 j 6 7 Y I I) (nd2 j 6 9 Y I I) (nd2 j 6 10 Y I I) (nd2 j 6 11 Y I I) (nd2 j 6 12 Y I I) (nd2 j 6 13 Y I I) (N 6 I)),by rw[iN];exact e4,λe X=>?lt,[mb,(k _ _ hb (nd2 j 8 2 Y I I) (nd2 j 8 7 Y I I) (nd2 j 8 9 Y I I) (nd2 j 8 10 Y I I) (nd2 j 8 11 Y I I) (nd2 j 8 12 Y I I) (nd2 j 8 13 Y I I) (N 8 I)),a3],[B,w,by rw[fy,o5];exact e6,e7],[K,e8,by rw[fy,o5];exact e9],[L,ah,by rw[fy,o5];exact ap,e12],[F,an,by rw[fy,o5];exact ay,a7,a1],[by rw[iN];exact ak,by rw[iN,iN,ab];rfl],[mf,(k _ _ hf (nd2 j 14 2 Y I I) (nd2 j 14 7 Y I I) (nd2 j 14 9 Y I I) (nd2 j 14 10 Y I I) (nd2 j 14 11 Y I I) (nd2 j 14 12 Y I I) (nd2 j 14 13 Y I I) (N 14 I)),a0,a2],j,λa W=>.inl (E a W),λa W=>?A]
 case lt=>
  rcases gw.mp X with C|C
  .exact Q _ _ (av e C)
  .rw[d_.mp C]
   exact Q _ _ hl
 case A=>
  rcases W with C|C|C
  .let[n1,o,n2,n3]:=A a C
   refine[n1,?_];by_cases aj:a=R.kp
   .rw[aj];exact[_,m,trivial]
   by_cases r:a=R.lr
   .rw[r];exact[_,e4,trivial]
   by_cases ad:a=R.oc
   .rw[ad];exact[_,w,trivial]
   by_cases t:a=R.ba
   .rw[t];exact[_,e8,trivial]
   by_cases x:a=R.pd
   .rw[x];exact[_,ah,trivial]
   by_cases ao:a=R.sk
   .rw[ao];exact[_,an,trivial]
   by_cases ag:a=R.lf
   .rw[ag];exact[_,ak,trivial]
   by_cases af:a=sp
   .rw[af];exact[_,e18,trivial]
   exact[o,k _ _ n2 aj r ad t x ao ag af,n3]
  .rw[C];exact[sT,_,e18,trivial]
  .rw[C];exact[qT,_,as,trivial]
end
def eB(B:List (Dm×V)):Prop:=∀(s:eU) u,Cc B (.inr s)=g u->∃i:Int,u=.int i
def eB.put(h:eB b)(s:eU)(i:Int):eB (Ck b (.inr s) (.int i)):=λt u e=>by
 rw[Ep]at e;by_cases y:(Sum.inr t:Dm)=.inr s
 .rw[eR y]at e;cases e;exact[_,I]
 .rw[eQ y]at e;exact h t u e
def eB.get(h:eB b)(s:eU):∃i:Int,(Cc b (.inr s)).getD (.int 0)=.int i:=by
 cases e:Cc b (.inr s)with
 |none=>exact[0,I]
 |some u=>exact h s u e
def eA(C N:J)(H:Hp)(b:J)(cs:List (J×eU)):Prop:=∃L B M,H b=oI N L B/\B.lookup ("covers" : eU)=g (.ref M)/\H M=oL (cs.map λx=>V.ref x.1)/\∀x∈cs,∃L B,H x.1=oI C L B/\B.lookup ("name" : eU)=g (.str x.2)
def eA.same{C j:J}{H H':Hp}{b:J}{cs:List (J×eU)}(h:eA C j H b cs)(s:Ag H H'):eA C j H' b cs:=by
 let[O,P,Q,N,L,B,F]:=h;refine[O,P,Q,s _ _ N,L,s _ _ B,λx S=>?_];let[d,f,e,M]:=F x S;exact[d,f,s _ _ e,M]
def MA(H H':Hp):Prop:=∀b o,H b=g o->(∀m,o≠HO.dK m)->H' b=g o
def eA.kk{C j:J}{H H':Hp}{b:J}{cs:List (J×eU)}(h:eA C j H b cs)(s:MA H H'):eA C j H' b cs:=by
 let[O,P,Q,N,L,B,F]:=h;refine[O,P,Q,s _ _ N (λz y=>by cases y),L,s _ _ B (λz y=>by cases y),λx S=>?_];let[d,f,e,M]:=F x S;exact[d,f,s _ _ e (λz y=>by cases y),M]
inductive NH(CG C CB:J)(vs:List V)(H:Hp)(Q:VK)(E:XK):Prop
 |mk (R:Lg) (c:Option Int) (l st dx:J) (z:LF) (mp ma:List (Dm×V)) (cs:List (J×eU)) (ys:List V) (S:List AB) (m:Nat) (z0:vs=#[.ref R.r,.ref l,.ref st]) (z1:H R.r=oI CG dx (Ly R c)) (z2:H R.pd=g (.dK mp)) (z3:mp.length<900) (z4:H R.ba=g (.dK ma)) (z5:ma.length<900) (z6:R.ba≠R.pd)
  (z7:∀v,Cc mp (.inr z.ev)=g v->∃p km,v=.ref p/\p≠R.ba/\p≠R.pd/\H p=g (.dK km)/\km.length<=m/\eB km) (z8:m<=900) (z9:H l=oT z.vs) (z10:H st=oL ys) (z11:cK H ys S) (z12:S.length<64) (z13:eA C CB H R.b cs) (z14:cs.length<=8)
  (zq:∀q2 km' v H',(∀b o,H b=g o->b≠R.ba->b≠R.pd->H' b=g o)->H q2=U->H' q2=g (.dK km')->km'.length<=m+8->eB km'->H' R.ba=g (.dK (Ck ma (.inl z.n) v))->H' R.pd=g (.dK (Ck mp (.inr z.ev) (.ref q2)))->Q .non H')
def PZ(R:Lg)(c:Option Int):(Ly R c).lookup ("number_paid_cents" : eU)=U:=rfl
section
seal L2.PS L2.PSs L2.PE L2.PA
variable {P:eY} {w:fF} {K:a'} {mg:eU->Option eJ} {base:fK}
def Gs:Bg #["self","row","strips","paid","cover","so_far"] #["self","row","strips"] (Ao Dl):=by injections
def Gu(C:Pm P w K mg base){f:J}{fd:m_}(F:cF K "number_paid_cents" "Ledger.number_paid_cents" Dl f fd):Bp P w K mg base Fv 2 f fd #["self","row","strips"] (NH Ah Aq Cr):=by
 let sc:=Gs;bv_omega
 .let[_,_,_,_,_,_,_,_,_,_,_,_,rfl,_]:=h
  rfl
 let W:=Gq hr;let[R,c,l,st,dx,z,mp,ma,cs,ys,S,m,rfl,j,hp,lp,hb,lb,b9,c7,m9,hl,d7,c8,f2,cv,l8,q]:=h;refine[_,(Ac (Dp sc 3 (Mo W (Bd (pv 0) I) (Ej K (pv 1) (Lb C.z C.cb)) Ff [I,I,I,I]))
   (Ac (Fs W (Bd (pv 0) I) (Ej K (pv 1) (Lb C.z C.cq)) (pv 3) I)
   (Ac (Fs W (Bd (pv 0) I) (Ej K (pv 1) (Lb C.z C.cb)) (Em L0 I (C.z.nn C.qy) (show fz _=g (.type "dict") from rfl) (Bz (pv 3))) I)
   (Ad (Cj fH I (Jz K (Bd (Bd (pv 0) I) I)) (Gi sc 4)
    (Ac (Dp sc 5 (Mo W (pv 3) (Bd (pv 4) I) Ae [I,I,I,I]))
   (Ad (Fs W (Jr W (Bd (pv 0) I) (Ej K (pv 1) (Lb C.z C.cb)) (λ_ _=>I)) (Bd (pv 4) I) (As Co (pv 5) (Do (E3 C) hr (Ca (Bd (pv 4) I) (pv 2)))) I)))))))),?_]
 refine Fc λN eN=>?_;refine[_,I,R.r,Ah,dx,_,_,I,j,C.aa.cl,C.bw,Wq R c,R.pd,I,.inl [_,.inl hp],_,I,l,_,_,_,I,I,Bh.of hl,I,λn0 a0=>[_,cD.k (k:=.inr z.ev) ((Aa a0 (.dK [])) _ _ hp),?_]];let s1:=Aa a0 (.dK []);let e1:upd H n0 (.dK []) n0=g (.dK []):=Ab;generalize upd H n0 (.dK [])=H1 at s1 e1;obtain⟨pp,d,ep,e8,e5,d6,d8,b8⟩:∃p d,(Cc mp (.inr z.ev)).getD (.ref n0)=.ref p/\p≠R.ba/\p≠R.pd/\H1 p=g (.dK d)/\d.length<=m/\eB d:=by
  cases e:Cc mp (.inr z.ev)with
  |none=>exact[n0,[],I,(Af hb a0).symm,(Af hp a0).symm,e1,de _,λs u y=>by simp[Cc]at y]
  |some v=>
   let[p,d,rfl,a1,a2,a3,a4]:=c7 v e;exact[p,d,I,a1,a2,s1 _ _ a3,a4]
 rw[ep];refine Gj eN #[oR R.r,oR l,oR st,oR pp,U,U] rfl λN eN=>?_;refine[_,I,_,I,R.r,Ah,dx,_,_,I,s1 _ _ j,C.aa.cl,C.g8,HI R c,_,I,l,_,_,_,I,I,Bh.of (s1 _ _ hl),I,R.ba,_,I,cM.k (k:=.inl z.n) (s1 _ _ hb) (by rw[ck];lia),?_];let k2:∀b o,H1 b=g o->b≠R.ba->upd H1 R.ba (.dK (Ck ma (.inl z.n) (.ref pp))) b=g o:=λb o e n=>by rw[Aj n];exact e
 let e2:upd H1 R.ba (.dK (Ck ma (.inl z.n) (.ref pp))) R.ba=g (.dK (Ck ma (.inl z.n) (.ref pp))):=Ab;generalize upd H1 R.ba (.dK (Ck ma (.inl z.n) (.ref pp)))=H2 at k2 e2;let d9:=k2 _ _ (s1 _ _ j) (Br j hb (by intro y;cases y));let d3:=k2 _ _ (s1 _ _ hl) (Br hl hb (by intro y;cases y));let c4:=k2 _ _ (s1 _ _ hp) b9.symm;let r:=k2 _ _ d6 e8
 first|refine Iu eN λN eN=>?_|subst eN
 refine[_,I,pp,d,I,r,λL T=>?_];let s3:=Aa T (.dK d);let e3:upd H2 L (.dK d) L=g (.dK d):=Ab;generalize upd H2 L (.dK d)=H3 at s3 e3;let d2:=s3 _ _ d9;let e0:=s3 _ _ d3;let c9:=s3 _ _ c4;refine[_,I,R.r,Ah,dx,_,_,I,d2,C.aa.cl,C.bw,Wq R c,_,I,l,_,_,_,I,I,Bh.of e0,I,R.pd,_,I,cM.k (k:=.inr z.ev) c9 (by rw[ck];lia),?_];let k4:∀b o,H3 b=g o->b≠R.pd->upd H3 R.pd (.dK (Ck mp (.inr z.ev) (.ref L))) b=g o:=λb o e n=>by rw[Aj n];exact e
 let e4:upd H3 R.pd (.dK (Ck mp (.inr z.ev) (.ref L))) R.pd=g (.dK (Ck mp (.inr z.ev) (.ref L))):=Ab;generalize upd H3 R.pd (.dK (Ck mp (.inr z.ev) (.ref L)))=H4 at k4 e4;let b0:L≠R.pd:=(Af c4 T).symm;let c0:R.ba≠L:=Af e2 T;let e7:pp≠L:=Af r T;let M:=k4 _ _ e3 b0;let go:∀b o,H b=g o->b≠R.ba->b≠R.pd->H4 b=g o:=λb o e n1 n2=>k4 _ _ (s3 _ _ (k2 _ _ (s1 _ _ e) n1)) n2;let kk:MA H H4:=λb o e n=>go _ _ e (Br e hb (n _)) (Br e hp (n _));let a9:=kk _ _ j (λ_ y=>by cases y);let b7:=kk _ _ hl (λ_ y=>by cases y);let a6:=kk _ _ d7 (λ_ y=>by cases y);let b5:=c8.mono λt ws y=>kk _ _ y (λ_ y=>by cases y);let[db,fb,cl,b1,b2,b3,b4]:=cv.kk kk;let fq:H L=U:=by
  cases y:H L with
  |none=>rfl
  |some o=>rw[k2 _ _ (s1 _ _ y) (λh=>c0 h.symm)]at T;cases T
 first|refine Iu eN λN eN=>?_|subst eN
 refine[_,I,R.r,Ah,dx,_,_,I,a9,C.aa.cl,C.bv,Xy R c,R.b,Cr,db,fb,_,I,b1,C.g7.cl,C.gc,b2,cl,I,[_,Am.of b3],?_];refine Ei (K:=K) (a:=cl) (xs:=cs.map λx=>V.ref x.1) (λi σ H5=>(∃o1 o2,σ=#[oR R.r,oR l,oR st,oR pp,o1,o2])/\(∃O,H5 L=g (.dK O)/\O.length<=m+i/\eB O)/\(∀b o,H4 b=g o->b≠L->H5 b=g o))
  [[U,U,I],[d,M,d8,b8],λ_ _ e _=>e] (λi σ H5 _ hh=>Am.of (hh.2.2 _ _ b3 (Br b3 M (by intro y;cases y)))) ?_ ?_
 .rintro i y σ H5 hi ⟨⟨o1,o2,rfl⟩,⟨O,a7,c3,a8⟩,X⟩ N9 d4
  rw[jk]at hi;let[x,hx,rfl]:=pe.mp hi;let[dc,fc,c1,c2]:=b4 x (kS hx);let c5:=X _ _ c1 (Br c1 M (by intro y;cases y));let a5:=X _ _ (k4 _ _ (s3 _ _ r) e5) e7;let[si,d0]:=b8.get x.2;let f3:i<cs.length:=(hI.mp hx).1;refine[_,I,pp,I,.inl [_,.inl a5],_,I,x.1,Aq,dc,fc,_,I,c5,C.ac.cl,C.ae,c2,_,cD.k (k:=.inr x.2) a5,?_];rw[d0];refine[_,I,_,I,x.1,Aq,dc,fc,_,I,c5,C.ac.cl,C.ae,c2,_,I,x.2,st,ys,S,I,X _ _ a6 (Br a6 M (by intro y;cases y)),b5.mono (λt ws y=>X _ _ y (Br y M (by intro y;cases y))),Z,λH6 s6=>?_];let c6:=s6 _ _ (X _ _ a9 (Br a9 M (by intro y;cases y)));let d1:=s6 _ _ (X _ _ b7 (Br b7 M (by intro y;cases y)));let d5:=s6 _ _ (X _ _ e4 (λh=>b0 h.symm));let gq:cD H6 R.pd (.str z.ev) (g (.ref L)):=by
   let B:=cD.k (k:=.inr z.ev) d5;rw[Ep,eR I]at B;exact B
  refine[_,_,I,I,_,I,R.r,Ah,dx,_,_,I,c6,C.aa.cl,C.bw,Wq R c,_,I,l,_,_,_,I,I,Bh.of d1,I,R.pd,_,I,gq,_,I,x.1,Aq,dc,fc,_,I,s6 _ _ c5,C.ac.cl,C.ae,c2,L,_,I,cM.k (k:=.inr x.2) (s6 _ _ a7) (by rw[ck];lia),d4 _ _ [[_,_,I],[_,Ab,?_,a8.put _ _],λb o e n=>?_]]
  .have:=Cu O (.inr x.2) (.int (si+(Kb x.2 S).sum))
   lia
  .rw[Aj n]
   exact s6 _ _ (X _ _ e n)
 .rintro σ H5 ⟨⟨o1,o2,rfl⟩,⟨O,a7,c3,a8⟩,X⟩
  rw[cn]at c3;subst eN;exact q L O _ H5 (λb o e n1 n2=>X _ _ (go b o e n1 n2) (Af e fq)) fq a7 Z a8 (X _ _ (k4 _ _ (s3 _ _ e2) b9) c0) (X _ _ e4 (λh=>b0 h.symm))
def Mg(B:Pm P w K mg base):Jm B 2 Ah "number_paid_cents" #["self","row","strips"] (NH Ah Aq Cr):=BQ B.gl B.aa.cl bd λf C F=>Gu B F
end
def Hg{p b:J}{o B:HO}(h:H b=g o)(n:b≠p):upd H p B b=g o:=by rw[Aj n];exact h
open Classical in
noncomputable def cC(D:J->Prop)(T:J)(H:Hp):Hp:=λb=>if D b\/b=T then U else H b
set_option tactic.hygienic true in
def cC.at{D:J->Prop}{T b:J}{o:HO}(h:cC D T H b=g o):¬D b/\b≠T/\H b=g o:=by
 unfold cC at h
 split at h
 .cases h
 .rename_i n
  exact[λy=>n (.inl y),λy=>n (.inr y),h]
def cC.of{D:J->Prop}{T b:J}{o:HO}(n:¬D b)(t:b≠T)(h:H b=g o):cC D T H b=g o:=by
 unfold cC;rw[eQ (λy=>y.elim n t)];exact h
def A3{D D':J->Prop}{T:J}{H H':Hp}(f:∀b o,H b=g o->¬D b->b≠T->H' b=g o)(B:∀b,D' b->D b\/H b=U):Ag (cC D T H) (cC D' T H'):=λb o h=>by
 let[C,F,j]:=cC.at h;refine cC.of (λy=>?_) F (f b o j C F);rcases B b y with z|z
 .exact C z
 .rw[z]at j;cases j
def Qj{D:J->Prop}{T:J}{H H':Hp}(f:∀b o,H b=g o->¬D b->b≠T->H' b=g o):Ag (cC D T H) H':=λb o h=>by
 let[B,F,j]:=cC.at h;exact f b o j B F
def Tf{N S F j C L:J}{H H':Hp}{b:J}{bs:List Nt}(h:Pr c N S F j C L H b bs)(s:Ag H H'):Pr c N S F j C L H' b bs:=by
 let[R,T,B,Q,P,W,M]:=h;exact[R,T,B,s _ _ Q,P,s _ _ W,λx O=>(M x O).same s]
structure NS(bs:List Nt):Prop where
 hm:∀x∈bs,SQ x.t<4
 l4:bs.length<=4
 nd:(bs.map (·.nm)).Nodup
 c3:∀x∈bs,x.cs.length<=3
abbrev Ss(B:List (J×LF))(C:eU):List V:=(B.filter λe=>decide (e.2.ev=C)).map λe=>V.int e.2.n
def Mx(B:List (J×LF))(l:J)(z:LF)(j:eU):Ss (B++#[(l,z)]) j=Ss B j++if z.ev=j then #[V.int z.n] else []:=by
 unfold Ss;rw[vf,iN]
 congr 1
 by_cases h:z.ev=j<;>simp[h]
def RZ{B:List (J×LF)}{n:Int}(h:∀e∈B,e.2.n≠n):Cc (B.map λe=>((.inl e.2.n:Dm),V.ref e.1)) (.inl n)=U:=by
 cases y:Cc (B.map λe=>((.inl e.2.n:Dm),V.ref e.1)) (.inl n)with
 |none=>rfl
 |some v=>
  let m:=U7 y;rw[rb]at m;let[e,j,q]:=g_.mp m;injection q with q;exact fA q (h e j)
def IK{B:List (Int×Int)}{n:Int}(h:n∉B.map (·.1)):Cc (B.map λq=>((.inl q.1:Dm),V.int q.2)) (.inl n)=U:=by
 cases y:Cc (B.map λq=>((.inl q.1:Dm),V.int q.2)) (.inl n)with
 |none=>rfl
 |some v=>exact fA (P9 (λz=>by rw[y]at z;cases z)) h
inductive XJ(κ:A8)(CC CO CL CM C CB CG CN CD T:J)(vs:List V)(H:Hp)(Q:VK)(E:XK):Prop
 |mk (R:Lg) (D:J->Prop) (c:Option Int) (es:List Wl) (ns os:List Int) (zs:List (J×LF)) (lf:List (Int×Int)) (fs:List Int) (l:J) (z:LF) (bs:List Nt) (cs:List (J×eU)) (z0:vs=#[.ref R.r,.ref l]) (z1:Cp CG CN CD T D H R c es ns os zs lf fs) (z2:Pr κ CC CO CL CM C CB (cC D T H) R.b bs) (z3:eA C CB (cC D T H) R.b cs) (z4:cs.length<=8) (z5:NS bs)
  (z6:H l=oT z.vs) (z7:0<z.ct) (z8:∀e∈zs,e.2.n≠z.n) (z9:zs.length<=9) (zT:∃o,H T=g o)
  (zq:∀(D':J->Prop) H',(∀b o,H b=g o->¬D b->H' b=g o)->(∀b,D' b->D b\/H b=U)->(∀b,D b->D' b)->Cp CG CN CD T D' H' R c es ns os (zs++#[(l,z)]) (lf++#[(z.n,z.ct)]) fs->Q .non H')
section
seal L2.PS L2.PSs L2.PE L2.PA
variable {P:eY} {w:fF} {K:a'} {mg:eU->Option eJ} {base:fK}
def Ym(M:Pm P w K mg base):Jm M 9 Ah "settle_loss" #["self","row"] (XJ (A8.mk Ba) Al Al An An Aq Cr Ah Aw Bc TT):=BR M.z M.io M.aa.cl #["self","row","number","strips"] df λsc H Q hr h=>by
 let ao:=Gq hr;let[R,D,c,es,ns,os,s,lf,fs,l,z,bs,cs,rfl,j,bt,cv,lc,bk,hl,b2,a4,lz,[oZ,hT],q]:=h;refine[_,(Ac (Dp sc 2 (Ej K (pv 1) (Lb M.z M.cq)))
   (Ac (Dp sc 3 (Do (JF M) hr (Ai (Bd (pv 0) I) (Ca (Bd (pv 0) I) (pv 1)))))
   (Ac (Fs ao (Bd (pv 0) I) (pv 2) (pv 1) I)
   (Ac (Fs ao (Bd (pv 0) I) (pv 2) (pv 3) I)
   (Ac (Fs ao (Bd (pv 0) I) (pv 2) (Ej K (pv 1) (Lb M.z M.gj)) I)
   (Ac (Bk (Ed (K:=K) I fG gA fZ Dq (IB (Bd (pv 0) I) (Ej K (pv 1) (Lb M.z M.cb)) (Bu Eg) [I,I,I,I]) (Bz (pv 2))))
   (Ad (Bk (Cn (Mg M) (hr.mono Y) (pv 0) (Ca (pv 1) (pv 3))))))))))),?_]
 refine Fc λN f=>?_;let[dx,ab]:=j.hr;let[kv,ct,iv,b1]:=j.ct;let hk:=ct.hk;let ap:=j.lr;let[mo,ho,lo,bm]:=j.oc;let[ma,be,b0]:=j.ba;let[mp,hp,lp,av]:=j.pd;let[ms,hs,ls,am,aj]:=j.sk;let[an,ak]:=j.lf;let bz:lf.length=s.length:=by
  let:=gF mL ak;rw[cn,cn]at this;exact this
 let b4:=bk.l4;let ay:=Tf bt (Qj λb o h _ _=>h);refine[_,I,l,_,_,_,I,I,Bh.of hl,I,?_];refine Gj f #[oR R.r,oR l,oN z.n,U] rfl λN f=>?_;refine[_,I,R.r,Ah,dx,_,_,I,ab,M.aa.cl,M.bv,Xy R c,_,I,R.r,Ah,dx,_,_,I,ab,M.aa.cl,M.cg,Uo R c,_,I,R.b,R.cp,R.kp,kv,l,z,bs,I,ay,bk.hm,Z,bk.nd,ct,iv,Z,hl,b2,λr ys S H1 k1 nr bu bn so bc az=>?_];refine Gj f #[oR R.r,oR l,oN z.n,oR r] rfl λN f=>?_;let bi:=k1 _ _ hl (Br hl hk (by intro y;cases y));refine[_,I,_,I,R.r,Ah,dx,_,_,I,(k1 _ _ ab (nd2 j.nd 0 2 Y I I)),M.aa.cl,M.bq,Np R c,_,I,R.lr,_,I,cM.k (k:=.inl z.n) (k1 _ _ ap (nd2 j.nd 7 2 Y I I)) (by rw[ck,cn];lia),?_];let k2:∀b o,H1 b=g o->b≠R.lr->upd H1 R.lr (.dK (Ck (s.map λe=>((.inl e.2.n:Dm),V.ref e.1)) (.inl z.n) (.ref l))) b=g o:=λb o e n=>Hg e n;let e2:upd H1 R.lr (.dK (Ck (s.map λe=>((.inl e.2.n:Dm),V.ref e.1)) (.inl z.n) (.ref l))) R.lr=g (.dK (Ck (s.map λe=>((.inl e.2.n:Dm),V.ref e.1)) (.inl z.n) (.ref l))):=Ab;generalize upd H1 R.lr (.dK (Ck (s.map λe=>((.inl e.2.n:Dm),V.ref e.1)) (.inl z.n) (.ref l)))=H2 at k2 e2;let bx:=k2 _ _ bi (Br hl ap (by intro y;cases y))
 first|refine Iu f λN f=>?_|subst f
 refine[_,I,_,I,R.r,Ah,dx,_,_,I,(k2 _ _ (k1 _ _ ab (nd2 j.nd 0 2 Y I I)) (nd2 j.nd 0 7 Y I I)),M.aa.cl,M.bh,Ka R c,_,I,R.oc,_,I,cM.k (k:=.inl z.n) (k2 _ _ (k1 _ _ ho (nd2 j.nd 9 2 Y I I)) (nd2 j.nd 9 7 Y I I)) (by rw[ck];lia),?_];let u:∀b o,H2 b=g o->b≠R.oc->upd H2 R.oc (.dK (Ck mo (.inl z.n) (.ref r))) b=g o:=λb o e n=>Hg e n;let e3:upd H2 R.oc (.dK (Ck mo (.inl z.n) (.ref r))) R.oc=g (.dK (Ck mo (.inl z.n) (.ref r))):=Ab;generalize upd H2 R.oc (.dK (Ck mo (.inl z.n) (.ref r)))=H3 at u e3;let aw:=u _ _ bx (Br hl ho (by intro y;cases y))
 first|refine Iu f λN f=>?_|subst f
 refine[_,I,l,_,_,_,I,I,Bh.of aw,I,_,I,R.r,Ah,dx,_,_,I,(u _ _ (k2 _ _ (k1 _ _ ab (nd2 j.nd 0 2 Y I I)) (nd2 j.nd 0 7 Y I I)) (nd2 j.nd 0 9 Y I I)),M.aa.cl,M.ao,Lj R c,_,I,R.lf,_,I,cM.k (k:=.inl z.n) (u _ _ (k2 _ _ (k1 _ _ an (nd2 j.nd 13 2 Y I I)) (nd2 j.nd 13 7 Y I I)) (nd2 j.nd 13 9 Y I I)) (by rw[ck,cn];lia),?_];let k4:∀b o,H3 b=g o->b≠R.lf->upd H3 R.lf (.dK (Ck (lf.map λq=>((.inl q.1:Dm),V.int q.2)) (.inl z.n) (.int z.ct))) b=g o:=λb o e n=>Hg e n;let e4:upd H3 R.lf (.dK (Ck (lf.map λq=>((.inl q.1:Dm),V.int q.2)) (.inl z.n) (.int z.ct))) R.lf=g (.dK (Ck (lf.map λq=>((.inl q.1:Dm),V.int q.2)) (.inl z.n) (.int z.ct))):=Ab;generalize upd H3 R.lf (.dK (Ck (lf.map λq=>((.inl q.1:Dm),V.int q.2)) (.inl z.n) (.int z.ct)))=E at k4 e4;let au:=k4 _ _ aw (Br hl an (by intro y;cases y));let ad:∀b o,H b=g o->b≠R.kp->b≠R.lr->b≠R.oc->b≠R.lf->E b=g o:=λb o e n1 n2 n3 n4=>k4 _ _ (u _ _ (k2 _ _ (k1 _ _ e n1) n2) n3) n4;let bo:=(k4 _ _ (u _ _ (k2 _ _ (k1 _ _ ab (nd2 j.nd 0 2 Y I I)) (nd2 j.nd 0 7 Y I I)) (nd2 j.nd 0 9 Y I I)) (nd2 j.nd 0 13 Y I I));let ag:=(k4 _ _ (u _ _ (k2 _ _ (k1 _ _ hs (nd2 j.nd 12 2 Y I I)) (nd2 j.nd 12 7 Y I I)) (nd2 j.nd 12 9 Y I I)) (nd2 j.nd 12 13 Y I I));let f4:∀b,E b=U->H b=U:=λb A=>by
  cases y:H b with
  |none=>rfl
  |some o=>
   by_cases y1:b=R.kp
   .rw[y1,(k4 _ _ (u _ _ (k2 _ _ az.hk (nd2 j.nd 2 7 Y I I)) (nd2 j.nd 2 9 Y I I)) (nd2 j.nd 2 13 Y I I))]at A;cases A
   by_cases y2:b=R.lr
   .rw[y2,(k4 _ _ (u _ _ e2 (nd2 j.nd 7 9 Y I I)) (nd2 j.nd 7 13 Y I I))]at A;cases A
   by_cases d:b=R.oc
   .rw[d,(k4 _ _ e3 (nd2 j.nd 9 13 Y I I))]at A;cases A
   by_cases y4:b=R.lf
   .rw[y4,e4]at A;cases A
   rw[ad _ _ y y1 y2 d y4]at A;cases A
 first|refine Iu f λN f=>?_|subst f
 let af:∀b,E b=U->b∉R.own:=λb A y=>by
  let[_,o,e,_]:=j.al b (j.own b y);rw[f4 b A]at e;cases e
 let ai:∀i {a:J},R.own[i]?=g a->r≠a:=λi a h y=>by
  let[_,o,e,_]:=j.al a (j.own a (Gd i h));rw[<- y,nr]at e;cases e
 let r4:=k4 _ _ (u _ _ (k2 _ _ bu (ai 7 I)) (ai 9 I)) (ai 13 I);let a2:∀t ws,H1 t=oT ws->E t=oT ws:=λt ws y=>k4 _ _ (u _ _ (k2 _ _ y (Br y (k1 _ _ ap (nd2 j.nd 7 2 Y I I)) (by intro y;cases y))) (Br y (k1 _ _ ho (nd2 j.nd 9 2 Y I I)) (by intro y;cases y))) (Br y (k1 _ _ an (nd2 j.nd 13 2 Y I I)) (by intro y;cases y));let bb:∀xs,(Ss s xs).length<=9:=λxs=>by
  unfold Ss;rw[cn];exact fO (ni _ _) lz
 let aq:∀(W:J) (ae:List (Dm×V)) (zl:List V) (H7:Hp),(∀b o,E b=g o->b≠R.sk->b≠W->H7 b=g o)->W∉R.own->W≠TT->(E W=U\/D W/\∃xs,H W=oL xs)->H7 R.sk=g (.dK ae)->H7 W=oL zl->ae.length<=s.length+1 ->
   (∀B:eU,Cc ae (.inr B)=U->∀e∈s++#[(l,z)],e.2.ev≠B)->(∀(B:eU) v,Cc ae (.inr B)=g v->∃p,v=.ref p/\(D p\/p=W)/\p∉R.own/\H7 p=oL (Ss (s++#[(l,z)]) B)/\∀(C:eU),Cc ae (.inr C)=g v->C=B)->N #[oR R.r,oR l,oN z.n,oR r] H7:=by
  intro W ae zl H7 k7 sO sT ah ar a3 br m1 m2;let O:∀i {a:J},R.own[i]?=g a->a≠W:=λi a h y=>sO (by rw[<- y];exact Gd i h);let a6:H W=U\/∃xs,H W=oL xs:=ah.imp (f4 W) (·.2);let ax:∀b m,H b=g (.dK m)->b≠W:=λb m e=>by
   rcases a6 with h|⟨xs,h⟩
   .exact Af e h
   .exact Br e h (by intro y;cases y)
  let bj:E W=U\/∃xs,E W=oL xs:=by
   rcases ah with h|⟨_,xs,h⟩
   .exact .inl h
   .exact .inr [xs,ad _ _ h (O 2 I).symm (O 7 I).symm (O 9 I).symm (O 13 I).symm]
  let a7:∀b ws,E b=oT ws->H7 b=oT ws:=λb ws e=>k7 _ _ e (Br e ag (by intro y;cases y)) (by
   rcases bj with h|⟨xs,h⟩
   .exact Af e h
   .exact Br e h (by intro y;cases y))
  let ac:∀b o,H b=g o->b≠R.kp->b≠R.lr->b≠R.oc->b≠R.lf->b≠R.sk->b≠W->H7 b=g o:=λb o e n1 n2 n3 n4 n5 n6=>k7 _ _ (ad b o e n1 n2 n3 n4) n5 n6;let a8:=ac _ _ ab (nd2 j.nd 0 2 Y I I) (nd2 j.nd 0 7 Y I I) (nd2 j.nd 0 9 Y I I) (nd2 j.nd 0 13 Y I I) (nd2 j.nd 0 12 Y I I) (O 0 I);let bw:=ac _ _ hp (nd2 j.nd 11 2 Y I I) (nd2 j.nd 11 7 Y I I) (nd2 j.nd 11 9 Y I I) (nd2 j.nd 11 13 Y I I) (nd2 j.nd 11 12 Y I I) (O 11 I);let a1:=ac _ _ be (nd2 j.nd 10 2 Y I I) (nd2 j.nd 10 7 Y I I) (nd2 j.nd 10 9 Y I I) (nd2 j.nd 10 13 Y I I) (nd2 j.nd 10 12 Y I I) (O 10 I);let al:∀b o,H b=g o->¬D b->H7 b=g o:=λb o e n=>ac _ _ e (λy=>n (y▸j.own _ (Gd 2 I))) (λy=>n (y▸j.own _ (Gd 7 I))) (λy=>n (y▸j.own _ (Gd 9 I))) (λy=>n (y▸j.own _ (Gd 13 I))) (λy=>n (y▸j.own _ (Gd 12 I))) (λy=>by
   rcases ah with h|⟨h,_⟩
   .rw[y,f4 _ h]at e;cases e
   .exact n (y▸h))
  let F:∀(p:J) i {a:J},p∉R.own->R.own[i]?=g a->p≠a:=λp i a n h y=>n (by rw[y];exact Gd i h);let bg:r≠W:=λy=>by
   rcases ah with h|⟨_,xs,h⟩
   .rw[<- y,r4]at h;cases h
   .rw[<- y,nr]at h;cases h
  subst f;refine[_,I,R.r,dx,_,I,a8,PZ R c,_,I,_,I,R,c,l,r,dx,z,mp,ma,cs,ys,S,8*s.length,I,a8,bw,Z,a1,Z,(nd2 j.nd 10 11 Y I I),λv X=>?_,Z,a7 _ _ au,k7 _ _ r4 (ai 12 I) bg,bn.mono λt ws y=>a7 _ _ (a2 _ _ y),bc,cv.same (Qj λb o e n _=>al b o e n),lc,λq2 bh v H8 k8 fq e8 l8 bq bl bv=>?_]
  .let[p,km,e,x2,T,x4,x5,x6]:=av z.ev v X
   exact[p,km,e,F p 10 T I,F p 11 T I,ac _ _ x4 (F p 2 T I) (F p 7 T I) (F p 9 T I) (F p 13 T I) (F p 12 T I) (ax _ _ x4),x5,x6]
  let a5:E q2=U:=by
   cases y:E q2 with
   |none=>rfl
   |some o=>
    by_cases y1:q2=R.sk
    .rw[y1,ar]at fq;cases fq
    by_cases y2:q2=W
    .rw[y2,a3]at fq;cases fq
    rw[k7 _ _ y y1 y2]at fq;cases fq
  let as:=f4 _ a5;let a0:∀b o,H b=g o->b≠R.kp->b≠R.lr->b≠R.oc->b≠R.ba->b≠R.pd->b≠R.sk->b≠R.lf->b≠W->H8 b=g o:=λb o e n1 n2 n3 n4 n5 n6 n7 n8=>k8 _ _ (ac b o e n1 n2 n3 n7 n6 n8) n4 n5;let a9:(s++#[(l,z)]).length=s.length+1:=by rw[fy,o5]
  refine q (λa=>D a\/a=W\/a=q2) H8 (λb o e n=>k8 _ _ (al b o e n) (λy=>n (y▸j.own _ (Gd 10 I))) (λy=>n (y▸j.own _ (Gd 11 I)))) (λb A=>?_) (λb A=>.inl A) (j.loss a0 hl sO a6 sT (Af hT as).symm (k8 _ _ (k7 _ _ (k4 _ _ (u _ _ (k2 _ _ az.hk (nd2 j.nd 2 7 Y I I)) (nd2 j.nd 2 9 Y I I)) (nd2 j.nd 2 13 Y I I)) (nd2 j.nd 2 12 Y I I) (O 2 I)) (nd2 j.nd 2 10 Y I I) (nd2 j.nd 2 11 Y I I)) (Oe iv) ?_ ?_
   (k8 _ _ (k7 _ _ (k4 _ _ e3 (nd2 j.nd 9 13 Y I I)) (nd2 j.nd 9 12 Y I I) (O 9 I)) (nd2 j.nd 9 10 Y I I) (nd2 j.nd 9 11 Y I I)) ?_ (λn=>?_) bl ?_ bv ?_ (λB v X=>?_) (k8 _ _ ar (nd2 j.nd 12 10 Y I I) (nd2 j.nd 12 11 Y I I)) br m1 (λB v X=>?_) ?_ (k8 _ _ a3 (O 10 I).symm (O 11 I).symm) e8)
  .rcases A with h|h|h
   .exact .inl h
   .rw[h];exact ah.symm.imp (·.1) (f4 W)
   .rw[h];exact .inr as
  .have h1:=Ox (z:=z) (S:=S) (xs:=Hf z bs) (k:=kv) λx hx=>fO (bk.c3 x (nw.mp hx).1) Y
   let h2:(Hf z bs).length<=bs.length:=ni _ _
   lia
  .rw[<- Yu (.ref l) (RZ a4)]
   exact k8 _ _ (k7 _ _ (k4 _ _ (u _ _ e2 (nd2 j.nd 7 9 Y I I)) (nd2 j.nd 7 13 Y I I)) (nd2 j.nd 7 12 Y I I) (O 7 I)) (nd2 j.nd 7 10 Y I I) (nd2 j.nd 7 11 Y I I)
  .have:=Cu mo (.inl z.n) (.ref r)
   lia
  .rw[Ep]
   by_cases y:(Sum.inl n:Dm)=.inl z.n
   .rw[eR y]
    injection y with y;exact[λ_=>[(l,z),gw.mpr (.inr (d_.mpr I)),y.symm],λ_ h=>by cases h]
   .rw[eQ y,bm]
    refine[λ⟨e,h1,h2⟩=>[e,gw.mpr (.inl h1),h2],λ⟨e,h1,h2⟩=>?_];rcases gw.mp h1 with h1|h1
    .exact[e,h1,h2]
    .rw[d_.mp h1]at h2
     exact fA (by rw[<- h2]) y
  .have:=Cu ma (.inl z.n) v
   lia
  .have:=Cu mp (.inr z.ev) (.ref q2)
   lia
  .rw[Ep]at X
   by_cases y:(Sum.inr B:Dm)=.inr z.ev
   .rw[eR y]at X
    cases X
    exact[q2,bh,I,.inr (.inr I),af _ a5,e8,by rw[a9];lia,bq]
   .rw[eQ y]at X
    let[p,km,e,x2,T,x4,x5,x6]:=av B v X;exact[p,km,e,.inl x2,T,a0 _ _ x4 (F p 2 T I) (F p 7 T I) (F p 9 T I) (F p 10 T I) (F p 11 T I) (F p 12 T I) (F p 13 T I) (ax _ _ x4),by rw[a9];lia,x6]
  .let[p,e,x2,T,x4,x5]:=m2 B v X
   exact[p,e,x2.imp id .inl,T,k8 _ _ x4 (F p 10 T I) (F p 11 T I),x5]
  .rw[<- Yu (.int z.ct) (IK λy=>by
    rw[ak]at y;let[e,h1,h2]:=g_.mp y;exact a4 e h1 h2)]
   exact k8 _ _ (k7 _ _ e4 (nd2 j.nd 13 12 Y I I) (O 13 I)) (nd2 j.nd 13 10 Y I I) (nd2 j.nd 13 11 Y I I)
 refine[_,I,R.r,Ah,dx,_,_,I,bo,M.aa.cl,M.cm,Ut R c,R.sk,I,.inl [_,.inl ag],_,I,l,_,_,_,I,I,Bh.of au,I,de _,λn hn=>[ms,.inr z.ev,(Aa hn _) _ _ ag,I,by rw[ck];lia,λv X=>?_,λX=>?_]]
 .let[p,rfl,x2,T,x4,x5]:=aj z.ev v X
  let F:∀i {a:J},R.own[i]?=g a->p≠a:=λi a h y=>T (by rw[y];exact Gd i h);let p4:=ad _ _ x4 (F 2 I) (F 7 I) (F 9 I) (F 13 I);let s5:=Aa hn (.lst []);generalize upd E n (.lst [])=H5 at s5;let h5:=s5 _ _ p4;let l5:=bb z.ev;refine[.inl [I,_,Am.of h5],_,I,p,_,_,I,I,h5,by rw[ck];lia,aq p ms _ _ (λb o e n1 n2=>Hg (s5 _ _ e) n2) T (j.al p x2).1 (.inr [x2,_,x4]) (Hg (s5 _ _ ag) (F 12 I).symm) Ab Z (λB L e he=>?_) λB v L=>?_]
  .rcases gw.mp he with h|h
   .exact am B L e h
   .rw[d_.mp h]
    intro y;rw[show z.ev=B from y,L]at X;cases X
  .by_cases y:z.ev=B
   .subst y
    rw[X]at L;cases L;exact[p,I,.inl x2,T,by rw[Mx,eR I];exact Ab,x5]
   .let[p',rfl,y2,d,y4,y5]:=aj B v L
    let bp:p'≠p:=λh=>y (y5 z.ev (by rw[h];exact X));refine[p',I,.inl y2,d,?_,y5];rw[Mx,eQ y,lq];exact Hg (s5 _ _ (ad _ _ y4 (λh=>d (by rw[h];exact Gd 2 I)) (λh=>d (by rw[h];exact Gd 7 I)) (λh=>d (by rw[h];exact Gd 9 I)) (λh=>d (by rw[h];exact Gd 13 I)))) bp
 .have s5:=Aa hn (.lst [])
  let e5:upd E n (.lst []) n=oL []:=Ab;let ba:n≠R.sk:=(Af ag hn).symm;generalize upd E n (.lst [])=H5 at s5 e5;let h6:upd H5 R.sk (.dK (Ck ms (.inr z.ev) (.ref n))) n=oL []:=Hg e5 ba;let k6:∀b o,E b=g o->b≠R.sk->upd H5 R.sk (.dK (Ck ms (.inr z.ev) (.ref n))) b=g o:=λb o e n1=>Hg (s5 _ _ e) n1;let e6:upd H5 R.sk (.dK (Ck ms (.inr z.ev) (.ref n))) R.sk=g (.dK (Ck ms (.inr z.ev) (.ref n))):=Ab;generalize upd H5 R.sk (.dK (Ck ms (.inr z.ev) (.ref n)))=H6 at h6 k6 e6;let b3:Ss s z.ev=[]:=by
   unfold Ss;rw[wX.mpr λe he=>by rw[lJ];exact am z.ev X e he];rfl
  refine[.inl [I,_,Am.of h6],_,I,n,_,_,I,I,h6,by rw[ck];decide,aq n _ _ _ (λb o e n1 n2=>Hg (k6 _ _ e n1) n2) (af _ hn) (λy=>?_) (.inl hn) (Hg e6 ba.symm) Ab ?_ (λB L e he=>?_) λB v L=>?_]
  .have h:=f4 _ hn
   rw[y,hT]at h;cases h
  .have:=Cu ms (.inr z.ev) (.ref n)
   lia
  .rw[Ep]at L
   by_cases y:(Sum.inr B:Dm)=.inr z.ev
   .rw[eR y]at L;cases L
   .rw[eQ y]at L
    rcases gw.mp he with h|h
    .exact am B L e h
    .rw[d_.mp h]
     exactλh=>y (by rw[<- h])
  .have aa:∀C,Cc ms (.inr C)≠g (.ref n):=λC h=>by
    let[p,e,_,_,x4,_]:=aj C _ h;cases e;rw[f4 _ hn]at x4;cases x4
   rw[Ep]at L;by_cases y:(Sum.inr B:Dm)=.inr z.ev
   .rw[eR y]at L
    cases L
    injection y with y;refine[n,I,.inr I,af _ hn,?_,λC h=>?_]
    .rw[Mx,y,eR I,b3]
     exact Ab
    .rw[Ep]at h
     by_cases y':(Sum.inr C:Dm)=.inr z.ev
     .injection y' with y'
      rw[y',y]
     .rw[eQ y']at h
      exact fA h (aa C)
   .rw[eQ y]at L
    let[p',rfl,y2,d,y4,y5]:=aj B v L;refine[p',I,.inl y2,d,?_,λC h=>?_]
    .rw[Mx,eQ (λh=>y (by rw[h])),lq]
     exact Hg (k6 _ _ (ad _ _ y4 (λh=>d (by rw[h];exact Gd 2 I)) (λh=>d (by rw[h];exact Gd 7 I)) (λh=>d (by rw[h];exact Gd 9 I)) (λh=>d (by rw[h];exact Gd 13 I))) (λh=>d (by rw[h];exact Gd 12 I))) (λh=>aa B (by rw[<- h];exact L))
    .rw[Ep]at h
     by_cases y':(Sum.inr C:Dm)=.inr z.ev
     .rw[eR y']at h
      cases h
      exact fA L (aa B)
     .rw[eQ y']at h
      exact y5 C h
end
end CRL
namespace CRL
open PySem L2
def Ya(B:List (Int×Int))(n:Int):Int:=((B.find? λq=>decide (q.1=n)).map (·.2)).getD 0
def Wx(q:Int×Int)(B:List (Int×Int))(n:Int):Ya (q::B) n=if q.1=n then q.2 else Ya B n:=by
 unfold Ya;by_cases h:q.1=n
 .simp[r_,h]
 .simp[r_,h]
abbrev SI(B:List (Int×Int)):List (Dm×V):=B.map λq=>((.inl q.1:Dm),V.int q.2)
theorem Sd{n:Int}:∀{B},n∈B.map (·.1)->Cc (SI B) (.inl n)=g (.int (Ya B n))
 |[],h=>nomatch h
 |q::B,h=>by
  rw[Wx];by_cases y:q.1=n
  .rw[eR y]
   exact Ek (p:=((.inl q.1:Dm),V.int q.2)) (by rw[y])
  .rw[eQ y]
   rcases cr.mp h with h|h
   .exact fA h.symm y
   .exact(El (p:=((.inl q.1:Dm),V.int q.2)) (λz=>y (rS z))).trans (Sd h)
def Yc(B:List (Int×Int))(n v:Int):List (Int×Int):=B.map λq=>if q.1=n then(q.1,v) else q
def Z6(B:List (Int×Int))(n v:Int):(Yc B n v).map (·.1)=B.map (·.1):=by
 unfold Yc;rw[rb];refine uK λq x=>?_;show(if q.1=n then(q.1,v) else q).1=q.1
 split<;>rfl
def GN{n:Int}(v:Int)(h:n∈b.map (·.1)):Ck (SI b) (.inl n) (.int v)=SI (Yc b n v):=by
 let a:((SI b).any λj=>decide (j.1=(.inl n:Dm)))=eP:=by
  rw[Hh,Sd h];rfl
 unfold Ck;rw[eR a];unfold SI Yc;rw[rb,rb];refine uK λq x=>?_;show(if (Sum.inl q.1:Dm)=.inl n then((.inl q.1:Dm),V.int v) else(.inl q.1,.int q.2))=((.inl (if q.1=n then(q.1,v) else q).1:Dm),V.int (if q.1=n then(q.1,v) else q).2);by_cases y:q.1=n
 .rw[eR y,eR (by rw[y])]
 .rw[eQ y,eQ (λz=>y (rS z))]
def Mz(B:List (Int×Int))(ps:List Tr):List (Int×Int):=ps.foldl (λB t=>Yc B t.1 t.2.1) B
def Z9(B:List (Int×Int))(ps:List Tr)(t:Tr):Mz B (ps++#[t])=Yc (Mz B ps) t.1 t.2.1:=by
 unfold Mz;rw[vT];rfl
theorem Ip:∀(ps:List Tr) (B:List (Int×Int)),(Mz B ps).map (·.1)=B.map (·.1)
 |[],_=>rfl
 |t::ps,B=>(Ip ps (Yc B t.1 t.2.1)).trans (Z6 _ _ _)
theorem Qv{t:Tr}:∀{r} {c:Int},t∈(Du r c).1->∃p∈r,p.1=t.1
 |[],_,h=>nomatch h
 |p::r,c,h=>by
  rw[Lq]at h;by_cases y:0<(if c<p.2 then c else p.2)
  .rw[eR y]at h
   rcases cr.mp h with h|h
   .exact[p,fk,by rw[h]]
   .let[j,B,F]:=Qv h
    exact[j,e_ _ B,F]
  .rw[eQ y]at h
   let[j,B,F]:=Qv h;exact[j,e_ _ B,F]
abbrev Xx(C:List (J×LF))(H:List (Int×Int))(B:eU):List CR.Rn:=(C.filter λe=>decide (e.2.ev=B)).map λe=>(e.2.n,Ya H e.2.n)
inductive TZ(CG CN CD T:J)(vs:List V)(H:Hp)(Q:VK)(E:XK):Prop
 |mk (R:Lg) (D:J->Prop) (c:Option Int) (es:List Wl) (ns os:List Int) (zs:List (J×LF)) (lf:List (Int×Int)) (fs:List Int) (l:J) (z:BF) (z0:vs=#[.ref R.r,.ref l]) (z1:Cp CG CN CD T D H R c es ns os zs lf fs) (z6:H l=oT z.vs) (z9:zs.length<=10) (z10:fs.length<=10)
  (zq:∀H',(∀b o,H b=g o->¬D b->H' b=g o)->Cp CG CN CD T D H' R c es ns os zs (Mz lf (Du (Xx zs lf z.ev).reverse z.ct).1) (fs++#[z.n])->Q .non H')
section
seal L2.PS L2.PSs L2.PE L2.PA
variable {P:eY} {w:fF} {K:a'} {mg:eU->Option eJ} {base:fK}
def N7(B:Pm P w K mg base):Jm B 3 Ah "take_back" #["self","row"] (TZ Ah Aw Bc TT):=BR B.z B.j2 B.aa.cl #["self","row","stack","finding","number","lo","hi"] df λsc H Q hr h=>by
 let X:=Gq hr;let[R,D,c,es,ns,os,zs,M,fs,l,z,rfl,L,hl,lz,d2,q]:=h;refine[_,(Ac (Ht (NC:=#["number","self"]) (own:=#["number"]) (cs:=#["self"]) (ix:=#[0]) (j:=2) sc.nd I I I (Au.of I) I [[I,.inl I,I],trivial] (Jz K (Mo X (Bd (pv 0) I) (Ej K (pv 1) (Lb B.z B.cb)) (Bu Eg) [I,I,I,I])) (λ_ _ _=>(Oh 0)) (λ_ _ _=>Ez) (λ_ _ _=>(Bl (Ca (pv 0) (Jr X (Jt (K:=K) (pv 1) I) (pv 0) (λ_ _=>I))))))
   (Ac (Dp sc 3 (Do (D7 B) hr (Ca (pv 2) (Ej K (pv 1) (Lb B.z B.i9)))))
   (Ac (Cj fH I (Jz K (Ej K (pv 3) Ae)) (Eb (K:=K) (n:=3) I I (Bf (Gi sc 4) (Bf (Gi sc 5) (Bf (Gi sc 6) Ds))))
    (Ad (Fs X (Bd (pv 0) I) (pv 4) (pv 5) I)))
   (Ac (Fs X (Bd (pv 0) I) (Ej K (pv 1) (Lb B.z B.cq)) (pv 1) I)
   (Ad (Fs X (Bd (pv 0) I) (Ej K (pv 1) (Lb B.z B.cq)) (pv 3) I)))))),?_]
 refine Fc λN F=>?_;let[dx,d]:=L.hr;let[ms,hs,ls,b7,c9]:=L.sk;let[S,A]:=L.lf;let[mb,hb,lb]:=L.br;let[mf,hf,d1,b5]:=L.fi;let d3:M.length=zs.length:=by
  let:=gF mL A;rw[cn,cn]at this;exact this
 refine[_,I,R.r,Ah,dx,_,_,I,d,B.aa.cl,B.cm,Ut R c,R.sk,I,.inl [_,.inl hs],_,I,l,_,_,_,I,I,Bh.of hl,I,de _,λn hn=>[_,cD.k (k:=.inr z.ev) ((Aa hn _) _ _ hs),?_]];let s1:=Aa hn (.lst []);let e1:upd H n (.lst []) n=oL []:=Ab;generalize upd H n (.lst [])=H1 at s1 e1;obtain⟨sp,b1,c4⟩:∃p,(Cc ms (.inr z.ev)).getD (.ref n)=.ref p/\H1 p=oL (Ss zs z.ev):=by
  cases e:Cc ms (.inr z.ev)with
  |none=>
   refine[n,I,?_];let c3:Ss zs z.ev=[]:=by
    unfold Ss;rw[wX.mpr λx hx=>by rw[lJ];exact b7 z.ev e x hx];rfl
   rw[c3];exact e1
  |some v=>
   let[p,rfl,_,_,x4,_]:=c9 z.ev v e;exact[p,I,s1 _ _ x4]
 rw[b1];let a4:(zs.filter λe=>decide (e.2.ev=z.ev)).length<=10:=fO (ni _ _) lz;let W:∀e∈zs.filter λe=>decide (e.2.ev=z.ev),e.2.n∈M.map (·.1):=λe he=>by
  rw[A];exact g_.mpr [e,(nw.mp he).1,I]
 generalize ew:(zs.filter λe=>decide (e.2.ev=z.ev))=f at a4 W;let s:H1 sp=oL (f.map λe=>V.int e.2.n):=by rw[<- ew];exact c4
 refine[sp,I,[_,Am.of s],λp hp=>?_];let c5:=s1 _ _ d;let d4:=s1 _ _ hl;let b0:=s1 _ _ S;refine Cz (K:=K) (a:=sp) (xs:=f.map λe=>V.int e.2.n) (λi ys H2=>cP H2 ys ((f.take i).map λe=>(e.2.n,Ya M e.2.n))/\H2 p=oL ys/\Ag H1 H2) [trivial,Ab,Aa hp _]
  (λi ys H2 _ ⟨pr,h1,s2⟩=>[h1,by let:=pr.len;rw[this,cn,hQ];lia,Am.of (s2 _ _ s)]) (by rw[ck,cn];lia) (λi x ys H2 hi ⟨pr,h1,s2⟩=>?_) (λys H2 ⟨pr,h1,s2⟩=>?_)
 .rw[jk]at hi
  let[e,he,rfl]:=pe.mp hi;let C:=cD.k (k:=.inl e.2.n) (s2 _ _ b0);rw[Sd (W e (kS he))]at C;refine[_,I,_,I,R.r,Ah,dx,_,_,I,s2 _ _ c5,B.aa.cl,B.ao,Lj R c,_,I,R.lf,_,I,C,Ax (by show 2<=1000;decide),λu hu=>[?_,I,?_,Ab,λb o y=>?_]]
  .exact(Aa hu _) _ _ h1
  .rw[Cd he,iN]
   exact((pr.mono (Bn (Aa hu _))).snoc (a:=e.2.n) (b:=Ya M e.2.n) Ab).mono (Ec ((Aa hu _) _ _ h1) _)
  .rw[Aj (Af y hp)]
   exact(Aa hu _) _ _ (s2 b o y)
 rw[cn,j']at pr;refine Gj F #[oR R.r,oR l,oR p,U,U,U,U] rfl λN F=>?_;let a3:=s1.trans s2;let c2:=a3 _ _ hl;refine[_,I,_,I,l,_,_,_,I,I,Bh.of c2,I,p,_,z.ct,I,[ys,h1,pr],by rw[cn];lia,λf0 l0 b9 H3 s3 nf nl c7 a9 a0=>?_];refine Gj F #[oR R.r,oR l,oR p,oR f0,U,U,U] rfl λN F=>?_;let a1:=a3.trans s3;let r:=a1 _ _ S;let b8:(Du (f.map λe=>(e.2.n,Ya M e.2.n)).reverse z.ct).1.length<=10:=by
  let:=Zd (f.map λe=>(e.2.n,Ya M e.2.n)).reverse z.ct;rw[nD,cn]at this
  lia
 let a6:∀t∈(Du (f.map λe=>(e.2.n,Ya M e.2.n)).reverse z.ct).1,t.1∈M.map (·.1):=λt ht=>by
  let[p',h1,h2]:=Qv ht;let[e,he,rfl]:=g_.mp (List.mem_reverse.mp h1);rw[<- h2];exact W e he
 let c1:(Du (Xx zs M z.ev).reverse z.ct).1=(Du (f.map λe=>(e.2.n,Ya M e.2.n)).reverse z.ct).1:=by rw[<- ew]
 rw[c1]at q;generalize (Du (f.map λe=>(e.2.n,Ya M e.2.n)).reverse z.ct).1=ps at a0 b8 a6 q;let c8:l0≠R.lf:=(Af (a3 _ _ S) nl).symm;refine[_,I,f0,_,_,_,I,I,Bh.of c7,I,l0,I,[_,Am.of a9],?_];let lx:=a0.len;refine Ei (K:=K) (a:=l0) (xs:=b9) (λi σ E=>(∃o1 o2 o3,σ=#[oR R.r,oR l,oR p,oR f0,o1,o2,o3])/\E R.lf=g (.dK (SI (Mz M (ps.take i))))/\(∀b o,H3 b=g o->b≠R.lf->E b=g o))
  [[U,U,U,I],r,λ_ _ e _=>e] (λi σ E _ hh=>Am.of (hh.2.2 _ _ a9 c8)) ?_ ?_
 .rintro i y σ E hi ⟨⟨o1,o2,o3,rfl⟩,O,k4⟩ N9 b3
  let[t,u,hu,rfl,ht]:=a0.get hi;let d0:u.1∈(Mz M (ps.take i)).map (·.1):=by
   rw[Ip];exact a6 u (kS hu)
  refine[t,_,I,Bh.of (k4 _ _ ht (Br ht r (by intro y;cases y))),I,_,_,I,_,_,I,_,_,I,I,?_];refine[_,I,_,I,R.r,Ah,dx,_,_,I,k4 _ _ (a1 _ _ d) (nd2 L.nd 0 13 Y I I),B.aa.cl,B.ao,Lj R c,_,I,R.lf,_,I,cM.k (k:=.inl u.1) O (by rw[ck];let:=gF mL (Ip (ps.take i) M);simp only[cn]at this⊢;lia),b3 _ _ [[_,_,_,I],?_,λb o e n=>Hg (k4 _ _ e n) n]];rw[Cd hu,Z9];let z9:=GN u.2.1 d0;rw[z9];exact Ab
 .rintro σ E ⟨⟨o1,o2,o3,rfl⟩,O,k4⟩
  rw[lx,j']at O;let T:∀b o,H b=g o->b≠R.lf->E b=g o:=λb o e n=>k4 _ _ (a1 _ _ e) n;let a2:=T _ _ hl (Br hl S (by intro y;cases y));let a7:=T _ _ d (nd2 L.nd 0 13 Y I I);let a8:=T _ _ hb (nd2 L.nd 8 13 Y I I)
  first|refine Iu F λN F=>?_|subst F
  refine[_,I,_,I,R.r,Ah,dx,_,_,I,a7,B.aa.cl,B.dk,Wy R c,_,I,l,_,_,_,I,I,Bh.of a2,I,R.br,_,I,cM.k (k:=.inl z.n) a8 (by rw[ck];lia),?_];let k5:∀b o,E b=g o->b≠R.br->upd E R.br (.dK (Ck mb (.inl z.n) (.ref l))) b=g o:=λb o e n=>Hg e n;let e5:upd E R.br (.dK (Ck mb (.inl z.n) (.ref l))) R.br=g (.dK (Ck mb (.inl z.n) (.ref l))):=Ab;generalize upd E R.br (.dK (Ck mb (.inl z.n) (.ref l)))=H5 at k5 e5;let c6:=k5 _ _ (T _ _ hf (nd2 L.nd 14 13 Y I I)) (nd2 L.nd 14 8 Y I I)
  first|refine Iu F λN F=>?_|subst F
  refine[_,I,_,I,R.r,Ah,dx,_,_,I,k5 _ _ a7 (nd2 L.nd 0 8 Y I I),B.aa.cl,B.bj,Kl R c,_,I,l,_,_,_,I,I,Bh.of (k5 _ _ a2 (Br a2 a8 (by intro y;cases y))),I,R.fi,_,I,cM.k (k:=.inl z.n) c6 (by rw[ck];lia),?_];let k6:∀b o,H5 b=g o->b≠R.fi->upd H5 R.fi (.dK (Ck mf (.inl z.n) (.ref f0))) b=g o:=λb o e n=>Hg e n;let e6:upd H5 R.fi (.dK (Ck mf (.inl z.n) (.ref f0))) R.fi=g (.dK (Ck mf (.inl z.n) (.ref f0))):=Ab;generalize upd H5 R.fi (.dK (Ck mf (.inl z.n) (.ref f0)))=H6 at k6 e6;let a5:∀b o,H b=g o->b≠R.lf->b≠R.br->b≠R.fi->H6 b=g o:=λb o e n1 n2 n3=>k6 _ _ (k5 _ _ (T _ _ e n1) n2) n3;let b2:=k6 _ _ (k5 _ _ O (nd2 L.nd 13 8 Y I I)) (nd2 L.nd 13 14 Y I I);let c0:=k6 _ _ e5 (nd2 L.nd 8 14 Y I I);refine q H6 (λb o e n=>a5 _ _ e (λy=>n (y▸L.own _ (Gd 13 I))) (λy=>n (y▸L.own _ (Gd 8 I))) (λy=>n (y▸L.own _ (Gd 14 I)))) (L.back a5 [b2,by rw[Ip,A]] c0 ?_ e6 ?_ λm=>?_)
  .have:=Cu mb (.inl z.n) (.ref l)
   lia
  .have:=Cu mf (.inl z.n) (.ref f0)
   lia
  .rw[Ep]
   by_cases y:(Sum.inl m:Dm)=.inl z.n
   .rw[eR y]
    injection y with y;exact[λ_=>gw.mpr (.inr (by rw[y];exact d_.mpr I)),λ_ q=>by cases q]
   .rw[eQ y,b5]
    refine[λq=>gw.mpr (.inl q),λq=>?_];rcases gw.mp q with q|q
    .exact q
    .exact fA (by rw[d_.mp q]) y
end
def MI(e:dM):Prop:=(∃z:LF,e=Py z/\0<z.ct)\/∃z:BF,e=SG z.n z.d z.ev z.ct
abbrev MN:=List (J×LF)×List (Int×Int)×List Int
def eF(e:Wl)(s s':MN):Prop:=(∃z:LF,e.2=Py z/\s'=(s.1++#[(e.1,z)],s.2.1++#[(z.n,z.ct)],s.2.2))\/∃z:BF,e.2=SG z.n z.d z.ev z.ct/\s'=(s.1,Mz s.2.1 (Du (Xx s.1 s.2.1 z.ev).reverse z.ct).1,s.2.2++#[z.n])
def dS:List Wl->MN->MN->Prop
 |[],s,B=>B=s
 |e::H,s,B=>∃C,eF e s C/\dS H C B
theorem dS.snoc{e:Wl}(C:eF e c b):∀{es} {s},dS es s c->dS (es++#[e]) s b
 |[],s,h=>[b,by rw[<- show c=s from h];exact C,I]
 |_::es,s,[H,B,h]=>[H,B,dS.snoc C h]
def eF.len{e:Wl}{s s':MN}(h:eF e s s'):s'.1.length<=s.1.length+1/\s'.2.2.length<=s.2.2.length+1:=by
 rcases h with ⟨z,_,rfl⟩|⟨z,_,rfl⟩
 .exact[by rw[fy];exact b' _,nh _]
 .exact[nh _,by rw[fy];exact b' _]
theorem dS.len:∀{es} {s s'},dS es s s'->s'.1.length<=s.1.length+es.length/\s'.2.2.length<=s.2.2.length+es.length
 |[],s,s',h=>by rw[show s'=s from h];exact[b' _,b' _]
 |e::es,s,s',[j,B,h]=>by
  let a:=eF.len B;let b:=dS.len h;rw[c_]
  lia
theorem dS.mem:∀{es} {s s'},dS es s s'->∀x∈s'.1,x∈s.1\/∃e∈es,e.2.n=x.2.n
 |[],s,s',h,x,j=>by rw[show s'=s from h]at j;exact .inl j
 |e::es,s,s',[B,C,h],x,j=>by
  rcases dS.mem h x j with y|⟨L,H,S⟩
  .rcases C with ⟨z,F,rfl⟩|⟨z,F,rfl⟩
   .rcases gw.mp y with y|y
    .exact .inl y
    .refine .inr [e,fk,?_]
     rw[d_.mp y,F];rfl
   .exact .inl y
  .exact .inr [L,e_ _ H,S]
inductive cX(K:a')(CE:J)(κ:A8)(CC CO CL CM C CB CG CN CD T:J)(vs:List V)(H:Hp)(Q:VK)(E:XK):Prop
 |bad (R:Lg) (D:J->Prop) (c:Option Int) (es:List Wl) (ns os:List Int) (zs:List (J×LF)) (lf:List (Int×Int)) (fs:List Int) (v:V) (Tv:String) (z0:vs=#[.ref R.r,v]) (z1:Cp CG CN CD T D H R c es ns os zs lf fs) (zt:TyOf K H v (.type Tv)) (zb:Hr 1000000 v=eM) (ze:E (.ref CE) U H)
 |mk (R:Lg) (D:J->Prop) (c:Option Int) (es:List Wl) (ns os:List Int) (zs:List (J×LF)) (lf:List (Int×Int)) (fs:List Int) (v:V) (Tv:String) (bs:List Nt) (cs:List (J×eU)) (z0:vs=#[.ref R.r,v]) (z1:Cp CG CN CD T D H R c es ns os zs lf fs) (zt:TyOf K H v (.type Tv)) (z2:Pr κ CC CO CL CM C CB (cC D T H) R.b bs) (z3:eA C CB (cC D T H) R.b cs) (z4:cs.length<=8) (z5:NS bs)
  (z6:zs.length+es.length<=9) (z7:fs.length+es.length<=10) (zo:os.length<=100) (z8:(zs.map (·.2.n)++es.map (·.2.n)).Nodup) (z9:∀e∈es,MI e.2) (z10:LamAt T Ia Lm H) (ze:Hr 1000000 v=eM->E (.ref CE) U H)
  (zn:∀day:Int,v=.int day->0<=day->day<=1000000->aK c day=eM->∀a H',Ag H H'->H a=U->H' a=oL []->Q (.ref a) H')
  (zq:∀day:Int,v=.int day->0<=day->day<=1000000->IN c day->∀(a:J) (R':Lg) (D':J->Prop) (es':List Wl) (s':MN) (H':Hp),R'.r=R.r->R'.b=R.b->(∀b o,H b=g o->¬D b->b≠T->H' b=g o)->(∀b,D' b->D b\/H b=U)->LamAt T Ia Lm H'->es'.Perm (es.filter λe=>decide (e.2.d<=day))->es'.Pairwise (YF ID)->dS es' (zs,lf,fs) s' ->
   Cp CG CN CD T D' H' R' (g day) (es.filter λe=>decide (day<e.2.d)) ns (os++es'.map (·.2.n)) s'.1 s'.2.1 s'.2.2->H a=U->¬D' a->H' a=oL (es'.map λe=>V.int e.2.n)->Q (.ref a) H')
def QA(R:Lg)(c:Option Int):(Ly R c).lookup ("settle_loss" : eU)=U:=rfl
def NQ(R:Lg)(c:Option Int):(Ly R c).lookup ("take_back" : eU)=U:=rfl
section
seal L2.PS L2.PSs L2.PE L2.PA
variable {P:eY} {w:fF} {K:a'} {mg:eU->Option eJ} {base:fK}
def Qa:Bg #["self","day","numbers","due"] #["self","day"] (Ao Hl):=by injections
def Ir(M:Pm P w K mg base){f:J}(F:cF K "close" "Ledger.close" Hl f fd) :
  Bp P w K mg base (Tg P w) 10 f fd #["self","day"] (cX K Bi (A8.mk Ba) Al Al An An Aq Cr Ah Aw Bc TT):=by
 let sc:=Qa;refine F.okX sc (λvs H Q E h=>?_) (λc2 A c1 s H vs Q E hr h=>?_)
 .rcases h with ⟨_,_,_,_,_,_,_,_,_,_,_,rfl,_⟩|⟨_,_,_,_,_,_,_,_,_,_,_,_,_,rfl,_⟩<;>rfl
 let cd:=Gq hr;refine[_,(Ac (Bj (Bt (Bm (Df (Wn M) (hr.mono Y) Ce I (Ca (Bd (pv 0) I) (pv 1)))))
    (Ad (Ar (Bu Eg)))
    At)
   (Ac (Cq (pv 0) (pv 1) I)
   (Ac (Dp sc 2 (Bu Eg))
   (Ac (Cj mU I (Jz K (Cn (OG M) (hr.mono Y) (Bd (pv 0) I) (Bz (pv 1)))) (Gi sc 3)
    (Ac (Bj (Ay Fe (Ej K (pv 3) Ae) (Lb M.z M.fm) (Be _))
    (Ad (Bk (Cn (Ym M) (hr.mono Y) (pv 0) (Bz (Ej K (pv 3) Ae)))))
    (Ad (Bk (Cn (N7 M) (hr.mono Y) (pv 0) (Bz (Ej K (pv 3) Ae))))))
   (Ad (Bk (Ed (K:=K) I fG gA fZ Dq (pv 2) (Bz (Ej K (pv 3) Ae)))))))
   (Ac (Bk (Ed (K:=K) I fG gX gW Io (Bd (pv 0) I) (Bz (pv 2))))
   (Ad (Ar (pv 2)))))))),?_]
 rcases h with ⟨R,D,c,es,ns,os,zs,lf,fs,v,Tv,rfl,RA,tv,eb,qe⟩|⟨R,D,c,es,ns,os,zs,lf,fs,v,Tv,bs,cs,rfl,RA,tv,bv,cv,lc,bk,lz,cc,ca,nd,bh,bz,qe,q0,q⟩
 .let[dx,ac]:=RA.hr
  refine[_,I,R.r,Ah,dx,_,_,I,ac,M.aa.cl,M.ah,Iq R c,_,I,c,v,Tv,I,tv,λT ev d0 d1=>?_,λ_=>qe];subst ev;rw[show Hr 1000000 (.int T)=eP from eT [d0,d1]]at eb;cases eb
 refine Fc λN m=>?_;let[dx,ac]:=RA.hr;refine[_,I,R.r,Ah,dx,_,_,I,ac,M.aa.cl,M.ah,Iq R c,_,I,c,v,Tv,I,tv,λT ev d0 d1=>?_,qe];subst ev;cases eo:aK c T with
 |false=>exact[_,I,En [de _,λa na=>q0 T I d0 d1 eo a _ (Aa na _) na Ab]]
 |true=>
 let af:IN c T:=λd e=>by
  subst e;exact fE eo
 let q:=q T I d0 d1 af;refine[_,I,Cg ?_]
 first|refine Iu m λN m=>?_|subst m
 refine[_,I,_,I,R.r,Ah,dx,_,I,ac,M.aa.cl,M.ah,by show 13<1000;decide,?_];rw[RH];let k1:∀b o,H b=g o->b≠R.r->upd H R.r (.ins Ah dx (Ly R (g T))) b=g o:=λb o e n=>Hg e n;let l:=RA.shut (d:=T) k1 Ab;let am:LamAt TT Ia Lm (upd H R.r (.ins Ah dx (Ly R (g T)))):=bz.ins ac _;let f1:∀x,upd H R.r (.ins Ah dx (Ly R (g T))) x=U->H x=U:=λx hx=>by
  by_cases y:x=R.r
  .rw[y,Ab]at hx;cases hx
  .rw[Aj y]at hx;exact hx
 generalize upd H R.r (.ins Ah dx (Ly R (g T)))=H1 at l k1 am f1
 first|refine Iu m λN m=>?_|subst m
 refine[de _,λp aj=>?_];refine Gj m #[oR R.r,oN T,oR p,U] rfl λN m=>?_;let sp:=Aa aj (.lst []);let bg:=f1 _ aj;let ep:upd H1 p (.lst []) p=oL []:=Ab;generalize upd H1 p (.lst [])=H2 at sp ep;replace l:=l.same sp;let an:=am.same sp;let[bn,bw]:=l.hr;let[bc,bq,bj]:=l.wt;let[d3,az]:=id l.dy;refine[_,I,R.r,Ah,bn,_,_,I,bw,M.aa.cl,M.aw,Nl R _,R.dy,d3,_,I,az,ZJ _ _,_,I,R.dy,R.wl,R.nl,bc,es,T,I,l.dy,bq,bj,Z,an,λwl r ys us W H3 k2 bp fw ay bo bu br a9 a7 pm pw al=>?_];obtain⟨b8,au⟩:∃ps,H2 TT=g (.tbl ps):=by
  rcases an with z|⟨_,z,_⟩
  .exact[_,z]
  .exact[_,z]
 obtain⟨b5,ba⟩:∃ps,H3 TT=g (.tbl ps):=by
  rcases al with z|⟨_,z,_⟩
  .exact[_,z]
  .exact[_,z]
 let l':W.length<=es.length:=by rw[pm.length_eq];exact ni _ _
 let c0:∀e∈W,e∈es:=λe k=>(nw.mp (pm.mem_iff.mp k)).1;let RD:=l.up k2 [_,au] bp fw bu br (λe k=>(nw.mp k).1);let dr:=RA.own R.r (Gd 0 I);let dd:=RA.own R.dy (Gd 3 I);let ap:∀a,D a->H1 a≠U:=λa ha y=>by
  let[_,o,e,_]:=RA.al a ha;rw[f1 a y]at e;cases e
 let av:¬D p:=λy=>ap p y aj;let a8:p≠wl:=Af ep fw;let a4:p≠TT:=Br ep au (by intro y;cases y);let ae:H3 p=oL []:=k2 _ _ ep a4 (λy=>av (y▸dd));let a5:H1 wl=U:=by
  cases y:H1 wl with
  |none=>rfl
  |some o=>rw[sp _ _ y]at fw;cases fw
 let aa:∀b o,H b=g o->¬D b->b≠TT->H3 b=g o/\¬(D b\/b=wl)/\b≠p:=λb o e n1 n2=>by
  let e1:=k1 _ _ e (λy=>n1 (y▸dr));refine[k2 _ _ (sp _ _ e1) n2 (λy=>n1 (y▸dd)),λy=>?_,Af e1 aj];rcases y with y|y
  .exact n1 y
  .exact Af e1 a5 y
 let ar:∀e∈W,H3 e.1=oT e.2.vs:=λe k=>k2 _ _ (l.el e (c0 e k)) (Br (l.el e (c0 e k)) au (by intro y;cases y)) (Br (l.el e (c0 e k)) az (by intro y;cases y));let bt:¬(D TT\/TT=wl):=λy=>(RD.al _ y).1 I;let ad:∀b ws,H3 b=oT ws->¬(D b\/b=wl)/\b≠p:=λb ws e=>[λy=>by
  let[_,o,e1,n]:=RD.al _ y;rw[e]at e1;cases e1;exact n,Br e ae (by intro y;cases y)]
 let bb:=a7.len;let b1:¬(D r\/r=wl):=λy=>by
  rcases y with y|y
  .let[_,o,e,_]:=l.al r y
   rw[ay]at e;cases e
  .exact bo y.symm
 let bi:r≠p:=(Af ep ay).symm;refine[r,I,[_,Am.of a9],?_];refine Ei (K:=K) (a:=r) (xs:=us) (λi σ L=>(∃o,σ=#[oR R.r,oN T,oR p,o])/\∃(j:J->Prop) (S:MN),Cp Ah Aw Bc TT j L { R with wl:=wl } (g T) (es.filter λe=>decide (T<e.2.d)) ns os S.1 S.2.1 S.2.2/\dS (W.take i) (zs,lf,fs) S/\(∀a,j a->(D a\/a=wl)\/H3 a=U)/\(∀a,(D a\/a=wl)->j a)/\(∀b o,H3 b=g o->¬(D b\/b=wl)->b≠p->L b=g o)/\L p=oL ((W.take i).map λe=>V.int e.2.n))
  [[U,I],_,(zs,lf,fs),RD,I,λa h=>.inl h,λa h=>h,λ_ _ e _ _=>e,ae] (λi σ L _ hh=>by
   let[_,j,S,_,_,_,_,k4,_]:=hh;exact Am.of (k4 _ _ a9 b1 bi)) ?_ ?_
 .rintro i y σ L hi ⟨⟨o,rfl⟩,j,S,RE,ab,g4,j4,k4,O⟩ N9 bl
  let[t,e,k,rfl,ht]:=a7.get hi;let me:=kS k;let ah:=k4 _ _ ht (ad _ _ ht).1 (ad _ _ ht).2;let ai:=k4 _ _ (ar e me) (ad _ _ (ar e me)).1 (ad _ _ (ar e me)).2;let[B,as]:=RE.hr;let C:L R.r=oI Ah B (Ly { R with wl:=wl } (g T)):=as;let cb:=ab.len;let lt:(W.take i).length<=es.length:=by rw[hQ];lia
  let b9:i<W.length:=(hI.mp k).1;let b7:(W.take i).length=i:=by rw[hQ];lia
  let b3:∀b o,H b=g o->¬D b->b≠TT->L b=g o:=λb o h1 h2 h3=>k4 _ _ (aa b o h1 h2 h3).1 (aa b o h1 h2 h3).2.1 (aa b o h1 h2 h3).2.2;let ak:∀b o,H3 b=g o->¬(D b\/b=wl)->¬j b:=λb o h n y=>by
   rcases g4 b y with z|z
   .exact n z
   .rw[h]at z;cases z
  let a0:Ag (cC D TT H) (cC j TT L):=λb o h=>by
   let[h1,h2,h3]:=cC.at h;let[a1,a2,a3]:=aa b o h3 h1 h2;exact cC.of (ak b o a1 a2) h2 (k4 _ _ a1 a2 a3)
  let ag:¬j p:=ak p _ ae (λy=>y.elim av a8);refine Lf #[oR R.r,oN T,oR p,oR t] rfl (Fc λN8 e8=>?_);let ax:∀(D5:J->Prop) (s5:MN) (H5:Hp),(∀b o,L b=g o->¬j b->H5 b=g o)->(∀b,D5 b->j b\/L b=U)->(∀b,j b->D5 b)->eF e S s5->Cp Ah Aw Bc TT D5 H5 { R with wl:=wl } (g T) (es.filter λe=>decide (T<e.2.d)) ns os s5.1 s5.2.1 s5.2.2->N8 #[oR R.r,oN T,oR p,oR t] H5:=λD5 s5 H5 X g5 j5 hd RF=>by
   subst e8;let ao:=X _ _ O ag;let bx:=X _ _ ah (ak _ _ ht (ad _ _ ht).1);let be:¬D5 p:=λy=>by
    rcases g5 p y with z|z
    .exact ag z
    .rw[O]at z;cases z
   refine[_,I,.inl [I,_,Am.of ao],_,I,t,_,_,_,I,I,Bh.of bx,I,p,_,_,I,I,ao,by rw[ck,cn];lia,bl _ _ [[_,I],D5,s5,RF.keep λb o h d=>Hg h (λy=>?_),?_,λa ha=>?_,λa ha=>j5 a (j4 a ha),λb o h n1 n2=>Hg (X _ _ (k4 _ _ h n1 n2) (ak _ _ h n1)) n2,?_]]
   .subst y
    rcases d with d|⟨xs,rfl⟩
    .exact be d
    .rw[ao]at h;cases h
   .rw[Cd k]
    exact ab.snoc hd
   .rcases g5 a ha with z|z
    .exact g4 a z
    .refine .inr ?_
     cases u:H3 a with
     |none=>rfl
     |some o=>
      by_cases y1:D a\/a=wl
      .let[_,o',e',_]:=RE.al a (j4 a y1)
       rw[z]at e';cases e'
      by_cases y2:a=p
      .rw[y2,O]at z;cases z
      rw[k4 _ _ u y1 y2]at z;cases z
   .rw[Cd k,iN]
    exact Ab
  refine[_,I,t,_,_,_,I,I,Bh.of ah,I,I,_,I,?_];rcases bh e (c0 e me)with ⟨z,ez,zc⟩|⟨z,ez⟩
  .refine dT (by rw[ez];rfl) ?_
   let aw:L e.1=oT z.vs:=by rw[ez]at ai;exact ai
   let b0:∀x∈S.1,x.2.n≠z.n:=λx hx ex=>by
    let en:e.2.n=z.n:=by rw[ez];rfl
    let aq:(zs.map (·.2.n)++W.map (·.2.n)).Nodup:=by
     let q1:(zs.map (·.2.n)++(es.filter λe=>decide (e.2.d<=T)).map (·.2.n)).Nodup:=rJ (List.Sublist.append (List.Sublist.refl _) (List.filter_sublist.map _)) nd;exact((pm.map (·.2.n)).append_left _).nodup_iff.mpr q1
    rw[wS]at aq;rcases ab.mem x hx with y|⟨e',h1,h2⟩
    .exact aq.2.2 _ (g_.mpr [x,y,I]) _ (g_.mpr [e,me,I]) (ex.trans en.symm)
    .have q2:((W.take (i+1)).map (·.2.n)).Nodup:=rJ ((oM _ _).map _) aq.2.1
     rw[Cd k,iN,wS]at q2;exact q2.2.2 _ (g_.mpr [e',h1,I]) _ (d_.mpr I) (h2.trans (ex.trans en.symm))
   refine[_,I,R.r,B,_,I,C,QA _ _,_,I,t,_,_,_,I,I,Bh.of ah,I,{ R with wl:=wl },j,g T,_,ns,os,S.1,S.2.1,S.2.2,e.1,z,bs,cs,rfl,RE,Tf bv a0,cv.same a0,lc,bk,aw,zc,b0,Z,[_,k4 _ _ ba bt a4.symm],λD5 H5 X g5 j5 RF=>?_];exact ax D5 _ H5 X g5 j5 (.inl [z,ez,I]) RF
  .refine dF (by rw[ez];intro y;cases y) ?_
   let aw:L e.1=oT z.vs:=by rw[ez]at ai;exact ai
   refine[_,I,R.r,B,_,I,C,NQ _ _,_,I,t,_,_,_,I,I,Bh.of ah,I,{ R with wl:=wl },j,g T,_,ns,os,S.1,S.2.1,S.2.2,e.1,z,rfl,RE,aw,Z,Z,λH5 X RF=>?_];exact ax j _ H5 X (λb hb=>.inl hb) (λb hb=>hb) (.inr [z,ez,I]) RF
 .rintro σ L ⟨⟨o,rfl⟩,j,S,RE,ab,g4,j4,k4,O⟩
  rw[bb,j']at ab O;let[B,as]:=RE.hr;let C:L R.r=oI Ah B (Ly { R with wl:=wl } (g T)):=as;let a6:L R.ol=oL (os.map V.int):=RE.od;let ag:¬j p:=λy=>by
   rcases g4 p y with z|z
   .exact z.elim av a8
   .rw[ae]at z;cases z
  first|refine Iu m λN m=>?_|subst m
  refine[_,I,R.r,Ah,B,_,_,I,C,M.aa.cl,M.cz,F0 { R with wl:=wl } _,.inl [rfl,_,Am.of a6],_,rfl,R.ol,p,_,_,rfl,rfl,a6,O,by rw[ck,cn,cn];lia,?_];let X:∀b o,L b=g o->b≠R.ol->upd L R.ol (.lst (os.map V.int++W.map λe=>V.int e.2.n)) b=g o:=λb o e n=>Hg e n;let RG:=RE.ord (os':=os++W.map (·.2.n)) X (by rw[iN,rb];exact Ab);let b2:j R.ol:=RE.own _ (Gd 6 I);let bm:p≠R.ol:=λy=>ag (y▸b2);generalize upd L R.ol (.lst (os.map V.int++W.map λe=>V.int e.2.n))=H5 at X RG;subst m;refine[_,I,q p { R with wl:=wl } j W S H5 rfl rfl (λb o e n1 n2=>?_) (λb hb=>?_) (al.mono λb o e h=>?_) pm pw ab RG bg ag (X _ _ O bm)]
  .let[a1,a2,a3]:=aa b o e n1 n2
   exact X _ _ (k4 _ _ a1 a2 a3) (λy=>n1 (y▸RA.own _ (Gd 6 I)))
  .rcases g4 b hb with (z|z)|z
   .exact .inl z
   .exact .inr (by rw[z];exact f1 _ a5)
   .by_cases y:D b
    .exact .inl y
    refine .inr ?_;cases u:H b with
    |none=>rfl
    |some o=>
     by_cases t:b=TT
     .rw[t,ba]at z;cases z
     .rw[(aa b o u y t).1]at z;cases z
  .have nb:¬(D b\/b=wl):=λy=>by
    let[_,o',e',n2]:=RD.al b y;rw[e]at e';cases e';rcases h with ⟨ps,h⟩|⟨φ,h⟩<;>(rw[h]at n2;exact n2)
   refine X _ _ (k4 _ _ e nb λy=>?_) λy=>nb (.inl (y▸RA.own _ (Gd 6 I)));rw[y,ae]at e;cases e;rcases h with ⟨ps,h⟩|⟨φ,h⟩<;>cases h
def JY(B:Pm P w K mg base):Ki P w K mg base 10 Ah "close" #["self","day"] (cX K Bi (A8.mk Ba) Al Al An An Aq Cr Ah Aw Bc TT):=bE B.gh B.aa.cl bd λf C F=>Ir B F
end
inductive YA(CG CN CD T:J)(vs:List V)(H:Hp)(Q:VK)(E:XK):Prop
 |mk (R:Lg) (D:J->Prop) (c:Option Int) (es:List Wl) (ns os:List Int) (zs:List (J×LF)) (lf:List (Int×Int)) (fs:List Int) (z0:vs=#[.ref R.r]) (z1:Cp CG CN CD T D H R c es ns os zs lf fs) (zq:∀p H',Ag H H'->H p=U->H' p=oL (os.map V.int)->Q (.ref p) H')
inductive OI(CG CN CD T:J)(vs:List V)(H:Hp)(Q:VK)(E:XK):Prop
 |mk (R:Lg) (D:J->Prop) (c:Option Int) (es:List Wl) (ns os:List Int) (zs:List (J×LF)) (lf:List (Int×Int)) (fs:List Int) (z0:vs=#[.ref R.r]) (z1:Cp CG CN CD T D H R c es ns os zs lf fs) (zq:∀p H',Ag H H'->H p=U->H' p=oL (zs.map λe=>V.ref e.1)->Q (.ref p) H')
inductive UQ(CG CN CD T:J)(vs:List V)(H:Hp)(Q:VK)(E:XK):Prop
 |mk (R:Lg) (D:J->Prop) (c:Option Int) (es:List Wl) (ns os:List Int) (zs:List (J×LF)) (lf:List (Int×Int)) (fs:List Int) (n:Int) (z0:vs=#[.ref R.r,.int n]) (z1:Cp CG CN CD T D H R c es ns os zs lf fs) (z2:0<=n) (z3:n<=1000000000) (z4:n∈lf.map (·.1)) (zq:Q (.int (Ya lf n)) H)
inductive NE(CT CG CN CD T:J)(vs:List V)(H:Hp)(Q:VK)(E:XK):Prop
 |mk (R:Lg) (D:J->Prop) (c:Option Int) (es:List Wl) (ns os:List Int) (zs:List (J×LF)) (lf:List (Int×Int)) (fs:List Int) (n:Int) (v2 v3:V) (z0:vs=#[.ref R.r,.int n,v2,v3]) (z1:Cp CG CN CD T D H R c es ns os zs lf fs) (z2:0<=n) (z3:n<=1000000000) (z4:∀e∈zs,e.2.n≠n) (z6:E (.ref CT) U H)
inductive VR(K:a')(CE:J)(vs:List V)(H:Hp)(Q:VK)(E:XK):Prop
 |mk (n:Int) (t:J) (v1 v2 v3 v4 v5:V) (T1 T2 T3 T4 T5:String) (z0:vs=#[.int n,.ref t]) (zt:H t=oT #[v1,v2,v3,v4,v5]) (t1:TyOf K H v1 (.type T1)) (t2:TyOf K H v2 (.type T2)) (t3:TyOf K H v3 (.type T3)) (t4:TyOf K H v4 (.type T4)) (t5:TyOf K H v5 (.type T5)) (o2:okX v2) (o3:okX v3) (o4:okX v4)
  (zq:Dd (.int 0) v1 v2 v3 v4 v5=eP->∀p H',Ag H H'->H' p=oT #[.int n,v1,v2,v3,v4,v5]->Q (.ref p) H') (ze:Dd (.int 0) v1 v2 v3 v4 v5=eM->∀H',Ag H H'->E (.ref CE) U H')
inductive UN(K:a')(CE:J)(vs:List V)(H:Hp)(Q:VK)(E:XK):Prop
 |mk (a t:J) (v1 v2 v3 v4 v5:V) (T1 T2 T3 T4 T5:String) (z0:vs=#[.ref a]) (za:H a=oL #[.ref t]) (zt:H t=oT #[v1,v2,v3,v4,v5]) (t1:TyOf K H v1 (.type T1)) (t2:TyOf K H v2 (.type T2)) (t3:TyOf K H v3 (.type T3)) (t4:TyOf K H v4 (.type T4)) (t5:TyOf K H v5 (.type T5)) (o2:okX v2) (o3:okX v3) (o4:okX v4)
  (zq:Dd (.int 0) v1 v2 v3 v4 v5=eP->∀r p H',Ag H H'->H' r=oL #[.ref p]->H' p=oT #[.int (-1),v1,v2,v3,v4,v5]->Q (.ref r) H') (ze:Dd (.int 0) v1 v2 v3 v4 v5=eM->∀H',Ag H H'->E (.ref CE) U H')
inductive VT(K:a')(CE CL:J)(vs:List V)(H:Hp)(Q:VK)(E:XK):Prop
 |mk (v w:V) (a t:J) (c:Int) (v1 v2 v3 v4 v5:V) (T1 T2 T3 T4 T5:String) (z0:vs=#[v,w,.int c,.ref a]) (za:H a=oL #[.ref t]) (zt:H t=oT #[v1,v2,v3,v4,v5]) (t1:TyOf K H v1 (.type T1)) (t2:TyOf K H v2 (.type T2)) (t3:TyOf K H v3 (.type T3)) (t4:TyOf K H v4 (.type T4)) (t5:TyOf K H v5 (.type T5)) (o2:okX v2) (o3:okX v3) (o4:okX v4)
  (zd:Dd (.int 0) v1 v2 v3 v4 v5=eP->∃d:Int,v1=.int d/\d<=c/\dY CL "day" c H E) (ze:Dd (.int 0) v1 v2 v3 v4 v5=eM->∀H',Ag H H'->E (.ref CE) U H')
inductive XW(K:a')(CE CL CG CN CD T:J)(vs:List V)(H:Hp)(Q:VK)(E:XK):Prop
 |mk (R:Lg) (D:J->Prop) (c:Option Int) (es:List Wl) (ns os:List Int) (zs:List (J×LF)) (lf:List (Int×Int)) (fs:List Int) (a t:J) (c0:Int) (v1 v2 v3 v4 v5:V) (T1 T2 T3 T4 T5:String) (z0:vs=#[.ref R.r,.ref a]) (z1:Cp CG CN CD T D H R c es ns os zs lf fs) (zc:c=g c0) (za:H a=oL #[.ref t]) (zt:H t=oT #[v1,v2,v3,v4,v5]) (t1:TyOf K H v1 (.type T1)) (t2:TyOf K H v2 (.type T2)) (t3:TyOf K H v3 (.type T3)) (t4:TyOf K H v4 (.type T4)) (t5:TyOf K H v5 (.type T5)) (o2:okX v2) (o3:okX v3) (o4:okX v4)
  (zd:Dd (.int 0) v1 v2 v3 v4 v5=eP->∃d:Int,v1=.int d/\d<=c0/\dY CL "day" c0 H E) (ze:Dd (.int 0) v1 v2 v3 v4 v5=eM->∀H',Ag H H'->E (.ref CE) U H')
section
seal L2.PS L2.PSs L2.PE L2.PA
variable {P:eY} {w:fF} {K:a'} {mg:eU->Option eJ} {base:fK} (B:Pm P w K mg base)
def F1:Jm B 1 Ah "handled" #["self"] (YA Ah Aw Bc TT):=BR B.z B.jm B.aa.cl #["self"] df λX H Q T h=>by
 let[R,D,c,M,O,A,N,W,E,rfl,F,q]:=h;refine[_,(Ad (Ar (Em (Di (K:=K) I) I (B.z.nn B.bn) (show fz _=g (.type "list") from rfl) (Bz (Bd (pv 0) I))))),?_];let[C,j]:=F.hr;exact[_,I,R.r,Ah,C,_,_,I,j,B.aa.cl,B.cz,F0 R c,R.ol,_,I,.inl (Am.of F.od),λl L=>q l _ (Aa L _) L Ab]
def EJ:Jm B 1 Ah "settled" #["self"] (OI Ah Aw Bc TT):=BR B.z B.jn B.aa.cl #["self"] df λX H Q T h=>by
 let[R,D,c,M,O,A,N,W,E,rfl,F,q]:=h;refine[_,(Ad (Ar (D2 I (B.z.nn B.bn) (Bd (pv 0) I)))),?_];let[C,j]:=F.hr;refine[_,I,R.r,Ah,C,_,_,I,j,B.aa.cl,B.bq,Np R c,R.lr,_,I,F.lr,λp L=>?_];rw[rb];exact q p _ (Aa L _) L Ab
def IW:Jm B 4 Ah "stands" #["self","number"] (UQ Ah Aw Bc TT):=BR B.z B.g9 B.aa.cl #["self","number"] df λd H Q O h=>by
 let L:=Gq O;let[R,D,c,X,E,f,A,b,l,n,rfl,S,N,C,W,q]:=h;refine[_,(Ac (Bk (Do (D1 B) O (Ca (Bd (pv 0) I) (pv 1))))
   (Ad (Ar (Jr L (Bd (pv 0) I) (pv 1) (λx x=>I))))),?_]
 let[T,j]:=S.hr;let[F,_]:=S.lf;let M:=cD.k (k:=.inl n) F;rw[Sd W]at M;exact[_,I,R.r,Ah,T,_,_,I,j,B.aa.cl,B.ao,Lj R c,_,I,R.lf,_,_,n,I,F,Sd W,N,C,_,I,R.r,Ah,T,_,_,I,j,B.aa.cl,B.ao,Lj R c,_,I,R.lf,_,I,M,q]
def Qb:Bg #["self","number","lo","hi","upto"] #["self","number","lo","hi"] (Ao Ef):=by injections
def Og(B:Pm P w K mg base){f:J}(F:dJ K "bears" "Ledger.bears" Ef f r):Bp P w K mg base (Tg P w) 4 f r #["self","number","lo","hi"] (NE Bq Ah Aw Bc TT):=by
 let W:=Qb;refine F.okX W (λo H Q E h=>?_) (λX A O s H o Q E T h=>?_)
 .let[_,_,_,_,_,_,_,_,_,_,_,_,rfl,_]:=h
  rfl
 let C:=Gq T;let[R,D,c,v,t,a,m,i,u,n,x,v3,rfl,L,p,l,S,q]:=h;refine[_,(Ac (Bk (Df (Gf B) (T.mono Y) Ce I (Ca (Bd (pv 0) I) (pv 1))))
   (Ac (Dp W 4 Nd)
   (Ad (Ar Nd)))),?_]
 let[d,j]:=L.hr;let[M,N,_,b]:=L.oc;refine[_,I,R.r,Ah,d,_,_,I,j,B.aa.cl,B.bh,Ka R c,_,I,R.oc,M,n,I,N,p,l,λy=>?_,λ_=>q];exfalso;let[z,k,e]:=(b n).mp y;exact fA e (S z k)
def QU(B:Pm P w K mg base):N5 P w K mg base 4 Ah "bears" #["self","number","lo","hi"] #[.int 0,.non] (NE Bq Ah Aw Bc TT):=YO B.l6 B.aa.cl (λf C F=>Og B F) b4
def Rl(B:Pm P w K mg base):Pw P w K mg base 5 "foretold_loss" #["number","row"] (VR K Bi):=KQ B.z B.jo #["number","row","loss"] (dg λvs H Q E h=>by
  let[_,_,_,_,_,_,_,_,_,_,_,_,rfl,_]:=h;rfl) λe H Q E l h=>by
 let[n,t,u,m,f,i,x,T1,T2,T3,T4,T5,rfl,W,X,t2,z,c,s,o2,k,o4,q,v]:=h;refine[_,(Ac (Bj (PW.pt (Fb (Bt (Bm (Nu Ud B.z B.ad (Ca (pv 1) (Bl (Ca (Kq "list" rfl (B.z.nn B.bn) I) (Kq "tuple" rfl (B.z.nn B.lw) I))))))) (Ea (Ay FE (Cw (Dr (K:=K) I) I (B.z.nn B.ax) (show fz _=g (.builtin "len") from rfl) (Bz (pv 1))) (Lb B.z B.fg) (Be _)))))
    (Ad (Es Ce I (GL B.z B.am B.ar) I (Bz Bo)))
    At)
   (Ac (Dp e 2 (Df (Yt B) (l.mono Y) Ce I (Ai Ae (Ai (Ej K (pv 1) Ae) (Ai (Ej K (pv 1) Ae) (Ai (Ej K (pv 1) Ae) (Ca (Ej K (pv 1) Ae) (Ej K (pv 1) Ae))))))))
   (Ad (Ar (As Gy (Bl (Bz (pv 0))) (Ee (Jg (K:=K) I) (pv 2) (Eu Ae) Ey)))))),?_]
 refine Fc λN S=>?_;refine[_,I,Ax (by show 2<=1000;decide),λb L=>?_];let F:=Aa L (.tup #[.ty "list",.ty "tuple"]);refine[t,b,_,I,F _ _ W,Ab,_,I,Cg ?_];generalize upd H b (.tup #[.ty "list",.ty "tuple"])=H1 at F;let j:=F _ _ W;refine[_,I,t,_,I,.inr (Bh.of j),I,_,I,nF I ?_];refine Iu S λN S=>?_;refine[_,I,t,_,_,_,I,I,Bh.of j,I,_,I,t,_,_,_,I,I,Bh.of j,I,_,I,t,_,_,_,I,I,Bh.of j,I,_,I,t,_,_,_,I,I,Bh.of j,I,_,I,t,_,_,_,I,I,Bh.of j,I,.int 0,u,m,f,i,x,_,_,_,_,_,_,I,.int _,X.same F,t2.same F,z.same F,c.same F,s.same F,o2,k,o4,λC p R O np M=>?_,λC R O=>v C R (F.trans O)];subst S;refine Lf #[oN n,oR t,oR p] rfl ?_;refine[_,I,Ax (by show 1<=1000;decide),λa T=>[_,I,1,I,p,_,I,Bh.of ((Aa T _) _ _ M),(λy=>fA y.1 (by show ¬(HT.sIx 6 0 (g 1)=0);decide)),λb L=>?_]];let o:=Aa T (.tup #[.int n]);exact[a,b,_,_,I,I,(Aa L _) _ _ Ab,Ab,Ax (by show 6<=1000;decide),λA d r aa=>q C A d (((F.trans O).trans o).trans ((Aa L _).trans r)) aa]
def Os(B:Pm P w K mg base):Pw P w K mg base 7 "foretold_losses" #["rows"] (UN K Bi):=KQ B.z B.j8 #["rows","losses","one","later"] (dg λvs H Q E h=>by
  let[_,_,_,_,_,_,_,_,_,_,_,_,rfl,_]:=h;rfl) λk H Q E hr h=>by
 let[a,t,c,f,A,s,l,T1,T2,T3,T4,T5,rfl,z,ht,t1,t2,t3,t4,t5,o2,o3,o4,q,qe]:=h;refine[_,(Ac (DE (NC:=#["k","row"]) (own:=#["k","row"]) (cs:=[]) (ix:=[]) (j:=1) k.nd I I CS I I I (Au.of I) I trivial (Ji I (B.z.nn B.au) (Bz (pv 0))) (λ_ _ _=>(Eb (K:=K) (n:=2) I I (Bf (Oh 0) (Bf (Oh 1) Ds)))) (λ_ _ _=>Ez) (λ_ _ _ _ _ hW=>(Df (Rl B) (hr.mono Y) hW I (Ca (As Fi (Sw Ls Ae) (pv 0)) (pv 1)))))
   (Ac (Cj mU I (GO I (B.z.nn B.ka) (Ca (pv 1) (Ee (Sv (K:=K) I) (pv 1) (Eu Ae) Ey))) (Eb (K:=K) (n:=2) I I (Bf (Gi k 2) (Bf (Gi k 3) Ds)))
    (Ad (Bj (Ay Hv (Ej K (pv 3) (Lb B.z B.gm)) (Ej K (pv 2) (Lb B.z B.gm)) (Be _))
    (Ad (Es Ce I (GL B.z B.am B.ar) I (Bz Bo)))
    At)))
   (Ad (Ar (pv 1))))),?_]
 refine Fc λN d=>?_;refine[_,I,a,I,[_,Am.of z],λr v=>?_];refine Ob (K:=K) (a:=a) (xs:=#[.ref t]) (λi ys L=>(i=0/\ys=[]\/Dd (.int 0) c f A s l=eP/\∃p,ys=#[.ref p]/\L p=oT #[.int (-1),c,f,A,s,l]/\i=1)/\L r=oL ys/\Ag H L) [.inl [I,I],Ab,Aa v _]
  (λi ys L _ ⟨e,T,M⟩=>[T,by rcases e with ⟨rfl,rfl⟩|⟨_,p,rfl,_,rfl⟩<;>exact b' _,Am.of (M _ _ z)]) (Ax (by show 1<=1000;decide)) (λi x ys L u X ⟨e,T,M⟩ hu=>?_) (λys L ⟨e,T,M⟩=>?_)
 .have i0:i=0:=by
   let:=(hI.mp X).1;rw[o5]at this
   lia
  subst i0;cases X;rcases e with ⟨_,rfl⟩|⟨_,_,_,_,y⟩
  .have R:=M.trans (Aa hu (.tup #[.int ((0:Nat):Int),.ref t]))
   let aa:=(Aa hu (.tup #[.int ((0:Nat):Int),.ref t])) _ _ T;refine[1,I,_,I,-1,_,I,I,_,I,-1,t,c,f,A,s,l,_,_,_,_,_,I,R _ _ ht,t1.same R,t2.same R,t3.same R,t4.same R,t5.same R,o2,o3,o4,λC p S F O=>[F _ _ aa,I,.inr [C,p,I,?_,I],Ab,λb o y=>?_],λC S F=>qe C S (R.trans F)]
   .exact Hg O (Br O (F _ _ aa) (by intro y;cases y))
   .rw[Aj (Af y v)]
    exact F _ _ (R _ _ y)
  .cases y
 .rcases e with ⟨y,_⟩|⟨C,p,rfl,hp,_⟩
  .cases y
  refine Gj d #[oR a,oR r,U,U] rfl λN d=>?_;refine[_,I,_,I,1,I,r,_,I,Am.of T,λm hm=>?_];let R:=Aa hm (.lst []);let em:upd L m (.lst (Mn #[.ref p] (g 1) U)) m=oL []:=Ab;refine[r,m,I,[_,Am.of (R _ _ T)],[_,Am.of em],U5 (K:=K) (K':=K) (a:=r) (b:=m) (xs:=#[.ref p]) (ys:=[]) (λi W S=>W=#[oR a,oR r,U,U]/\Ag (upd L m (.lst [])) S) [I,Ag.refl _] (λi W S _ hh=>[Am.of (hh.2 _ _ (R _ _ T)),Am.of (hh.2 _ _ em)]) (λi x y W S u _ X=>by simp at X) ?_];rintro W S ⟨rfl,F⟩;subst d;exact[_,I,q C r p S (M.trans (R.trans F)) (F _ _ (R _ _ T)) (F _ _ (R _ _ hp))]
def Nx(B:Pm P w K mg base):Pw P w K mg base 10 "foretold_strips" #["book","counts","closed","rows"] (VT K Bi Ci):=KQ B.z B.j9 #["book","counts","closed","rows","losses","loss","trial"] (dg λvs H Q E h=>by
  let[_,_,_,_,_,_,_,_,_,_,_,_,_,_,_,rfl,_]:=h;rfl) λT H Q E W h=>by
 let[v,L,a,t,c,z,e,f,x,v5,T1,T2,T3,T4,T5,rfl,q,ht,C,t2,t3,A,s,o2,k,o4,l,n]:=h;refine[_,(Ac (Dp T 4 (Df (Os B) (W.mono Y) Ce I (Bz (pv 3))))
   (Ac (Cj mU I (Jz K (pv 4)) (Gi T 5)
    (Ad (Bk (Df (Pt B) (W.mono Y) Ce I (Ca (pv 2) (Ej K (pv 5) (Lb B.z B.gm)))))))
   (Ac (Yn (i:=6) T.nd I (Or.inr I) Nd)
   (Ad (Ar Nd))))),?_]
 refine Fc λN M=>?_;refine[_,I,a,t,z,e,f,x,v5,_,_,_,_,_,I,q,ht,C,t2,t3,A,s,o2,k,o4,λb r p o m j S=>?_,n];let[d,rfl,dc,X]:=l b;refine Gj M #[g v,g L,oN c,oR a,oR r,U,U] rfl λN M=>?_;refine[_,I,r,I,[_,Am.of j],?_];refine Ei (K:=K) (a:=r) (xs:=#[.ref p]) (λi R F=>i=0/\R=#[g v,g L,oN c,oR a,oR r,U,U]/\Ag o F) [I,I,Ag.refl _] (λi R F _ u=>Am.of (u.2.2 _ _ j)) ?_ ?_
 .rintro i y R F hi ⟨rfl,rfl,O⟩ N9 aa
  cases hi
  refine Lf #[g v,g L,oN c,oR a,oR r,oR p,U] rfl ?_;refine[_,I,_,I,p,_,_,_,I,I,Bh.of (O _ _ S),I,g c,d,I,λaf=>?_,λd' e' h'=>?_]
  .have:=af c I
   exfalso
   lia
  .cases e'
   exact X.same (m.trans O)
 .rintro R F ⟨y,_⟩
  cases y
def AV(B:Pm P w K mg base):Ki P w K mg base 11 Ah "foretell" #["self","rows"] (XW K Bi Ci Ah Aw Bc TT):=SB B.je B.aa.cl #["self","rows"] (dg λe H Q E h=>by
  let[_,_,_,_,_,_,_,_,_,_,_,_,_,_,_,_,_,_,_,_,_,_,rfl,_]:=h;rfl) λsc H Q E b h=>by
 let[R,D,c,y,u,os,m,x,v,a,t,W,l,L,s,N,C,n,i,z,T4,T5,rfl,T,rfl,f,r,F,S,M,X,k,q,A,p,d,o]:=h;refine[_,(Ad (Ar (Df (Nx B) (b.mono Y) Ce I (Ai (Bd (pv 0) I) (Ai (Bd (pv 0) I) (Ca (Bd (pv 0) I) (pv 1))))))),?_];let[O,j]:=T.hr;exact[_,I,R.r,Ah,O,_,_,I,j,B.aa.cl,B.bv,Xy R _,_,I,R.r,Ah,O,_,_,I,j,B.aa.cl,B.cg,Uo R _,_,I,R.r,Ah,O,_,_,I,j,B.aa.cl,B.ah,Iq R _,_,I,_,_,a,t,W,l,L,s,N,C,_,_,_,_,_,I,f,r,F,S,M,X,k,q,A,p,d,o]
end
inductive OA(K:a')(vs:List V)(H:Hp)(Q:VK)(E:XK):Prop
 |mk (a:J) (ns:List Int) (k:Int) (z0:vs=#[.ref a,.int k]) (z1:Am K H a (iF V.int ns)) (z2:0<=k) (z3:k<=1000) (z4:ns.length<=63) (zq:∀i:Int,0<=i->i<1000000000000000000->Q (.int i) H)
inductive UH(vs:List V)(H:Hp)(Q:VK)(E:XK):Prop
 |mk (n k:Int) (z0:vs=#[.int n,.int k]) (z1:0<=k) (z2:k<=1000) (zq:∀i:Int,0<=i->i<=2147483628->Q (.int i) H)
def Vc{i:Nat}{v:Int}{nx:St->Hp->Prop}(lo B:Int)(C:lo<=v/\v<=B)(h:∀x:Int,lo<=x->x<=B->Dx i (.int x) b H nx):Dx i (.int v) b H nx:=h v C.1 C.2
def md{a b:Int}(h:0<b):0<=a%b/\a%b<=b-1:=[kJ _ Z,by let:=jW a h;lia]
def e18:(10:Int)^(18:Int).toNat=1000000000000000000:=by ac_nf
def e9:(10:Int)^(9:Int).toNat=1000000000:=by ac_nf
def e12:(10:Int)^(12:Int).toNat=1000000000000:=by ac_nf
def e6:(10:Int)^(6:Int).toNat=1000000:=by ac_nf
section
variable {P:eY} {w:fF} {K:a'} {mg:eU->Option eJ} {base:fK} (d:Pm P w K mg base)
def Dz:Jc d 1 "_law_cell" #["_law_script","_law_k"] (OA K):=Iw d.z d.se #["_law_script","_law_k"] df λN H Q R h=>by
 let[a,B,k,rfl,j,C,O,F,q]:=h;refine[_,(Ac (Bj (Ay Hv (pv 1) (Cw (Dr (K:=K) I) I (d.z.nn d.ax) (show fz _=g (.builtin "len") from rfl) (Bz (pv 0))) (Be _))
    (Ad (Ar (As De (Nv K (pv 0) (pv 1)) (As Hj Ae Ae))))
    At)
   (Ad (Ar (As De (As Co (As Co (As Ga (As Ga (pv 1) (pv 1)) Ae) (As Ga Ae (Cw (Dr (K:=K) I) I (d.z.nn d.ax) (show fz _=g (.builtin "len") from rfl) (Bz (pv 0))))) Ae) Ae)))),?_]
 let M:(iF V.int B).length=B.length:=cn _;refine[_,I,_,I,a,_,I,.inl j,_,_,I,I,_,I,?_];rw[M];refine Rv (λc=>?_) (λc=>?_)
 .have L:k<(B.length:Int):=fE c
  refine[_,I,_,I,a,_,_,_,I,I,j,W1 C L,_,_,I,I,[Y,Y,Y],_,_,I,I,(by show(0:Int)<(10:Int)^(18:Int).toNat;rw[e18];decide),?_];let b:=md (a:=B.getD k.toNat 0) (b:=(10:Int)^(18:Int).toNat) (by rw[e18];decide);exact q _ b.1 (by let:=b.2;rw[e18]at this;show _%(10:Int)^(18:Int).toNat<_;rw[e18];lia)
 .refine[_,I,_,I,_,_,I,I,.inl [Z,Z],_,_,I,I,.inr [Y,Y],_,I,a,_,I,.inl j,_,_,I,I,.inl [Y,Y],_,_,I,I,_,_,I,I,_,_,I,I,(by show(0:Int)<2147483647;decide),?_]
  let b:=md (a:=k*k*48271+7919*((iF V.int B).length:Int)+12345) (b:=2147483647) Y;exact q _ b.1 (by let:=b.2;lia)
def Uu:Jc d 1 "_law_mix" #["_law_number","_law_k"] (UH):=Iw d.z d.t7 #["_law_number","_law_k"] df λB H Q N h=>by
 let[n,k,rfl,L,C,q]:=h;refine[_,(Ac (Dp B 0 (As De (As Co (As Co (As Ga (pv 0) Ae) (As Ga (As Ga (pv 1) (pv 1)) Ae)) Ae) Ae))
   (Ad (Ar (As De (As Ga (pv 0) (pv 0)) Ae)))),?_]
 refine[_,I,_,_,I,I,.inr [Y,Y],_,I,_,I,_,_,I,I,.inl [Z,Z],_,_,I,I,.inr [Y,Y],_,_,I,I,_,_,I,I,_,_,I,I,(by show(0:Int)<2147483647;decide),?_];refine Vc 0 2147483646 (md Y) λx O M=>?_;refine[_,I,_,I,_,_,I,I,.inl [Z,Z],_,_,I,I,(by show(0:Int)<2147483629;decide),?_];let b:=md (a:=x*x) (b:=2147483629) Y;exact q _ b.1 b.2
end
def Yo(i:Int):Nat:=97+(i%26).toNat
def Lv(i:Int):Hx (Yo i):=by
 unfold Hx Yo;let C:0<=i%26:=kJ _ Y;let B:i%26<26:=jW _ Y
 lia
def M3(i:Int):Wv (fM "abcdefghijklmnopqrstuvwxyz").cps.toList (i%26)=g (Yo i):=by
 let e:(fM "abcdefghijklmnopqrstuvwxyz").cps.toList=(kw 26).map (97 + ·):=by ac_nf
 let B:0<=i%26:=kJ _ Y;let C:i%26<26:=jW _ Y;let[k,j]:=sF B;rw[e];unfold Yo;rw[j];refine Lh ?_;rw[jk,uM Z];rfl
def Yh:(fM "abcdefghijklmnopqrstuvwxyz").length<=sizeLine:=by
 let e:(fM "abcdefghijklmnopqrstuvwxyz").length=26:=by ac_nf
 rw[e];exact Ax Y
def E1{c:Prop}{M}{N}{i:Nat}{D}{C}{H}(B:V->Hp->Prop)(j:V)(F:C.set i (g j)=C)(L:¬c->B j H)(h:c->∀Q:VK,(∀v H',B v H'->Q v H')->N C H Q)(R:∀v H',B v H'->D.nx (C.set i (g v)) H') :
  @ite Prop c M (P6 N (Dx i) D C H) (MD D C H):=by
 by_cases z:c
 .rw[eR z];exact h z _ R
 .rw[eQ z]
  let r:=R j H (L z);rw[F]at r;exact r
def X6:List Nat:=#[115,101,108,102]
def XY:List Nat:=#[115,101,108]
def V8:fM "self"=tx X6:=by ac_nf
def QS:fM "sel"=tx XY:=by ac_nf
def Qc(n:Int)(st:List Nat)(a j:Nat):List Nat:=if n/512%3=1 then kq (j+1) (Yo (n/26)) else st.take a++#[Yo (n/26+j)]++st.drop (a+1)
def Ua(n:Int)(st:List Nat)(a j:Nat):List Nat:=if Qc n st a j=X6 then XY else Qc n st a j
structure QO(st:List Nat)(a:Nat):Prop where
 lo:a<st.length
 hi:st.length<=8
 all:Ie st
def EF{n:Int}{st:List Nat}{a j:Nat}(S:QO st a)(L:j<8):Fx (Qc n st a j):=by
 unfold Qc
 split
 .refine[by rw[vh];lia,λc F=>?_]
  rw[List.eq_of_mem_replicate F];exact Lv _
 .have:=S.lo
  let:=S.hi;refine[?_,λc F=>?_]
  .rw[fy,fy,hQ,rx]
   show 1<=_+1+_/\_+1+_<=8
   lia
  .rcases gw.mp F with z|z
   .rcases gw.mp z with z|z
    .exact S.all c (tY z)
    .rw[d_.mp z]
     exact Lv _
   .exact S.all c (List.mem_of_mem_drop z)
def FG{n:Int}{st:List Nat}{a j:Nat}(S:QO st a)(F:j<8):Fx (Ua n st a j):=by
 unfold Ua
 split
 .decide
 .exact EF S F
inductive IM(vs:List V)(H:Hp)(Q:VK)(E:XK):Prop
 |mk (n:Int) (z0:vs=#[.int n,.int 2]) (z1:0<=n) (zq:∀r (x y:eU) H',Ag H H'->H' r=oL #[.str x,.str y]->nameV (.str x)=eP->nameV (.str y)=eP->Q (.ref r) H')
section
seal L2.PS L2.PSs L2.PE L2.PA
variable {P:eY} {w:fF} {K:a'} {mg:eU->Option eJ} {base:fK}
def Zk(N:Pm P w K mg base):Jc N 1 "_law_names" #["_law_number","_law_size"] (IM):=Iw N.z N.qi #["_law_number","_law_size","_law_letters","_law_stem","_law_k","_law_at","_law_found","_law_sign","_law_name"] df λR H Q hr h=>by
 let[n,rfl,hn,q]:=h;refine[_,(Ac (Dp R 2 Bo)
   (Ac (Dp R 3 Bo)
   (Ac (Cj fH I (Gb I (N.z.nn N.bz) (Bz (As Co Ae (As De (pv 0) Ae)))) (Gi R 4)
    (Ac (Dp R 5 (As Co (As Co (As Ew (pv 0) Ae) (As Ga (As Ga (As Ew (pv 0) Ae) (pv 4)) (pv 4))) (As Ga Ae (pv 4))))
   (Ad (Dp R 3 (As Hn (pv 3) (Zm L5 (pv 2) (As De (pv 5) Ae) (λ_ _=>I)))))))
   (Ac (Dp R 5 (As De (As Ew (pv 0) Ae) (Nu Nf N.z N.ax (Bz (pv 3)))))
   (Ac (Dp R 6 (Bu Eg))
   (Ac (Cj fH I (Gb I (N.z.nn N.bz) (Bz (pv 1))) (Gi R 4)
    (Ac (Dp R 7 (Zm L5 (pv 2) (As De (As Co (As Ew (pv 0) Ae) (pv 4)) Ae) (λ_ _=>I)))
   (Ac (Dp R 8 (As Hn (As Hn (Ee GG (pv 3) Ey (Eu (pv 5))) (pv 7)) (Ee GG (pv 3) (Eu (As Co (pv 5) Ae)) Ey)))
   (Ac (Bj (Ay Fe (As De (As Ew (pv 0) Ae) Ae) Ae (Be _))
    (Ad (Dp R 8 (As D8 (Zm L5 (pv 2) (As De (As Ew (pv 0) Ae) Ae) (λ_ _=>I)) (As Co (pv 4) Ae))))
    At)
   (Ac (Bj (Ay Fe (pv 8) Bo (Be _))
    (Ad (Dp R 8 Bo))
    At)
   (Ad (Bk (Ed (K:=K) I fG gA fZ Dq (pv 6) (Bz (pv 8))))))))))
   (Ad (Ar (pv 6))))))))),?_]
 let c0:0<=n%8:=kJ _ Y;let c8:n%8<8:=jW _ Y;let et:fM ""=tx []:=by ac_nf
 refine[_,I,_,_,I,I,(by show(0:Int)<8;decide),_,_,I,I,_,I,Z,Z,?_];refine Ky (lo:=0) (n:=(1+n%8).toNat)
  (λi W C=>(∃(O:List Nat) (F E:Option V),W=#[oN n,oN 2,oS (fM "abcdefghijklmnopqrstuvwxyz"),oS (tx O),F,E,U,U,U]/\O.length=i/\Ie O)/\C=H)
  [[[],U,U,gF (λz:eU=>#[g (V.int n),g (V.int 2),g (V.str (fM "abcdefghijklmnopqrstuvwxyz")),g (V.str z),U,U,U,U,U]) et,I,λ_ z=>nomatch z],I] ?_ ?_
 .rintro i W C hi ⟨⟨O,F,E,rfl,s,d⟩,rfl⟩
  let ib:(-(2^64)<(0+(i:Int))/\(0+(i:Int))<2^64):=by lia
  refine[_,I,_,_,I,I,[Y,Y],_,I,_,_,I,I,[Y,Y],_,I,_,_,I,I,.inr ib,_,I,_,_,I,I,.inr ib,_,_,I,I,_,I,_,_,I,I,.inl [Y,Y],_,_,I,I,?_];refine Lf #[oN n,oN 2,oS (fM "abcdefghijklmnopqrstuvwxyz"),oS (tx O),oN (0+(i:Int)),oN (n/8+n/208*(0+(i:Int))*(0+(i:Int))+5*(0+(i:Int))),U,U,U] rfl ?_;generalize n/8+n/208*(0+(i:Int))*(0+(i:Int))+5*(0+(i:Int))=v;refine[_,I,_,I,_,I,_,_,I,I,(by show(0:Int)<26;decide),_,_,_,I,I,Yh,M3 v,_,_,I,I,?_,?_]
  .show (tx O).length+(tx #[Yo v]).length<=sizeLine
   rw[Gm,Gm,s];exact Ax (by show i+1<=1000;lia)
  refine[[O++#[Yo v],_,_,gF (λz:eU=>#[g (V.int n),g (V.int 2),g (V.str (fM "abcdefghijklmnopqrstuvwxyz")),g (V.str z),g (V.int (0+(i:Int))),g (V.int v),U,U,U]) (G7 O #[Yo v]),by rw[fy,s];rfl,λc hc=>?_],I];rcases gw.mp hc with z|z
  .exact d c z
  .rw[d_.mp z]
   exact Lv v
 .rintro W C ⟨⟨O,F,E,rfl,s,d⟩,rfl⟩
  let M:(tx O).length=O.length:=Gm _;let t:(tx O).length<=sizeLine:=by rw[M];exact Ax Z
  let d0:0<=n/64%((tx O).length:Nat):=kJ _ (by rw[M];lia);let d1:n/64%((tx O).length:Nat)<(O.length:Nat):=by rw[<- M];exact jW _ (by rw[M];lia)
  let[a,y]:=sF d0;rw[y]at d1;let S:QO O a:=[Z,Z,d];let nm:∀j,j<8->nameV (.str (tx (Ua n O a j)))=eP:=λj hj=>eT (FG S hj);refine[_,I,_,_,I,I,[Y,Y],_,I,_,I,t,_,_,I,I,(by show(0:Int)<((tx O).length:Nat);rw[M];lia),?_];refine Lf #[oN n,oN 2,oS (fM "abcdefghijklmnopqrstuvwxyz"),oS (tx O),F,oN (a:Int),U,U,U] (by exact gF (λz:Int=>#[g (V.int n),g (V.int 2),g (V.str (fM "abcdefghijklmnopqrstuvwxyz")),g (V.str (tx O)),F,g (V.int z),U,U,U]) y) ?_;refine[de _,λr u=>?_];let s1:=Aa u (.lst []);let e1:upd C r (.lst []) r=oL []:=Ab;refine[_,I,_,I,Z,Z,?_];refine Ky (lo:=0) (n:=2)
   (λi W X=>(∃F p B:Option V,W=#[oN n,oN 2,oS (fM "abcdefghijklmnopqrstuvwxyz"),oS (tx O),F,oN (a:Int),oR r,p,B])/\X r=oL (((kw i).map (Ua n O a)).map λl=>V.str (tx l))/\Ag C X)
   [[_,U,U,I],e1,s1] ?_ ?_
  .rintro i W X hi ⟨⟨F,p,B,rfl⟩,A,f⟩
   let i8:i<8:=by lia
   let ei:(0+(i:Int))=(i:Int):=by lia
   rw[ei];let ab:mZ (tx O) U (g (a:Int))=tx (O.take a):=EA Z Z;let aa:mZ (tx O) (g ((a:Int)+1)) U=tx (O.drop (a+1)):=by
    let z:=G0 (l:=O) (i:=(a:Int)+1) Z Z;rw[show((a:Int)+1).toNat=a+1 by lia]at z;exact z
   let S1:=S.lo;refine[_,I,_,I,_,_,I,I,[Y,Y],_,I,_,_,I,I,_,_,I,I,(by show(0:Int)<26;decide),_,_,_,I,I,Yh,M3 _,?_];refine Lf #[oN n,oN 2,oS (fM "abcdefghijklmnopqrstuvwxyz"),oS (tx O),oN (i:Int),oN (a:Int),oR r,oS (tx #[Yo (n/26+i)]),B] rfl ?_;refine[_,I,_,I,_,I,_,I,t,?_];rw[ab];refine[_,I,_,_,I,I,?_,?_]
   .rw[Gm,Gm,hQ]
    exact Ax (by show _+1<=1000;lia)
   rw[G7];refine[_,I,_,I,_,_,I,I,_,I,_,I,t,?_];rw[aa];refine[_,_,I,I,?_,?_]
   .rw[Gm,Gm,fy,hQ,rx]
    exact Ax (by show _+1+_<=1000;lia)
   rw[G7];refine Lf #[oN n,oN 2,oS (fM "abcdefghijklmnopqrstuvwxyz"),oS (tx O),oN (i:Int),oN (a:Int),oR r,oS (tx #[Yo (n/26+i)]),oS (tx (O.take a++#[Yo (n/26+i)]++O.drop (a+1)))] rfl ?_;refine[_,I,_,_,I,I,[Y,Y],_,_,I,I,(by show(0:Int)<3;decide),I,_,I,?_];refine E1 (λv b=>v=.str (tx (Qc n O a i))/\b=X) (.str (tx (O.take a++#[Yo (n/26+i)]++O.drop (a+1)))) I (λc=>[?_,I]) (λc Q' T=>?_) ?_
   .have L:¬n/512%3=1:=λz=>c (eT (gF V.int z))
    unfold Qc;rw[eQ L]
   .have L:n/512%3=1:=V.int.inj (fE c)
    refine[_,I,_,I,_,_,I,I,[Y,Y],_,_,I,I,(by show(0:Int)<26;decide),_,_,_,I,I,Yh,M3 _,_,I,_,_,I,I,#[Yo (n/26)],_,I,I,Z,Z,(show 1<=1000 from by lk),T _ _ [?_,I]];unfold Qc;rw[eR L,show((i:Int)+1).toNat=i+1 by lia];let e:∀m:Nat,(kq m #[Yo (n/26)]).flatten=kq m (Yo (n/26)):=λm=>by
     induction m with
     |zero=>rfl
     |succ m ih=>rw[wc,wh,ih,wc];rfl
    rw[e]
   rintro v9 H9 ⟨k,e9⟩;subst k;rw[e9];refine WK #[oN n,oN 2,oS (fM "abcdefghijklmnopqrstuvwxyz"),oS (tx O),oN (i:Int),oN (a:Int),oR r,oS (tx #[Yo (n/26+i)]),oS (tx (Qc n O a i))] rfl ?_;refine[_,I,I,_,I,?_];refine E1 (λv b=>v=.str (tx (Ua n O a i))/\b=X) (.str (tx (Qc n O a i))) I (λc=>[?_,I]) (λc Q' T=>?_) ?_
   .have L:¬Qc n O a i=X6:=λz=>c (by rw[z,V8];exact eT I)
    unfold Ua;rw[eQ L]
   .have L:Qc n O a i=X6:=by
     let z:V.str (tx (Qc n O a i))=V.str (fM "self"):=fE c;rw[V8]at z;exact RS (V.str.inj z)
    refine T _ _ [?_,I];unfold Ua;rw[eR L,QS]
   rintro v9 H9 ⟨k,e9⟩;subst k;rw[e9];refine WK #[oN n,oN 2,oS (fM "abcdefghijklmnopqrstuvwxyz"),oS (tx O),oN (i:Int),oN (a:Int),oR r,oS (tx #[Yo (n/26+i)]),oS (tx (Ua n O a i))] rfl ?_;refine[_,I,.inl [I,_,Am.of A],_,I,r,_,_,I,I,A,?_,?_]
   .rw[cn,cn,u4,ck]
    lia
   refine[[_,_,_,I],?_,λx o z=>?_]
   .rw[Ab,pR,iN,iN]
    rfl
   .rw[Aj (Af z u)]
    exact f x o z
  .rintro W X ⟨⟨F,p,B,rfl⟩,A,f⟩
   exact[_,I,q r (tx (Ua n O a 0)) (tx (Ua n O a 1)) X f A (nm 0 Y) (nm 1 Y)]
end
structure R6 where
 v0:V
 v1:V
 v2:V
 v3:V
 v4:V
 v5:V
def R6.vs(r:R6):List V:=#[r.v0,r.v1,r.v2,r.v3,r.v4,r.v5]
def LF.r6(z:LF):R6:=[.int z.n,.int z.d,.str z.ev,.str z.th,.str z.ca,.int z.ct]
def LF.bf(z:LF):BF:=[z.n,z.d,z.ev,z.ct]
structure eC(K:a')(H:Hp)(a:J)(r:R6):Prop where
 h:H a=oL r.vs\/H a=oT r.vs
 t0:∃T,TyOf K H r.v0 (.type T)
 t1:∃T,TyOf K H r.v1 (.type T)
 t2:∃T,TyOf K H r.v2 (.type T)
 t3:∃T,TyOf K H r.v3 (.type T)
 t4:∃T,TyOf K H r.v4 (.type T)
 t5:∃T,TyOf K H r.v5 (.type T)
 o2:okX r.v2
 o3:okX r.v3
 o4:okX r.v4
def Kk{K:a'}{a:J}{z:LF}(h:H a=oT z.vs)(B:Dj z):eC K H a z.r6:=
 [.inr h,[_,.int _],[_,.int _],[_,.str _],[_,.str _],[_,.str _],[_,.int _],(λy e=>by cases e;exact B.2.2.1.2),(λy e=>by cases e;let:=B.2.2.2.1.1.2;rw[hH]at this;show z.th.cps.size<=900;lia),(λy e=>by cases e;let:=B.2.2.2.2.1.1.2;rw[hH]at this;show z.ca.cps.size<=900;lia)]
def Kx{z:LF}(h:Dj z):Dd (.int z.n) (.int z.d) (.str z.ev) (.str z.th) (.str z.ca) (.int z.ct)=eP:=by
 let[H,C,[S,_],B,L,F,j]:=h;unfold Dd;rw[H,C,F,show Er (.str z.ev)=eP from eT S,show nameV (.str z.th)=eP from eT B,show nameV (.str z.ca)=eP from eT L,show Tt (.int z.ct)=eP from eT j];rfl
def Pb{z:LF}(h:Dj z):Fl (.int z.n) (.int z.d) (.str z.ev) (.int z.ct)=eP:=by
 let[C,B,[F,_],_,_,L,j]:=h;unfold Fl;rw[C,B,L,show Er (.str z.ev)=eP from eT F,show Tt (.int z.ct)=eP from eT j];rfl
def AJ{z:LF}(h:Dj z):Dd (.int 0) (.int z.d) (.str z.ev) (.str z.th) (.str z.ca) (.int z.ct)=eP:=by
 let[H,C,[S,_],B,L,F,j]:=h;unfold Dd;rw[show Hr 1000000000 (.int 0)=eP from rfl,C,F,show Er (.str z.ev)=eP from eT S,show nameV (.str z.th)=eP from eT B,show nameV (.str z.ca)=eP from eT L,show Tt (.int z.ct)=eP from eT j];rfl
def Jj{z y:LF}(h:z.vs=y.vs):z=y:=by
 let[a,b,c,d,e,f]:=z;let[F,S,L,B,j,C]:=y;unfold LF.vs at h;simp only[lC,V.int.injEq,V.str.injEq]at h;let[rfl,rfl,rfl,rfl,rfl,rfl,_]:=h;rfl
def Kt{z y:BF}(h:z.vs=y.vs):z=y:=by
 let[a,b,c,f]:=z;let[F,j,S,L]:=y;unfold BF.vs at h;simp only[lC,V.int.injEq,V.str.injEq]at h;let[rfl,rfl,rfl,rfl,_]:=h;rfl
structure dL where
 R:Lg
 D:J->Prop
 c:Option Int
 es:List Wl
 ns:List Int
 os:List Int
 zs:List (J×LF)
 lf:List (Int×Int)
 fs:List Int
abbrev N4(L C B T:J)(H:Hp)(s:dL):Prop:=Cp L C B T s.D H s.R s.c s.es s.ns s.os s.zs s.lf s.fs
def dL.put(s:dL)(l:J)(e:dM)(n:Int):dL:={ s with es:=s.es++#[(l,e)],ns:=s.ns++#[n] }
inductive Kr(s:dL)(r:R6):Int->Kd->Prop
 |e0 (h:Dd r.v0 r.v1 r.v2 r.v3 r.v4 r.v5=eM):Kr s r 0 .entry
 |e1 (h:Fl r.v0 r.v1 r.v2 r.v5=eM):Kr s r 1 .entry
 |e2 (h:Hr 1000000 r.v1=eM):Kr s r 2 .entry
 |e8 (d:Int) (e:s.c=g d) (h:Dd (.int 0) r.v1 r.v2 r.v3 r.v4 r.v5=eM):Kr s r 8 .entry
 |w0 (z:LF) (h:r=z.r6) (F:Dj z) (n:z.n∈s.ns):Kr s r 0 (.twice z.n)
 |w1 (z:LF) (h:r=z.r6) (F:Dj z) (n:z.n∈s.ns):Kr s r 1 (.twice z.n)
 |l0 (z:LF) (h:r=z.r6) (F:Dj z) (n:z.n∉s.ns) (d:Int) (e:s.c=g d) (hd:z.d<=d):Kr s r 0 (.late d)
 |l1 (z:LF) (h:r=z.r6) (F:Dj z) (n:z.n∉s.ns) (d:Int) (e:s.c=g d) (hd:z.d<=d):Kr s r 1 (.late d)
 |l8 (z:LF) (h:r=z.r6) (F:Dj z) (d:Int) (e:s.c=g d) (hd:z.d<=d):Kr s r 8 (.late d)
 |u (w n:Int) (h:w=3\/w=4\/w=5) (e:r.v0=.int n) (h0:0<=n) (h1:n<=1000000000) (hn:∀e∈s.zs,e.2.n≠n):Kr s r w .untold
 |f (w n:Int) (h:w=6\/w=7) (e:r.v0=.int n) (h0:0<=n) (h1:n<=1000000000) (hn:n∉s.fs):Kr s r w .untold
inductive WR(s:dL)(z:LF):Int->dM->Prop
 |t0 (F:Dj z) (n:z.n∉s.ns) (a:IN s.c z.d):WR s z 0 (Py z)
 |t1 (F:Dj z) (n:z.n∉s.ns) (a:IN s.c z.d):WR s z 1 (SG z.n z.d z.ev z.ct)
def Kd.rs:Kd->List V
 |.entry=>#[.str "entry"]
 |.twice n=>#[.str "twice",.int n]
 |.late n=>#[.str "late",.int n]
 |.untold=>#[.str "untold"]
def Yi{z:LF}(h:Dd j f b k c d=eM)(e:#[j,f,b,k,c,d]=z.vs)(B:Dj z):False:=by
 unfold LF.vs at e;simp only[lC]at e;let[rfl,rfl,rfl,rfl,rfl,rfl,_]:=e;exact nomatch (Kx B).symm.trans h
def Xh{z:BF}(h:Fl f d b c=eM)(e:#[f,d,b,c]=z.vs)(B:D4 z):False:=by
 unfold BF.vs at e;simp only[lC]at e;let[rfl,rfl,rfl,rfl,_]:=e;let[H,C,F,L,j]:=B;unfold Fl at h;rw[H,C,F,L,show Tt (.int z.ct)=eP from eT j]at h;cases h
def Gz{i j:Int}{A B:Prop}(h:i≠j)(q:B):if decide (V.int i=V.int j)=eP then A else B:=dF (λe=>h (by injection e)) q
inductive MQ(K:a')(CG CN CD T:J)(vs:List V)(H:Hp)(Q:VK)(E:XK):Prop
 |no (s:dL) (w:Int) (a:J) (r:R6) (k:Kd) (z0:vs=#[.ref s.R.r,.int w,.ref a]) (z1:N4 CG CN CD T H s) (z2:eC K H a r) (z3:Kr s r w k) (z4:s.es.length<=500) (z5:s.ns.length<=500) (zq:∀p H',Ag H H'->H' p=oT k.rs->Q (.ref p) H')
 |tk (s:dL) (w:Int) (a:J) (z:LF) (e:dM) (z0:vs=#[.ref s.R.r,.int w,.ref a]) (z1:N4 CG CN CD T H s) (z2:H a=oT z.vs) (z3:WR s z w e) (z4:s.es.length<=500) (z5:s.ns.length<=500) (zq:∀l p H',(∀b o,H b=g o->¬s.D b->H' b=g o)->N4 CG CN CD T H' (s.put l e z.n)->H' p=oT #[.str "taken"]->Q (.ref p) H')
section
seal L2.PS L2.PSs L2.PE L2.PA
variable {P:eY} {w:fF} {K:a'} {mg:eU->Option eJ} {base:fK}
def Qg:Bg #["_law_ledger","_law_way","_law_row","_law_number","_law_day","_law_event","_law_thing","_law_cause","_law_cents","e"] #["_law_ledger","_law_way","_law_row"] (Ao He):=by injections
def Qf(R:Pm P w K mg base){f:J}(F:cF K "_law_refusal" "_law_refusal" He f fd) :
  Bp P w K mg base Fv 12 f fd #["_law_ledger","_law_way","_law_row"] (MQ K Ah Aw Bc TT):=by
 let sc:=Qg;bv_omega
 .rcases h with ⟨_,_,_,_,_,rfl,_⟩|⟨_,_,_,_,_,rfl,_⟩<;>rfl
 let a0:1<=sizeLine:=Ax (by show 1<=1000;decide);let ab:2<=sizeLine:=Ax (by show 2<=1000;decide);refine[_,(Ac (Xu (pv 2) (OZ (K:=K) (n:=6) I I (Bf (Gi sc 3) (Bf (Gi sc 4) (Bf (Gi sc 5) (Bf (Gi sc 6) (Bf (Gi sc 7) (Bf (Gi sc 8) Ds))))))))
   (Ac (LZ I I (λpn E W hW hp=>
    (Ad (Bj (Ay Fe (pv 1) Ae (Be _))
    (Ad (Bk (Gh (UA R) (hr.mono Y) hW (pv 0) (Ai (pv 3) (Ai (pv 4) (Ai (pv 5) (Ai (pv 6) (Ca (pv 7) (pv 8)))))))))
    (Ad (Bj (Ay Fe (pv 1) Ae (Be _))
    (Ad (Bk (Gh (WX R) (hr.mono Y) hW (pv 0) (Ai (pv 3) (Ai (pv 4) (Ca (pv 5) (pv 8)))))))
    (Ad (Bj (Ay Fe (pv 1) Ae (Be _))
    (Ad (Bk (Gh (JY R) (hr.mono Y) hW (pv 0) (Bz (pv 4)))))
    (Ad (Bj (Ay Fe (pv 1) Ae (Be _))
    (Ad (Bk (Gh (KJ R) (hr.mono Y) hW (pv 0) (Bz (pv 3)))))
    (Ad (Bj (Ay Fe (pv 1) Ae (Be _))
    (Ad (Bk (Gh (DJ R) (hr.mono Y) hW (pv 0) (Bz (pv 3)))))
    (Ad (Bj (Ay Fe (pv 1) Ae (Be _))
    (Ad (Bk (AE (QU R) (hr.mono Y) hW (pv 0) (Bz (pv 3)))))
    (Ad (Bj (Ay Fe (pv 1) Ae (Be _))
    (Ad (Bk (Gh (SU R) (hr.mono Y) hW (pv 0) (Bz (pv 3)))))
    (Ad (Bj (Ay Fe (pv 1) Ae (Be _))
    (Ad (Bk (Gh (VU R) (hr.mono Y) hW (pv 0) (Bz (pv 3)))))
    (Ad (Bk (Gh (AV R) (hr.mono Y) hW (pv 0) (Bz (Bu (Bz (Bl (Ai (pv 4) (Ai (pv 5) (Ai (pv 6) (Ca (pv 7) (pv 8))))))))))))))))))))))))))))) (G4 (K:=K) (i:=9) I I (R.z.nv R.ik) sc.nd I I (λe=>
    (Ad (Ar (As Gy (Re (Kv R) ((hr.mono Y).sup _) I (Bz (pv 9))) (Bl (Bz (E8 (K:=K) (pv 9) I))))))) (G4 (K:=K) (i:=9) I I (R.z.nv R.j6) sc.nd I I (λe=>
    (Ad (Ar (As Gy (Re (Kv R) ((hr.mono Y).sup _) I (Bz (pv 9))) (Bl (Bz (E8 (K:=K) (pv 9) I))))))) (G4 (K:=K) (i:=9) I I (R.z.nv R.qz) sc.nd I I (λe=>
    (Ad (Ar (Re (Kv R) ((hr.mono Y).sup _) I (Bz (pv 9)))))) RM))))
   (Ad (Ar (Bl (Bz Bo)))))),?_]
 rcases h with ⟨t,w,a,⟨v0,v1,v2,v3,v4,v5⟩,k,rfl,M,RW,ac,le,ln,q⟩|⟨t,w,a,z,e,rfl,M,ha,tk,le,ln,q⟩
 .let[hx,[S,t0],[v,u],[T2,t2],[T3,t3],[T4,t4],[T5,x],o2,o3,o4]:=RW
  refine Fc λN eN=>?_;refine[_,I,a,_,I,hx.imp Am.of Bh.of,I,_,_,I,_,_,I,_,_,I,_,_,I,_,_,I,_,_,I,I,?_];refine Gj eN #[oR t.R.r,oN w,oR a,g v0,g v1,g v2,g v3,g v4,g v5,U] rfl λN eN=>?_;let[T,L]:=M.hr;generalize eW:R8 K Bx 9 _ _ _=W;let hE:k=.entry->∀c,Ag H c->W #[oR t.R.r,oN w,oR a,g v0,g v1,g v2,g v3,g v4,g v5,U] (.ref Bi) U c:=λek c s'=>by
   subst eW ek;exact .skip _ I R.ke (.skip _ I R.m8 (.hit _ I R.ir λe he=>[_,I,e,.entry,I,Ab,λp H2 s2 np hp=>q p H2 (s'.trans ((Aa he _).trans s2)) hp]))
  let hU:k=.untold->W #[oR t.R.r,oN w,oR a,g v0,g v1,g v2,g v3,g v4,g v5,U] (.ref Bq) U H:=λek=>by
   subst eW ek;exact .skip _ I R.ki (.skip _ I R.mw (.hit _ I R.iu λe he=>[_,I,e,.untold,I,Ab,λp H2 s2 np hp=>q p H2 ((Aa he _).trans s2) hp]))
  let hT:∀n,k=.twice n->dY Bx "number" n H (W #[oR t.R.r,oN w,oR a,g v0,g v1,g v2,g v3,g v4,g v5,U]):=λn ek d c s' m=>by
   subst eW ek;exact .hit _ I R.px λe he=>[_,I,e,.twice n,I,[d,Ab,Hg m (Af m he)],λp H2 s2 np hp=>[_,I,e,Bx,d,_,_,I,s2 _ _ Ab,s2 _ _ (Hg m (Af m he)),R.ml,R.mh,I,a0,λt9 B=>[p,t9,_,_,I,I,Aa B _ _ _ hp,Ab,ab,λp3 H3 s3 h3=>q p3 H3 (s'.trans ((Aa he _).trans (s2.trans ((Aa B _).trans s3)))) h3]]]
  let hL:∀n,k=.late n->dY Ci "day" n H (W #[oR t.R.r,oN w,oR a,g v0,g v1,g v2,g v3,g v4,g v5,U]):=λn ek d c s' m=>by
   subst eW ek;exact .skip _ I R.rh (.hit _ I R.sq λe he=>[_,I,e,.late n,I,[d,Ab,Hg m (Af m he)],λp H2 s2 np hp=>[_,I,e,Ci,d,_,_,I,s2 _ _ Ab,s2 _ _ (Hg m (Af m he)),R.rf,R.r9,I,a0,λt9 B=>[p,t9,_,_,I,I,Aa B _ _ _ hp,Ab,ab,λp3 H3 s3 h3=>q p3 H3 (s'.trans ((Aa he _).trans (s2.trans ((Aa B _).trans s3)))) h3]]])
  clear eW q;rcases ac with h|h|h|⟨d,e,h⟩|⟨z,h,C,O⟩|⟨z,h,C,O⟩|⟨z,h,C,O,d,e,m⟩|⟨z,h,C,O,d,e,m⟩|⟨z,h,C,d,e,m⟩|⟨_,n,hw,h,h0,h1,O⟩|⟨_,n,hw,h,h0,h1,O⟩
  .exact[_,I,I,_,I,dT I [_,I,t.R.r,T,_,I,L,I,_,I,_,I,_,I,_,I,_,I,_,I,t.R,t.D,t.c,t.es,t.ns,t.os,t.zs,t.lf,t.fs,_,_,_,_,_,_,S,v,T2,T3,T4,T5,I,M,t0,u,t2,t3,t4,x,o2,o3,o4,le,ln,λ_=>hE I,λy j gy _=>(Yi h j gy).elim,λy j gy _=>(Yi h j gy).elim,λy j gy _=>(Yi h j gy).elim]]
  .exact[_,I,I,_,I,Gz Y [_,I,I,_,I,dT I [_,I,t.R.r,T,_,I,L,I,_,I,_,I,_,I,_,I,t.R,t.D,t.c,t.es,t.ns,t.os,t.zs,t.lf,t.fs,_,_,_,_,S,v,T2,T5,I,M,t0,u,t2,x,o2,le,ln,λ_=>hE I,λy j gy _=>(Xh h j gy).elim,λy j gy _=>(Xh h j gy).elim,λy j gy _=>(Xh h j gy).elim]]]
  .exact[_,I,I,_,I,Gz Y [_,I,I,_,I,Gz Y [_,I,I,_,I,dT I [_,I,t.R.r,T,_,I,L,I,_,I,.bad t.R t.D t.c t.es t.ns t.os t.zs t.lf t.fs _ v I M u h (hE I H (Ag.refl _))]]]]
  .exact[_,I,I,_,I,Gz Y [_,I,I,_,I,Gz Y [_,I,I,_,I,Gz Y [_,I,I,_,I,Gz Y [_,I,I,_,I,Gz Y [_,I,I,_,I,Gz Y [_,I,I,_,I,Gz Y [_,I,I,_,I,Gz Y [_,I,t.R.r,T,_,I,L,I,_,I,_,I,_,I,_,I,_,I,Ax (by show 5<=1000;decide),λt9 B=>[a0,λa9 X=>[t.R,t.D,t.c,t.es,t.ns,t.os,t.zs,t.lf,t.fs,a9,t9,d,_,_,_,_,_,v,T2,T3,T4,T5,I,M.same ((Aa B _).trans (Aa X _)),e,Ab,Aa X _ _ _ Ab,u.same ((Aa B _).trans (Aa X _)),t2.same ((Aa B _).trans (Aa X _)),t3.same ((Aa B _).trans (Aa X _)),t4.same ((Aa B _).trans (Aa X _)),x.same ((Aa B _).trans (Aa X _)),o2,o3,o4,λy=>(nomatch h.symm.trans y),λ_ c s'=>hE I c (((Aa B _).trans (Aa X _)).trans s')]]]]]]]]]]]
  .cases h
   exact[_,I,I,_,I,dT I [_,I,t.R.r,T,_,I,L,I,_,I,_,I,_,I,_,I,_,I,_,I,t.R,t.D,t.c,t.es,t.ns,t.os,t.zs,t.lf,t.fs,_,_,_,_,_,_,S,v,T2,T3,T4,T5,I,M,t0,u,t2,t3,t4,x,o2,o3,o4,le,ln,λy=>(nomatch (Kx C).symm.trans y),λy j _ _=>by obtain rfl:=Jj (z:=z) j;exact hT _ I,λy j _ r=>fA O (by obtain rfl:=Jj (z:=z) j;exact r),λy j _ r=>fA O (by obtain rfl:=Jj (z:=z) j;exact r)]]
  .cases h
   exact[_,I,I,_,I,Gz Y [_,I,I,_,I,dT I [_,I,t.R.r,T,_,I,L,I,_,I,_,I,_,I,_,I,t.R,t.D,t.c,t.es,t.ns,t.os,t.zs,t.lf,t.fs,_,_,_,_,S,v,T2,T5,I,M,t0,u,t2,x,o2,le,ln,λy=>(nomatch (Pb C).symm.trans y),λy j _ _=>by obtain rfl:=Kt (z:=z.bf) j;exact hT _ I,λy j _ r=>fA O (by obtain rfl:=Kt (z:=z.bf) j;exact r),λy j _ r=>fA O (by obtain rfl:=Kt (z:=z.bf) j;exact r)]]]
  .cases h
   exact[_,I,I,_,I,dT I [_,I,t.R.r,T,_,I,L,I,_,I,_,I,_,I,_,I,_,I,_,I,t.R,t.D,t.c,t.es,t.ns,t.os,t.zs,t.lf,t.fs,_,_,_,_,_,_,S,v,T2,T3,T4,T5,I,M,t0,u,t2,t3,t4,x,o2,o3,o4,le,ln,λy=>(nomatch (Kx C).symm.trans y),λy j _ r=>fA r (by obtain rfl:=Jj (z:=z) j;exact O),λy j _ _ d' e' _=>by rw[e]at e';cases e';exact hL _ I,λy j _ _ ay=>by obtain rfl:=Jj (z:=z) j;let:=ay d e;exfalso;lia]]
  .cases h
   exact[_,I,I,_,I,Gz Y [_,I,I,_,I,dT I [_,I,t.R.r,T,_,I,L,I,_,I,_,I,_,I,_,I,t.R,t.D,t.c,t.es,t.ns,t.os,t.zs,t.lf,t.fs,_,_,_,_,S,v,T2,T5,I,M,t0,u,t2,x,o2,le,ln,λy=>(nomatch (Pb C).symm.trans y),λy j _ r=>fA r (by obtain rfl:=Kt (z:=z.bf) j;exact O),λy j _ _ d' e' _=>by rw[e]at e';cases e';exact hL _ I,λy j _ _ ay=>by obtain rfl:=Kt (z:=z.bf) j;let:d<z.d:=ay d e;exfalso;lia]]]
  .cases h
   exact[_,I,I,_,I,Gz Y [_,I,I,_,I,Gz Y [_,I,I,_,I,Gz Y [_,I,I,_,I,Gz Y [_,I,I,_,I,Gz Y [_,I,I,_,I,Gz Y [_,I,I,_,I,Gz Y [_,I,I,_,I,Gz Y [_,I,t.R.r,T,_,I,L,I,_,I,_,I,_,I,_,I,_,I,Ax (by show 5<=1000;decide),λt9 B=>[a0,λa9 X=>[t.R,t.D,t.c,t.es,t.ns,t.os,t.zs,t.lf,t.fs,a9,t9,d,_,_,_,_,_,v,T2,T3,T4,T5,I,M.same ((Aa B _).trans (Aa X _)),e,Ab,Aa X _ _ _ Ab,u.same ((Aa B _).trans (Aa X _)),t2.same ((Aa B _).trans (Aa X _)),t3.same ((Aa B _).trans (Aa X _)),t4.same ((Aa B _).trans (Aa X _)),x.same ((Aa B _).trans (Aa X _)),o2,o3,o4,λ_=>[_,I,m,(hL _ I).same ((Aa B _).trans (Aa X _))],λy=>(nomatch (AJ C).symm.trans y)]]]]]]]]]]]
  .obtain rfl:v0=.int n:=h
   rcases hw with rfl|rfl|rfl
   .exact[_,I,I,_,I,Gz Y [_,I,I,_,I,Gz Y [_,I,I,_,I,Gz Y [_,I,I,_,I,dT I [_,I,t.R.r,T,_,I,L,I,_,I,t.R,t.D,t.c,t.es,t.ns,t.os,t.zs,t.lf,t.fs,n,I,M,h0,h1,O,hU I]]]]]
   .exact[_,I,I,_,I,Gz Y [_,I,I,_,I,Gz Y [_,I,I,_,I,Gz Y [_,I,I,_,I,Gz Y [_,I,I,_,I,dT I [_,I,t.R.r,T,_,I,L,I,_,I,t.R,t.D,t.c,t.es,t.ns,t.os,t.zs,t.lf,t.fs,n,I,M,h0,h1,O,hU I]]]]]]
   .exact[_,I,I,_,I,Gz Y [_,I,I,_,I,Gz Y [_,I,I,_,I,Gz Y [_,I,I,_,I,Gz Y [_,I,I,_,I,Gz Y [_,I,I,_,I,dT I [_,I,t.R.r,T,_,I,L,I,_,I,t.R,t.D,t.c,t.es,t.ns,t.os,t.zs,t.lf,t.fs,n,_,_,I,M,h0,h1,O,hU I]]]]]]]
  .obtain rfl:v0=.int n:=h
   rcases hw with rfl|rfl
   .exact[_,I,I,_,I,Gz Y [_,I,I,_,I,Gz Y [_,I,I,_,I,Gz Y [_,I,I,_,I,Gz Y [_,I,I,_,I,Gz Y [_,I,I,_,I,Gz Y [_,I,I,_,I,dT I [_,I,t.R.r,T,_,I,L,I,_,I,t.R,t.D,t.c,t.es,t.ns,t.os,t.zs,t.lf,t.fs,n,I,M,h0,h1,O,hU I]]]]]]]]
   .exact[_,I,I,_,I,Gz Y [_,I,I,_,I,Gz Y [_,I,I,_,I,Gz Y [_,I,I,_,I,Gz Y [_,I,I,_,I,Gz Y [_,I,I,_,I,Gz Y [_,I,I,_,I,Gz Y [_,I,I,_,I,dT I [_,I,t.R.r,T,_,I,L,I,_,I,t.R,t.D,t.c,t.es,t.ns,t.os,t.zs,t.lf,t.fs,n,I,M,h0,h1,O,hU I]]]]]]]]]
 .let[T,L]:=M.hr
  refine Fc λN eN=>?_;refine[_,I,a,_,I,.inr (Bh.of ha),I,_,_,I,_,_,I,_,_,I,_,_,I,_,_,I,_,_,I,I,?_];refine Gj eN #[oR t.R.r,oN w,oR a,oN z.n,oN z.d,oS z.ev,oS z.th,oS z.ca,oN z.ct,U] rfl λN eN=>?_;generalize R8 K Bx 9 _ _ _=W;let aa:∀l c,(∀b o,H b=g o->¬t.D b->c b=g o)->N4 Ah Aw Bc TT c (t.put l e z.n)->N #[oR t.R.r,oN w,oR a,oN z.n,oN z.d,oS z.ev,oS z.th,oS z.ca,oN z.ct,U] c:=λl c k RB=>by
   subst eN;exact[a0,λp np=>q l p _ (λb o e nd=>Aa np _ _ _ (k b o e nd)) (RB.same (Aa np _)) Ab]
  clear q eN;rcases tk with ⟨C,O,ay⟩|⟨C,O,ay⟩
  .have RW:=Kk (K:=K) ha C
   let[_,[S,t0],[v,u],[T2,t2],[T3,t3],[T4,t4],[T5,x],o2,o3,o4]:=RW;exact[_,I,I,_,I,dT I [_,I,t.R.r,T,_,I,L,I,_,I,_,I,_,I,_,I,_,I,_,I,t.R,t.D,t.c,t.es,t.ns,t.os,t.zs,t.lf,t.fs,_,_,_,_,_,_,S,v,T2,T3,T4,T5,I,M,t0,u,t2,t3,t4,x,o2,o3,o4,le,ln,λy=>(nomatch (Kx C).symm.trans y),λy j _ r=>fA r (by obtain rfl:=Jj (z:=z) j;exact O),λy j _ _ d' e' h'=>by obtain rfl:=Jj (z:=z) j;let:=ay d' e';exfalso;lia,λy j _ _ _ l c k RB=>by obtain rfl:=Jj (z:=z) j;exact aa l c k RB]]
  .have RW:=Kk (K:=K) ha C
   let[_,[S,t0],[v,u],[T2,t2],_,_,[T5,x],o2,_,_]:=RW;exact[_,I,I,_,I,Gz Y [_,I,I,_,I,dT I [_,I,t.R.r,T,_,I,L,I,_,I,_,I,_,I,_,I,t.R,t.D,t.c,t.es,t.ns,t.os,t.zs,t.lf,t.fs,_,_,_,_,S,v,T2,T5,I,M,t0,u,t2,x,o2,le,ln,λy=>(nomatch (Pb C).symm.trans y),λy j _ r=>fA r (by obtain rfl:=Kt (z:=z.bf) j;exact O),λy j _ _ d' e' h'=>by obtain rfl:=Kt (z:=z.bf) j;let:d'<z.d:=ay d' e';let ad:z.d<=d':=h';exfalso;lia,λy j _ _ _ l c k RB=>by obtain rfl:=Kt (z:=z.bf) j;exact aa l c k RB]]]
def Ug(B:Pm P w K mg base):Jc B 12 "_law_refusal" #["_law_ledger","_law_way","_law_row"] (MQ K Ah Aw Bc TT):=(SM B.z B.kn bd).cal λf C F=>Qf B F
end
def eC.same{K:a'}{H H':Hp}{a:J}{r:R6}(h:eC K H a r)(s:Ag H H'):eC K H' a r:=
 [h.h.imp (s _ _) (s _ _),h.t0.imp λx y=>y.same s,h.t1.imp λx y=>y.same s,h.t2.imp λx y=>y.same s,h.t3.imp λx y=>y.same s,h.t4.imp λx y=>y.same s,h.t5.imp λx y=>y.same s,h.o2,h.o3,h.o4]
def TC{K:a'}{p:J}{k:eU}(h:H p=oT #[.str k]):Ng K H (.seq eP #[.at (.str k)]) (.ref p):=by
 unfold Ng;refine[p,_,I,λx=>Bh.of h,(λe=>by cases e),?_];unfold Reps;refine[_,_,I,by unfold Ng;exact[I,I],?_];unfold Reps;rfl
def SY{K:a'}{p:J}{k:eU}{n:Int}(h:H p=oT #[.str k,.int n]):Ng K H (.seq eP #[.at (.str k),.at (.int n)]) (.ref p):=by
 unfold Ng;refine[p,_,I,λx=>Bh.of h,(λe=>by cases e),?_];unfold Reps;refine[_,_,I,by unfold Ng;exact[I,I],?_];unfold Reps;refine[_,_,I,by unfold Ng;exact[I,I],?_];unfold Reps;rfl
def bM(k:eU):eqDs #[.at (.str k)] #[.at (.str k)]=eP:=by
 show(k==k&&eP)=_;rw[gV];rfl
def bZ(k:eU)(n:Int):eqDs #[.at (.str k),.at (.int n)] #[.at (.str k),.at (.int n)]=eP:=by
 show(k==k&&(n==n&&eP))=_;rw[gV,gV];rfl
def Rs(l:List V):Prop:=∃x:eU,l=#[.str x]\/∃n:Int,l=#[.str x,.int n]
def Kd.form(k:Kd):Rs k.rs:=by
 cases k with
 |entry=>exact[_,.inl I]
 |twice n=>exact[_,.inr [_,I]]
 |late n=>exact[_,.inr [_,I]]
 |untold=>exact[_,.inl I]
inductive YJ(K:a')(CG CN CD T:J)(vs:List V)(H:Hp)(Q:VK)(E:XK):Prop
 |no (s:dL) (w:Int) (a u:J) (r:R6) (k:Kd) (z0:vs=#[.ref s.R.r,.int w,.ref a,.ref u]) (z1:N4 CG CN CD T H s) (z2:eC K H a r) (z3:Kr s r w k) (z4:s.es.length<=500) (z5:s.ns.length<=500) (zu:H u=oT k.rs) (zq:∀H',Ag H H'->Q (.bl eP) H')
 |tk (s:dL) (w:Int) (a u:J) (z:LF) (e:dM) (z0:vs=#[.ref s.R.r,.int w,.ref a,.ref u]) (z1:N4 CG CN CD T H s) (z2:H a=oT z.vs) (z3:WR s z w e) (z4:s.es.length<=500) (z5:s.ns.length<=500) (zu:H u=oT #[.str "taken"]) (zq:∀l H',(∀b o,H b=g o->¬s.D b->H' b=g o)->N4 CG CN CD T H' (s.put l e z.n)->Q (.bl eP) H')
section
seal L2.PS L2.PSs L2.PE L2.PA
variable {P:eY} {w:fF} {K:a'} {mg:eU->Option eJ} {base:fK}
def Dw(O:Pm P w K mg base):Jc O 13 "_law_is" #["_law_ledger","_law_way","_law_row","_law_due"] (YJ K Ah Aw Bc TT):=Iw O.z O.ub #["_law_ledger","_law_way","_law_row","_law_due","_law_found"] (dg λvs H Q E h=>by
  rcases h with ⟨_,_,_,_,_,_,rfl,_⟩ | ⟨_,_,_,_,_,_,rfl,_⟩<;>rfl) λi H Q W h=>by
 let F:=Wp W;refine[_,(Ac (Dp i 4 (Do (Ug O) W (Ai (pv 0) (Ca (pv 1) (pv 2)))))
   (Ac (Bj (Ay (K4 (K:=K) F) (pv 4) (pv 3) (Be _))
    (Ad (Ar Da))
    At)
   (Ad (Ar (NJ (Gw Fe (Cw (Dr (K:=K) I) I (O.z.nn O.ax) (show fz _=g (.builtin "len") from rfl) (Bz (pv 4))) Ae (Be _)) (Ho (Do (Ze O) W (Bz (Ej K (pv 4) Ae))))))))),?_]
 refine Fc λN L=>?_;let b:∀(x y z:V) (u p:J) (l:List V) (R:Hp),Rs l->R p=oT l->R u=oT l->Q (.bl eP) R->N #[g x,g y,g z,oR u,oR p] R:=λx y z u p l R d T j q=>by
  refine Iu L λN L=>?_;obtain⟨k,rfl|⟨n,rfl⟩⟩:=d
  .refine[_,I,_,I,eP,_,_,TC T,TC j,(by show 0+0<=40;decide),_,I,?_]
   rw[bM];refine Cg ?_;subst L;exact[_,I,p,_,I,.inr (Bh.of T),I,_,I,En q]
  .refine[_,I,_,I,eP,_,_,SY T,SY j,(by show 0+0<=40;decide),_,I,?_]
   rw[bZ];refine Cg ?_;subst L;exact[_,I,p,_,I,.inr (Bh.of T),I,_,I,Cg [_,I,_,_,_,_,I,I,Bh.of T,I,_,_,I,.int n,q]]
 rcases h with ⟨t,w,a,u,r,k,rfl,S,s,C,B,M,j,q⟩|⟨t,w,a,u,z,e,rfl,S,f,c,B,M,j,q⟩
 .exact[_,I,_,I,_,I,.no t w a r k I S s C B M λp R A T=>b _ _ _ u p _ R k.form T (A _ _ j) (q R A)]
 .refine[_,I,_,I,_,I,.tk t w a z e I S f c B M λl p R X v T=>b _ _ _ u p _ R [_,.inl I] T (X _ _ j λy=>?_) (q l R X v)]
  let[_,o,e,m]:=S.al u y;rw[j]at e;cases e;exact m
end
def LF.bad(z:LF):Nat->V->R6
 |0,x=>[x,.int z.d,.str z.ev,.str z.th,.str z.ca,.int z.ct]
 |1,x=>[.int z.n,x,.str z.ev,.str z.th,.str z.ca,.int z.ct]
 |2,x=>[.int z.n,.int z.d,x,.str z.th,.str z.ca,.int z.ct]
 |3,x=>[.int z.n,.int z.d,.str z.ev,x,.str z.ca,.int z.ct]
 |4,x=>[.int z.n,.int z.d,.str z.ev,.str z.th,x,.int z.ct]
 |_,x=>[.int z.n,.int z.d,.str z.ev,.str z.th,.str z.ca,x]
def SD:Nat->V->Bool
 |0=>Hr 1000000000
 |1=>Hr 1000000
 |2=>Er
 |3=>nameV
 |4=>nameV
 |_=>λx=>Hr 999999999999 x&&Tt x
def F3:Nat->Int
 |0=>1000000000
 |1=>1000000
 |_=>999999999999
def XT{p:Nat}(h:p<=5):p=0\/p=1\/p=2\/p=3\/p=4\/p=5:=by lia
def Nc{s:dL}{z:LF}{p:Nat}{x:V}{w:Int}(B:p<=5)(h:SD p x=eM)(L:w=0\/(w=1/\p≠3/\p≠4)\/(w=2/\p=1)\/(w=8/\1<=p/\∃d,s.c=g d)):Kr s (z.bad p x) w .entry:=by
 rcases L with rfl|⟨rfl,F,j⟩|⟨rfl,rfl⟩|⟨rfl,C,d,e⟩
 .refine .e0 ?_
  rcases XT B with rfl|rfl|rfl|rfl|rfl|rfl<;>(unfold Dd;simp only[LF.bad];first|rw[show Hr 1000000000 x=eM from h]|rw[show Hr 1000000 x=eM from h,mr]|rw[show Er x=eM from h,mr]|rw[show nameV x=eM from h,mr]|rw[qQ,show(Hr 999999999999 x&&Tt x)=eM from h,mr])<;>rfl
 .refine .e1 ?_
  rcases XT B with rfl|rfl|rfl|rfl|rfl|rfl
  .unfold Fl;simp only[LF.bad];rw[show Hr 1000000000 x=eM from h];rfl
  .unfold Fl;simp only[LF.bad];rw[show Hr 1000000 x=eM from h,mr];rfl
  .unfold Fl;simp only[LF.bad];rw[show Er x=eM from h,mr];rfl
  .exact fA I F
  .exact fA I j
  .unfold Fl;simp only[LF.bad];rw[qQ,show(Hr 999999999999 x&&Tt x)=eM from h,mr]
 .exact .e2 h
 .refine .e8 d e ?_
  rcases XT B with rfl|rfl|rfl|rfl|rfl|rfl
  .lia
  .unfold Dd;simp only[LF.bad];rw[show Hr 1000000 x=eM from h,mr];rfl
  .unfold Dd;simp only[LF.bad];rw[show Er x=eM from h,mr];rfl
  .unfold Dd;simp only[LF.bad];rw[show nameV x=eM from h,mr];rfl
  .unfold Dd;simp only[LF.bad];rw[show nameV x=eM from h,mr];rfl
  .unfold Dd;simp only[LF.bad];rw[qQ,show(Hr 999999999999 x&&Tt x)=eM from h,mr]
structure Ol(K:a')(H:Hp)(p:Nat)(x:V):Prop where
 ty:∃T,TyOf K H x (.type T)
 ok:2<=p->p<=4->okX x
 no:SD p x=eM
def OV{K:a'}{b:J}{z:LF}{p:Nat}{x:V}(h:H b=oL (z.vs.set p x))(O:p<=5)(C:Dj z)(B:Ol K H p x):eC K H b (z.bad p x):=by
 let[M,N,_]:=B;let F:okX (.str z.ev):=λy e=>by cases e;exact C.2.2.1.2
 let j:okX (.str z.th):=λy e=>by cases e;let:=C.2.2.2.1.1.2;rw[hH]at this;show z.th.cps.size<=900;lia
 let L:okX (.str z.ca):=λy e=>by cases e;let:=C.2.2.2.2.1.1.2;rw[hH]at this;show z.ca.cps.size<=900;lia
 rcases XT O with rfl|rfl|rfl|rfl|rfl|rfl
 .exact[.inl h,M,[_,.int _],[_,.str _],[_,.str _],[_,.str _],[_,.int _],F,j,L]
 .exact[.inl h,[_,.int _],M,[_,.str _],[_,.str _],[_,.str _],[_,.int _],F,j,L]
 .exact[.inl h,[_,.int _],[_,.int _],M,[_,.str _],[_,.str _],[_,.int _],N Y Y,j,L]
 .exact[.inl h,[_,.int _],[_,.int _],[_,.str _],M,[_,.str _],[_,.int _],F,N Y Y,L]
 .exact[.inl h,[_,.int _],[_,.int _],[_,.str _],[_,.str _],M,[_,.int _],F,j,N Y Y]
 .exact[.inl h,[_,.int _],[_,.int _],[_,.str _],[_,.str _],[_,.str _],M,F,j,L]
def Jx{K:a'}{p:Nat}{x:V}{xs:List V}(h:Ol K H p x)(r:∀x∈xs,Ol K H p x):∀y∈x::xs,Ol K H p y:=by
 rw[uC];exact[h,r]
section
variable {K:a'} {H:Hp} {p:Nat}
def Yd{i:Int}(B:p=0\/p=1\/p=5)(h:i<0\/F3 p<i):Ol K H p (.int i):=by
 refine[[_,.int _],λx x x e=>(by cases e),?_];rcases B with rfl|rfl|rfl
 .exact eZ (by unfold F3 at h;lia)
 .exact eZ (by unfold F3 at h;lia)
 .show (_&&_)=eM
  rw[show Hr 999999999999 (.int i)=eM from eZ (by unfold F3 at h;lia)];rfl
def Nr{x:V}(C:p=0\/p=1\/p=5)(B:∃T,TyOf K H x (.type T))(h:∀i,x≠.int i):Ol K H p x:=by
 refine[B,λa b=>Z,?_];cases x<;>first|exact fA I (h _)|(rcases C with rfl|rfl|rfl<;>rfl)
def Je{z:eU}(C:p=2\/p=3\/p=4)(l:z.length<=900)(B:Er (.str z)=eM)(j:nameV (.str z)=eM):Ol K H p (.str z):=by
 refine[[_,.str _],λx x x e=>(by cases e;exact l),?_];rcases C with rfl|rfl|rfl
 .exact B
 .exact j
 .exact j
def O3{x:V}(C:p=2\/p=3\/p=4)(B:∃T,TyOf K H x (.type T))(h:∀i,x≠.str i):Ol K H p x:=by
 refine[B,λz z y e=>fA e (h y),?_];cases x<;>first|exact fA I (h _)|(rcases C with rfl|rfl|rfl<;>rfl)
end
def Wt{l:List Nat}(h:Fx l):46∉l:=λy=>by
 let:=h.2 46 y;unfold Hx at this
 lia
def FX:¬Fx []:=λy=>fA y.1.1 Y
def V3:(fM ".").cps.toList=#[46]:=by ac_nf
def IT{y:eU}(h:nameV (.str y)=eP):(Er (.str (y++"."))=eM/\nameV (.str (y++"."))=eM/\(y++(".":eU)).length<=900)/\Er (.str ("."++y))=eM/\nameV (.str ("."++y))=eM/\((".":eU)++y).length<=900:=by
 let n:Fx y.cps.toList:=fE h;let d:=Wt n;let j:(y++(".":eU)).cps.toList=y.cps.toList++#[46]:=by
  show(y.cps++(fM ".").cps).toList=_;rw[uE,V3]
 let L:((".":eU)++y).cps.toList=46::y.cps.toList:=by
  show((fM ".").cps++y.cps).toList=_;rw[uE,V3];rfl
 let S:Dg 46 (y.cps.toList++#[46])=#[y.cps.toList,[]]:=Ow [] d;let C:Dg 46 (46::y.cps.toList)=[]::Dg 46 y.cps.toList:=by rw[Dg,eR I]
 let B:=n.1.2;refine[[eZ λz=>?_,eZ λz=>?_,?_],eZ λz=>?_,eZ λz=>?_,?_]
 .have F:Hd (y.cps.toList++#[46]):=by rw[<- j];exact z
  exact FX (F.2 [] (by rw[S];simp))
 .exact Wt z (by show 46∈(y++(".":eU)).cps.toList;rw[j];simp)
 .show (y++(".":eU)).cps.size<=900
  rw[<- hH,j,fy];show _+1<=900
  lia
 .have F:Hd (46::y.cps.toList):=by rw[<- L];exact z
  exact FX (F.2 [] (by rw[C];simp))
 .exact Wt z (by show 46∈((".":eU)++y).cps.toList;rw[L];simp)
 .show ((".":eU)++y).cps.size<=900
  rw[<- hH,L,c_]
  lia
inductive TD(K:a')(vs:List V)(H:Hp)(Q:VK)(E:XK):Prop
 |mk (a:J) (z:LF) (p:Nat) (n:Int) (z0:vs=#[.ref a,.int p,.int n]) (z1:H a=oT z.vs) (z2:Dj z) (z3:nameV (.str z.ev)=eP) (z4:p<=5) (z5:0<=n) (zq:∀b x H',Ag H H'->eC K H' b (z.bad p x)->SD p x=eM->Q (.ref b) H')
def PD(z:LF):Nat->eU
 |2=>z.ev
 |3=>z.th
 |_=>z.ca
section
seal L2.PS L2.PSs L2.PE L2.PA
variable {P:eY} {w:fF} {K:a'} {mg:eU->Option eJ} {base:fK}
def Il(C:Pm P w K mg base):Jc C 1 "_law_bad" #["_law_row","_law_place","_law_number"] (TD K):=Iw C.z C.t8 #["_law_row","_law_place","_law_number","_law_most","_law_some","_law_bad_here"] df λsc H Q hr h=>by
 let[a,z,p,n,rfl,ha,B,a8,hp,hn,q]:=h;refine[_,(Ac (Dp sc 3 (Nv K (Bu (Ai (As Hj Ae Ae) (Ai (As Hj Ae Ae) (Ai Ae (Ai Ae (Ca Ae (As Fi (As Hj Ae Ae) Ae))))))) (pv 1)))
   (Ac (Bj (Ay Vf (pv 1) (Bu (Ai Ae (Ca Ae Ae))) I)
    (Ad (Dp sc 4 (Bu (Ai (As Fi (Sw Ls Ae) (pv 2)) (Ai (As Co (pv 3) Ae) (Ai Fh (Ai Da (Ai (Em Wz I (C.z.nn C.gr) (show fz _=g (.type "str") from rfl) (Bz (pv 3))) (Ai (Bu (Bz Ae)) (Ca (As Co (As Co (pv 3) Ae) (pv 2)) Da))))))))))
    (Ad (Dp sc 4 (Bu (Ai Bo (Ai Bo (Ai Bo (Ai Fh (Ai Ae (Ai Bo (Ai (As Hn (Ej K (pv 0) (pv 1)) Bo) (Ai (As Hn Bo (Ej K (pv 0) (pv 1))) (Ca (Bu (Bz Bo)) Bo)))))))))))))
   (Ac (Bj (Ay Fe (pv 1) Ae (Be _))
    (Ad (Bk (Ed (K:=K) I fG gA fZ Dq (pv 4) (Bz Ae))))
    At)
   (Ac (Dp sc 5 (Em (Di (K:=K) I) I (C.z.nn C.bn) (show fz _=g (.type "list") from rfl) (Bz (pv 0))))
   (Ac (Xu (Nv K (pv 4) (As De (pv 2) (Cw (Dr (K:=K) I) I (C.z.nn C.ax) (show fz _=g (.builtin "len") from rfl) (Bz (pv 4))))) (DR (pv 5) (pv 1) E2))
   (Ad (Ar (pv 5)))))))),?_]
 let a2:1<=sizeLine:=Ax (by show 1<=1000;decide);let m:3<=sizeLine:=Ax (by show 3<=1000;decide);let a4:6<=sizeLine:=Ax (by show 6<=1000;decide);let s:8<=sizeLine:=Ax (by show 8<=1000;decide);let a9:10<=sizeLine:=Ax (by show 10<=1000;decide);refine Fc λN l=>?_;obtain⟨L,a1,a5⟩:∃L,Wv #[V.int ((10:Int)^(9:Int).toNat),.int ((10:Int)^(6:Int).toNat),.int 0,.int 0,.int 0,.int ((10:Int)^(12:Int).toNat-1)] (p:Int)=g (.int L)/\(p=0\/p=1\/p=5->L=F3 p):=by
  rw[e9,e6,e12];rcases XT hp with rfl|rfl|rfl|rfl|rfl|rfl
  .exact[_,I,λ_=>I]
  .exact[_,I,λ_=>I]
  .exact[_,I,λy=>Z]
  .exact[_,I,λy=>Z]
  .exact[_,I,λy=>Z]
  .exact[_,I,λ_=>I]
 refine[_,_,I,I,[Y,Y,Y],_,_,I,I,[Y,Y,Y],_,_,I,I,[Y,Y,Y],_,_,I,I,a4,λl1 n1=>[_,I,l1,_,_,_,I,I,Am.of Ab,a1,?_]];let s1:=Aa n1 (.lst #[V.int ((10:Int)^(9:Int).toNat),.int ((10:Int)^(6:Int).toNat),.int 0,.int 0,.int 0,.int ((10:Int)^(12:Int).toNat-1)]);generalize upd H l1 (.lst #[V.int ((10:Int)^(9:Int).toNat),.int ((10:Int)^(6:Int).toNat),.int 0,.int 0,.int 0,.int ((10:Int)^(12:Int).toNat-1)])=H1 at s1;clear a1 n1;refine Gj l #[oR a,oN p,oN n,oN L,U,U] rfl λN l=>?_;let go:∀E r W,Ag H W->W E=oL r->H E=U->0<r.length->r.length<=10->(∀x∈r,Ol K W p x)->(∀M,p=5->(∀b o,W b=g o->b≠E->M b=g o)->∀x∈r,Ol K M p x)->N #[oR a,oN p,oN n,oN L,oR E,U] W:=λE r W t hs fs l0 l1 i a0=>by
  refine Iu l λN l=>?_;let a3:∀X M,Ag H M->M E=oL X->0<X.length->(∀x∈X,Ol K M p x)->N #[oR a,oN p,oN n,oN L,oR E,U] M:=λX M f hs l0 i=>by
   refine Iu l λN l=>?_;let b0:=f _ _ ha;refine[_,I,a,_,I,.inr (Bh.of b0),λb nb=>?_];refine Gj l #[oR a,oN p,oN n,oN L,oR E,oR b] rfl λN l=>?_;let s4:=Aa nb (.lst z.vs);let hb:upd M b (.lst z.vs) b=oL z.vs:=Ab;generalize upd M b (.lst z.vs)=H4 at s4 hb;let ix:=md (a:=n) (b:=(X.length:Int)) Z;obtain⟨x,ex⟩:∃x,Wv X (n%(X.length:Int))=g x:=by
    obtain⟨x,e⟩:∃x,X[(n%(X.length:Int)).toNat]?=g x:=[_,hD Z];let e2:((n%(X.length:Int)).toNat:Int)=n%(X.length:Int):=by lia
    exact[x,by rw[<- e2];exact Lh e]
   let a6:x∈X:=by
    let[j,_,h,_]:=Qi ex;exact kS h
   let S:=Am.of (K:=K) (s4 _ _ hs);refine[_,I,_,I,_,I,E,_,I,.inl S,_,_,I,I,Z,E,_,_,x,I,I,S,ex,_,I,_,I,b,_,(p:Int),p,I,I,hb,?_,?_]
   .show GB 6 (p:Int)=g p
    unfold GB;rw[eR Z,eR Z];rfl
   .subst l
    let[[Tx,ty],a7,no]:=i x a6;let s5:Ag M (upd H4 b (.lst (z.vs.set p x))):=λc o e=>by rw[Aj (Af e nb)];exact s4 _ _ e
    exact[_,I,q b x _ (f.trans s5) (OV Ab hp B [[Tx,ty.same s5],a7,no]) no]
  refine[_,I,I,_,I,?_];by_cases R:p=5
  .subst R
   refine dT I [_,I,.inl [I,_,Am.of hs],E,_,_,I,I,hs,by rw[ck];lia,?_];refine a3 (r++#[.int 0]) _ (λc o e=>by rw[Aj (Af e fs)];exact t _ _ e) Ab (by rw[fy];lia) λx hx=>?_;rcases gw.mp hx with h|h
   .exact a0 _ I (λb o e ne=>by rw[Aj ne];exact e) x h
   .rw[d_.mp h]
    exact[[_,.int _],λ_ _ _ e=>(by cases e),I]
  .exact Gz Z (a3 r W t hs l0 i)
 refine[_,I,m,λl2 n2=>[l2,_,I,.inl (Am.of Ab),I,I,_,I,?_]];let t:=s1.trans (Aa n2 (.lst #[V.int 0,.int 1,.int 5]));generalize upd H1 l2 (.lst #[V.int 0,.int 1,.int 5])=W at t;clear s1 n2;by_cases F:p=0\/p=1\/p=5
 .have mm:=a5 F
  let m0:0<=L/\L<=1000000000*1000:=by
   rw[mm];rcases F with rfl|rfl|rfl<;>decide
  refine bT (by rcases F with rfl|rfl|rfl<;>rfl) ?_;refine[_,I,_,I,_,_,I,I,_,I,_,_,I,I,_,I,L,I,?_,a2,λO n3=>?_]
  .by_cases y:L.natAbs=0
   .rw[y];decide
   .exact(Nat.log2_lt y).mpr (k_ (show L.natAbs<2^50 by lia) (Nat.pow_le_pow_right Y Y))
  refine[_,I,_,_,I,I,_,I,_,_,I,I,s,λl4 d=>?_];let A:∀H5,H5 O=oL #[V.int 1]->∀x∈#[V.int (-1-n),V.int (L+1),V.non,V.bl eP,V.str (toString L),V.ref O,V.int (L+2+n),V.bl eM],Ol K H5 p x:=λH5 R=>Jx (Yd F (.inl Z)) (Jx (Yd F (.inr (by rw[<- mm];lia))) (Jx (Nr F [_,.non] (λ_ e=>by cases e)) (Jx (Nr F [_,.bl _] (λ_ e=>by cases e)) (Jx (Nr F [_,.str _] (λ_ e=>by cases e)) (Jx (Nr F [_,.lst R] (λ_ e=>by cases e)) (Jx (Yd F (.inr (by rw[<- mm];lia))) (Jx (Nr F [_,.bl _] (λ_ e=>by cases e)) (λ_ h=>nomatch h))))))));let f:=t.trans (Aa n3 (.lst #[V.int 1]));let R:upd W O (.lst #[V.int 1]) O=oL #[V.int 1]:=Ab;generalize upd W O (.lst #[V.int 1])=M at f R d;let h6:=Aa d (.lst #[V.int (-1-n),V.int (L+1),V.non,V.bl eP,V.str (toString L),V.ref O,V.int (L+2+n),V.bl eM]) _ _ R;exact go l4 _ _ (f.trans (Aa d _)) Ab (f.free d) (by show 0<8;decide) (by show 8<=10;decide) (A _ h6) λH7 _ k=>A _ (k _ _ h6 (Af R d))
 .have T:p=2\/p=3\/p=4:=by lia
  refine bF (by rcases T with rfl|rfl|rfl<;>rfl) ?_;obtain⟨v,u⟩:Wv z.vs (p:Int)=g (.str (PD z p))/\nameV (.str (PD z p))=eP:=by
   rcases T with rfl|rfl|rfl
   .exact[I,a8]
   .exact[I,eT B.2.2.2.1]
   .exact[I,eT B.2.2.2.2.1]
  generalize PD z p=y at v u;let[[d1,d2,d3],d4,d5,d6]:=IT u;let S:=Bh.of (K:=K) (t _ _ ha);let l8:y.length<=8:=by
   let n:Fx y.cps.toList:=fE u;let:=n.1.2;rw[hH]at this;exact this
  let ld:(fM ".").length=1:=by ac_nf
  refine[_,I,_,I,a,_,_,_,I,I,S,v,_,_,I,I,by rw[ld,ck];lia,_,I,_,I,a,_,_,_,I,I,S,v,_,_,I,I,by rw[ld,ck];lia,a2,λO n3=>?_];refine[a9,λl4 d=>?_];let A:∀H5,H5 O=oL #[V.str "a"]->∀x∈#[V.str "",V.str "A",V.str "abcdefghi",V.non,V.int 7,V.str "a b",V.str (y++"."),V.str ("."++y),V.ref O,V.str "a1"],Ol K H5 p x:=λH5 R=>Jx (Je T Y G G) (Jx (Je T Y G G) (Jx (Je T Y G G) (Jx (O3 T [_,.non] (λ_ e=>by cases e)) (Jx (O3 T [_,.int _] (λ_ e=>by cases e)) (Jx (Je T Y G G) (Jx (Je T d3 d1 d2) (Jx (Je T d6 d4 d5) (Jx (O3 T [_,.lst R] (λ_ e=>by cases e)) (Jx (Je T Y G G) (λ_ h=>nomatch h))))))))));let f:=t.trans (Aa n3 (.lst #[V.str "a"]));let R:upd W O (.lst #[V.str "a"]) O=oL #[V.str "a"]:=Ab;generalize upd W O (.lst #[V.str "a"])=M at f R d;let h6:=Aa d (.lst #[V.str "",V.str "A",V.str "abcdefghi",V.non,V.int 7,V.str "a b",V.str (y++"."),V.str ("."++y),V.ref O,V.str "a1"]) _ _ R;exact go l4 _ _ (f.trans (Aa d _)) Ab (f.free d) (by show 0<10;decide) (by show 10<=10;decide) (A _ h6) λH7 _ k=>A _ (k _ _ h6 (Af R d))
end
inductive ZO(K:a')(CG CN CD T:J)(vs:List V)(H:Hp)(Q:VK)(E:XK):Prop
 |mk (s:dL) (a sc:J) (at':Int) (z:LF) (ns:List Int) (z0:vs=#[.ref s.R.r,.ref sc,.int at',.ref a]) (z1:N4 CG CN CD T H s) (z2:H a=oT z.vs) (z3:Dj z) (z4:nameV (.str z.ev)=eP) (z5:Am K H sc (ns.map V.int)) (z6:ns.length<=63) (z7:0<=at') (z8:at'<=100) (z9:s.es.length<=500) (zn:s.ns.length<=500) (zq:∀H',Ag H H'->Q (.bl eP) H')
inductive ZF(CG CN CD T:J)(vs:List V)(H:Hp)(Q:VK)(E:XK):Prop
 |mk (s:dL) (a b:J) (z y:LF) (z0:vs=#[.ref s.R.r,.ref a,.ref b]) (z1:N4 CG CN CD T H s) (z2:H a=oT z.vs) (z3:H b=oT y.vs) (z4:Dj z) (z5:Dj y) (z6:∀e∈s.zs,e.2.n≠y.n) (z7:z.n∉s.fs) (z9:s.es.length<=500) (zn:s.ns.length<=500) (zq:∀H',Ag H H'->Q (.bl eP) H')
def Mb{z:LF}(h:Dj z):0<=z.n/\z.n<=1000000000:=fE h.1
section
seal L2.PS L2.PSs L2.PE L2.PA
variable {P:eY} {w:fF} {K:a'} {mg:eU->Option eJ} {base:fK} (d:Pm P w K mg base)
def Ln:Jc d 14 "_law_all_bad" #["_law_ledger","_law_script","_law_at","_law_row"] (ZO K Ah Aw Bc TT):=Iw d.z d.ko #["_law_ledger","_law_script","_law_at","_law_row","_law_k","_law_number","_law_way","_law_place"] df λo H Q R h=>by
 let[t,a,l,C,z,ns,rfl,RA,ha,B,E,S,y,a0,a1,le,ln,q]:=h;refine[_,(Ac (Cj fH I (Gb I (d.z.nn d.bz) (Bz Ae)) (Gi o 4)
    (Ac (Dp o 5 (Do (Uu d) R (Ca (Do (Dz d) R (Ca (pv 1) (As Co (pv 2) (pv 4)))) (pv 4))))
   (Ac (Dp o 6 (As De (pv 5) Ae))
   (Ac (Dp o 7 (Nv K (Bu (Ca (As De (As Ew (pv 5) Ae) Ae) (Nv K (Bu (Ai Ae (Ai Ae (Ca Ae Ae)))) (As De (As Ew (pv 5) Ae) Ae)))) (pv 6)))
   (Ac (Bj (Bt (Bm (Do (Dw d) R (Ai (pv 0) (Ai (pv 6) (Ca (Do (Il d) R (Ai (pv 3) (Ca (pv 7) (As Ew (pv 5) Ae)))) (Bl (Bz Bo))))))))
    (Ad (Ar Da))
    At)
   (Ad (Bj (Bt (Bm (Do (Dw d) R (Ai (pv 0) (Ai Ae (Ca (Do (Il d) R (Ai (pv 3) (Ca Ae (As Ew (pv 5) Ae)))) (Bl (Bz Bo))))))))
    (Ad (Ar Da))
    At)))))))
   (Ad (Ar Da))),?_]
 let W:1<=sizeLine:=Ax (by show 1<=1000;decide);let v:2<=sizeLine:=Ax (by show 2<=1000;decide);let X:4<=sizeLine:=Ax (by show 4<=1000;decide);refine Fc λN L=>?_;refine[_,I,Y,Y,?_];refine Ma (lo:=0) (n:=6) (λi σ A=>(∃o4 F T O,σ=#[oR t.R.r,oR l,oN C,oR a,o4,F,T,O])/\Ag H A) [[U,U,U,U,I],Ag.refl _] ?_ ?_
 .rintro i σ A hi ⟨⟨o4,F,T,O,rfl⟩,j⟩ N9 s
  refine Lf #[oR t.R.r,oR l,oN C,oR a,oN (0+(i:Int)),F,T,O] rfl (Fc λN L=>?_);refine[_,I,_,I,_,I,_,_,I,I,l,ns,_,I,j.seq S,Z,Z,y,λc c0 c1=>[_,I,c,_,I,Z,Z,λm m0 m1=>?_]];refine Gj L #[oR t.R.r,oR l,oN C,oR a,oN (0+(i:Int)),oN m,T,O] rfl λN L=>?_;refine[_,I,_,_,I,I,(by show(0:Int)<2;decide),Vc 0 1 (md Y) λw w0 w1=>?_];refine Gj L #[oR t.R.r,oR l,oN C,oR a,oN (0+(i:Int)),oN m,oN w,O] rfl λN L=>?_;let m4:=md (a:=m/2) (b:=4) Y;let m6:=md (a:=m/2) (b:=6) Y;obtain⟨k,hk,a2⟩:∃k:Int,Wv #[V.int 0,.int 1,.int 2,.int 5] (m/2%4)=g (.int k)/\(k=0\/k=1\/k=2\/k=5):=by
   generalize m/2%4=x at m4;obtain rfl|rfl|rfl|rfl:x=0\/x=1\/x=2\/x=3:=by lia
   .exact[_,I,Y]
   .exact[_,I,Y]
   .exact[_,I,Y]
   .exact[_,I,Y]
  obtain⟨p,hp,p5,pw⟩:∃p:Nat,Wv #[V.int (m/2%6),.int k] w=g (.int p)/\p<=5/\(w=0\/(w=1/\p≠3/\p≠4)):=by
   obtain rfl|rfl:w=0\/w=1:=by lia
   .refine[(m/2%6).toNat,?_,Z,.inl I]
    rw[show(((m/2%6).toNat:Nat):Int)=m/2%6 by lia];rfl
   .refine[k.toNat,?_,Z,.inr [I,Z,Z]]
    rw[show((k.toNat:Nat):Int)=k by lia];rfl
  refine[_,I,_,_,I,I,[Y,Y],_,_,I,I,(by show(0:Int)<6;decide),X,λl1 n1=>[_,I,_,_,I,I,[Y,Y],_,_,I,I,(by show(0:Int)<4;decide),l1,_,_,_,I,I,Am.of Ab,hk,v,λl2 n2=>[_,I,l2,_,_,_,I,I,Am.of Ab,hp,?_]]];let f:=j.trans ((Aa n1 (.lst #[V.int 0,.int 1,.int 2,.int 5])).trans (Aa n2 (.lst #[V.int (m/2%6),.int k])));generalize upd (upd A l1 (.lst #[V.int 0,.int 1,.int 2,.int 5])) l2 (.lst #[V.int (m/2%6),.int k])=H3 at f;clear n1 n2 hk hp;refine Gj L #[oR t.R.r,oR l,oN C,oR a,oN (0+(i:Int)),oN m,oN w,oN p] rfl λN L=>?_;refine[_,I,_,I,_,I,_,I,_,I,_,_,I,I,[Y,Y],a,z,p,_,I,f _ _ ha,B,E,p5,Z,λb x H4 s4 e r=>[W,λu M=>.no t w b u _ .entry I (RA.same ((f.trans s4).trans (Aa M _))) (e.same (Aa M _)) (Nc p5 r (pw.imp id .inl)) le ln Ab λH5 s5=>?_]];refine[_,I,Cg ?_];subst L;let s6:=f.trans (s4.trans ((Aa M _).trans s5));refine[_,I,_,I,_,I,_,_,I,I,[Y,Y],a,z,1,_,I,s6 _ _ ha,B,E,Y,Z,λb x H6 s7 e r=>[W,λu M=>.no t 2 b u _ .entry I (RA.same ((s6.trans s7).trans (Aa M _))) (e.same (Aa M _)) (Nc Y r (.inr (.inr (.inl [I,I])))) le ln Ab λH7 s8=>?_]];exact[_,I,Cg (s _ _ [[_,_,_,_,I],s6.trans (s7.trans ((Aa M _).trans s8))])]
 .rintro σ A ⟨⟨o4,F,T,O,rfl⟩,j⟩
  subst L;exact q A j
def Et:Jc d 14 "_law_all_untold" #["_law_ledger","_law_row","_law_other"] (ZF Ah Aw Bc TT):=Iw d.z d.ja #["_law_ledger","_law_row","_law_other","_law_way"] df λn H Q v h=>by
 let[t,a,b,z,y,rfl,r,ha,hb,B,c,nz,nf,m,s,q]:=h;refine[_,(Ac (Cj fH I (Jz K (Bu (Ai Ae (Ca Ae Ae)))) (Gi n 3)
    (Ad (Bj (Bt (Bm (Do (Dw d) v (Ai (pv 0) (Ai (pv 3) (Ca (pv 2) (Bl (Bz Bo))))))))
    (Ad (Ar Da))
    At)))
   (Ac (Cj fH I (Jz K (Bu (Ca Ae Ae))) (Gi n 3)
    (Ad (Bj (Bt (Bm (Do (Dw d) v (Ai (pv 0) (Ai (pv 3) (Ca (pv 1) (Bl (Bz Bo))))))))
    (Ad (Ar Da))
    At)))
   (Ad (Ar Da)))),?_]
 let X:1<=sizeLine:=Ax (by show 1<=1000;decide);refine Fc λN O=>?_;refine[Ax (by show 3<=1000;decide),λl M=>[l,I,[_,Am.of Ab],?_]];let F:=Aa M (.lst #[V.int 3,.int 4,.int 5]);let W:upd H l (.lst #[V.int 3,.int 4,.int 5]) l=oL #[V.int 3,.int 4,.int 5]:=Ab;generalize upd H l (.lst #[V.int 3,.int 4,.int 5])=f at F W;refine Ei (K:=K) (a:=l) (xs:=#[V.int 3,.int 4,.int 5]) (λi T j=>(∃o,T=#[oR t.R.r,oR a,oR b,o])/\Ag f j) [[U,I],Ag.refl _] (λi T j _ C=>Am.of (C.2 _ _ W)) ?_ ?_
 .rintro i x T j p ⟨⟨o,rfl⟩,R⟩ e S
  obtain⟨w,rfl,k⟩:∃w:Int,x=.int w/\(w=3\/w=4\/w=5):=by
   let:=kS p;simp only[cr,j_,gP]at this;rcases this with rfl|rfl|rfl
   .exact[_,I,Y]
   .exact[_,I,Y]
   .exact[_,I,Y]
  let A:=F.trans R;refine Lf #[oR t.R.r,oR a,oR b,oN w] rfl ?_;exact[_,I,_,I,_,I,X,λu L=>.no t w b u y.r6 .untold I (r.same (A.trans (Aa L _))) (Kk ((A.trans (Aa L _)) _ _ hb) c) (.u w y.n k I (Mb c).1 (Mb c).2 nz) m s Ab λH5 E=>[_,I,Cg (S _ _ [[_,I],R.trans ((Aa L _).trans E)])]]
 rintro T j ⟨⟨o,rfl⟩,R⟩;refine Iu O λN O=>?_;replace R:=F.trans R;clear F W M;refine[Ax (by show 2<=1000;decide),λl M=>[l,I,[_,Am.of Ab],?_]];let F:=R.trans (Aa M (.lst #[V.int 6,.int 7]));let W:upd j l (.lst #[V.int 6,.int 7]) l=oL #[V.int 6,.int 7]:=Ab;generalize upd j l (.lst #[V.int 6,.int 7])=f at F W;clear R;refine Ei (K:=K) (a:=l) (xs:=#[V.int 6,.int 7]) (λi T j=>(∃o,T=#[oR t.R.r,oR a,oR b,o])/\Ag f j) [[_,I],Ag.refl _] (λi T j _ C=>Am.of (C.2 _ _ W)) ?_ ?_
 .rintro i x T j p ⟨⟨o,rfl⟩,R⟩ e S
  obtain⟨w,rfl,k⟩:∃w:Int,x=.int w/\(w=6\/w=7):=by
   let:=kS p;simp only[cr,j_,gP]at this;rcases this with rfl|rfl
   .exact[_,I,Y]
   .exact[_,I,Y]
  let A:=F.trans R;refine Lf #[oR t.R.r,oR a,oR b,oN w] rfl ?_;exact[_,I,_,I,_,I,X,λu L=>.no t w a u z.r6 .untold I (r.same (A.trans (Aa L _))) (Kk ((A.trans (Aa L _)) _ _ ha) B) (.f w z.n k I (Mb B).1 (Mb B).2 nf) m s Ab λH5 E=>[_,I,Cg (S _ _ [[_,I],R.trans ((Aa L _).trans E)])]]
 .rintro T j ⟨⟨o,rfl⟩,R⟩
  subst O;exact q j (F.trans R)
end
structure Rows(z y:LF):Prop where
 gz:Dj z
 gy:Dj y
 ez:nameV (.str z.ev)=eP
 ey:y.ev=z.ev
 n:y.n=z.n+1
 d:y.d=z.d
 d1:z.d<=999996
 n1:z.n<=999999998
def Rows.ey'{z y:LF}(h:Rows z y):nameV (.str y.ev)=eP:=by rw[h.ey];exact h.ez
def W3{x:eU}(h:nameV (.str x)=eP):Hd x.cps.toList/\x.cps.toList.length<=900:=by
 let n:Fx x.cps.toList:=fE h;let e:Dg 46 x.cps.toList=#[x.cps.toList]:=Lo (Wt n);refine[[by rw[e];show 1<=4;decide,λp B=>?_],by let:=n.1.2;lia];rw[e]at B;rw[d_.mp B];exact n
def Q5{n d c:Int}{x y w:eU}(j:nameV (.str x)=eP)(M:nameV (.str y)=eP)(N:nameV (.str w)=eP)(B:0<=n)(C:n<=1000000000)(S:0<=d)(F:d<=1000000)(H:1<=c)(L:c<=999999999999):Dj [n,d,x,y,w,c]:=
 [eT [B,C],eT [S,F],[(W3 j).1,by let:=(W3 j).2;rw[hH]at this;rw[hH];exact this],fE M,fE N,eT [Z,L],H]
def Rt{u:LF}{d:Int}(B:Dj u)(H:0<=d)(C:d<=1000000):Dj { u with d:=d }:=[B.1,eT [H,C],B.2.2]
def HD{z:LF}(h:Dj z):0<=z.d/\z.d<=1000000:=fE h.2.1
inductive SX(K:a')(vs:List V)(H:Hp)(Q:VK)(E:XK):Prop
 |mk (l:J) (ns:List Int) (z0:vs=#[.ref l]) (z1:Am K H l (ns.map V.int)) (z2:ns.length<=63) (zq:∀t a b (z y:LF) H',Ag H H'->H' t=oT #[.ref a,.ref b]->H' a=oT z.vs->H' b=oT y.vs->Rows z y->Q (.ref t) H')
def Xe{K:a'}{P:St}{H:Hp}{Q:VK}{j:Nat}{c:J}{u:LF}{R:TE}(B:Int->Prop)(A:P[j]?=g (g (.ref c)))(X:H c=oT u.vs)(L:∀O (N:VK),Ag H O->(∀d,B d->N (.int d) O)->R P O N)(q:∀d p H',B d->Ag H H'->H' p=oT (LF.vs { u with d:=d })->Q (.ref p) H') :
  MU BZ (MU BZ (YH (FW K) (GE j) Qm (W9 (tC (V.int 1)))) (VV (Zh R F8))) (YH (FW K) (GE j) (W9 (tC (V.int 2))) Qm) P H Q:=by
 refine[_,A,_,I,c,_,I,Bh.of X,(λy=>fA y.2 (by show ¬(HT.sIx 6 6 (g 1)=6);decide)),λF w=>?_];let S:=Aa w (.tup (Mn u.vs U (g 1)));let W:upd H F (.tup (Mn u.vs U (g 1))) F=oT (Mn u.vs U (g 1)):=Ab;generalize upd H F (.tup (Mn u.vs U (g 1)))=O at S W;refine L O _ S λd v=>[Ax (by show 1<=1000;decide),λl f=>?_];let C:=Aa f (.tup #[V.int d]);refine[F,l,_,_,I,I,C _ _ W,Ab,Ax (by show 2<=1000;decide),λt h r s=>?_];let M:=S.trans (C.trans r);refine[_,A,_,I,c,_,I,Bh.of (M _ _ X),(λy=>fA y.1 (by show ¬(HT.sIx 6 0 (g 2)=0);decide)),λE z=>?_];let T:=Aa z (.tup (Mn u.vs (g 2) U));exact[t,E,_,_,I,I,T _ _ s,Ab,Ax (by show 6<=1000;decide),λo m b k=>q d o m v (M.trans (T.trans b)) k]
section
seal L2.PS L2.PSs L2.PE L2.PA
variable {P:eY} {w:fF} {K:a'} {mg:eU->Option eJ} {base:fK}
def BH(O:Pm P w K mg base):Jc O 2 "_law_two" #["_law_script"] (SX K):=Iw O.z O.tf #["_law_script","_law_events","_law_first","_law_day","_law_cents","_law_row","_law_other"] df λW H Q R h=>by
 let[l,X,rfl,S,j,q]:=h;refine[_,(Ac (Dp W 1 (Do (Zk O) R (Ca (Do (Uu O) R (Ca (Do (Dz O) R (Ca (pv 0) Ae)) Ae)) Ae)))
   (Ac (Dp W 2 (As De (Do (Dz O) R (Ca (pv 0) Ae)) (As Fi (As Hj Ae Ae) Ae)))
   (Ac (Dp W 3 (As De (Do (Dz O) R (Ca (pv 0) Ae)) (As Fi (As Hj Ae Ae) Ae)))
   (Ac (Dp W 4 (As Co Ae (As De (Do (Dz O) R (Ca (pv 0) Ae)) (As Fi (As Hj Ae Ae) Ae))))
   (Ac (Dp W 5 (Bl (Ai (pv 2) (Ai (pv 3) (Ai (Nv K (pv 1) Ae) (Ai (Nv K (pv 1) Ae) (Ca (Nv K (pv 1) Ae) (pv 4))))))))
   (Ac (Dp W 6 (Bl (Ai (As Co (pv 2) Ae) (Ai (pv 3) (Ai (Nv K (pv 1) Ae) (Ai (Nv K (pv 1) Ae) (Ca (Nv K (pv 1) Ae) (As Co Ae (As De (Do (Dz O) R (Ca (pv 0) Ae)) (As Fi (As Hj Ae Ae) Ae))))))))))
   (Ad (Ar (Bl (Ca (pv 5) (pv 6))))))))))),?_]
 let ab:2<=sizeLine:=Ax (by show 2<=1000;decide);let B:6<=sizeLine:=Ax (by show 6<=1000;decide);refine Fc λN F=>?_;refine[_,I,l,X,0,I,S,Y,Y,j,λc c0 c1=>[c,1,I,Y,Y,λm m0 m1=>[m,I,m0,λr x y e s1 L A s=>?_]]];replace S:=s1.seq S;refine Gj F #[oR l,oR r,U,U,U,U,U] rfl λN F=>?_;refine[_,I,l,X,1,I,S,Y,Y,j,λv f p=>[_,_,I,I,[Y,Y,Y],_,_,I,I,_,_,I,I,(by show(0:Int)<(10:Int)^(9:Int).toNat-1;rw[e9];decide),Vc 0 999999998 (by let:=md (a:=v) (b:=(10:Int)^(9:Int).toNat-1) (by rw[e9];decide);rw[e9]at this⊢;exact[this.1,Z]) λn n0 n1=>?_]];refine Gj F #[oR l,oR r,oN n,U,U,U,U] rfl λN F=>?_;refine[_,I,l,X,2,I,S,Y,Y,j,λv f p=>[_,_,I,I,[Y,Y,Y],_,_,I,I,_,_,I,I,(by show(0:Int)<(10:Int)^(6:Int).toNat-3;rw[e6];decide),Vc 0 999996 (by let:=md (a:=v) (b:=(10:Int)^(6:Int).toNat-3) (by rw[e6];decide);rw[e6]at this⊢;exact[this.1,Z]) λd u d1=>?_]];refine Gj F #[oR l,oR r,oN n,oN d,U,U,U] rfl λN F=>?_;refine[_,I,l,X,3,I,S,Y,Y,j,λv f p=>[_,_,I,I,[Y,Y,Y],_,_,I,I,_,_,I,I,(by show(0:Int)<(10:Int)^(12:Int).toNat-1;rw[e12];decide),_,_,I,I,Vc 1 999999999999 (by let:=md (a:=v) (b:=(10:Int)^(12:Int).toNat-1) (by rw[e12];decide);rw[e12]at this⊢;exact[Z,Z]) λT aa ac=>?_]]
 refine Gj F #[oR l,oR r,oN n,oN d,oN T,U,U] rfl λN F=>?_;refine[_,I,_,I,_,I,r,_,_,_,I,I,Am.of L,I,_,I,r,_,_,_,I,I,Am.of L,I,_,I,r,_,_,_,I,I,Am.of L,I,_,I,B,λa na=>?_];let E:=Aa na (.tup #[V.int n,.int d,.str x,.str y,.str x,.int T]);let ha:upd e a (.tup #[V.int n,.int d,.str x,.str y,.str x,.int T]) a=oT (LF.vs [n,d,x,y,x,T]):=Ab;let M:=E _ _ L;generalize upd e a (.tup #[V.int n,.int d,.str x,.str y,.str x,.int T])=z at E ha M;refine Gj F #[oR l,oR r,oN n,oN d,oN T,oR a,U] rfl λN F=>?_;refine[_,I,_,_,I,I,_,I,_,I,r,_,_,_,I,I,Am.of M,I,_,I,r,_,_,_,I,I,Am.of M,I,_,I,r,_,_,_,I,I,Am.of M,I,_,I,l,X,4,I,E.seq S,Y,Y,j,λv f p=>[_,_,I,I,[Y,Y,Y],_,_,I,I,_,_,I,I,(by show(0:Int)<(10:Int)^(12:Int).toNat-1;rw[e12];decide),_,_,I,I,?_]];let hc:=md (a:=v) (b:=(10:Int)^(12:Int).toNat-1) (by rw[e12];decide);rw[e12]at hc⊢;refine[B,λb nb=>?_];generalize v%(1000000000000-1)=C at hc;let k:=Aa nb (.tup #[V.int (n+1),.int d,.str x,.str x,.str y,.int (1+C)]);let i:upd z b (.tup #[V.int (n+1),.int d,.str x,.str x,.str y,.int (1+C)]) b=oT (LF.vs [n+1,d,x,x,y,1+C]):=Ab;generalize upd z b (.tup #[V.int (n+1),.int d,.str x,.str x,.str y,.int (1+C)])=H3 at k i;subst F;refine Lf #[oR l,oR r,oN n,oN d,oN T,oR a,oR b] rfl ?_;refine[_,I,_,I,ab,λt o=>q t a b _ _ _ ((s1.trans E).trans (k.trans (Aa o _))) Ab (Aa o _ _ _ (k _ _ ha)) (Aa o _ _ _ i) [Q5 A s A n0 Z u Z aa ac,Q5 A A s Z Z u Z Z Z,A,I,I,I,d1,n1]]
end
abbrev CI(R:Lg)(D:J->Prop):dL:=[R,D,U,[],[],[],[],[],[]]
abbrev bk(y:LF):dM:=SG y.n y.d y.ev y.ct
inductive WM(K:a')(CG CN CD T:J)(vs:List V)(H:Hp)(Q:VK)(E:XK):Prop
 |mk (R:Lg) (D:J->Prop) (l a b:J) (ns:List Int) (z y:LF) (z0:vs=#[.ref l,.ref R.r,.ref a,.ref b]) (z1:N4 CG CN CD T H (CI R D)) (z2:H a=oT z.vs) (z3:H b=oT y.vs) (z4:Rows z y) (z5:Am K H l (ns.map V.int)) (z6:ns.length<=63)
  (zq:∀l1 l2 H',(∀b o,H b=g o->¬D b->H' b=g o)->N4 CG CN CD T H' (((CI R D).put l1 (Py z) z.n).put l2 (bk y) y.n)->Q (.bl eP) H')
section
variable {CG CN CD T:J} {H:Hp}
def Cp.tup{D:J->Prop}{R}{c:Option Int}{es}{ns C:List Int}{B}{M}{L:List Int}(h:Cp CG CN CD T D H R c es ns C B M L){a}{xs}(j:H a=oT xs):¬D a:=λy=>by
 let[_,o,e,m]:=h.al a y;rw[j]at e;cases e;exact m
end
section
seal L2.PS L2.PSs L2.PE L2.PA
variable {P:eY} {w:fF} {K:a'} {mg:eU->Option eJ} {base:fK}
def D6(B:Pm P w K mg base):Jc B 15 "_law_begun" #["_law_script","_law_ledger","_law_row","_law_other"] (WM K Ah Aw Bc TT):=Iw B.z B.qk #["_law_script","_law_ledger","_law_row","_law_other","_law_way","_law_one","_law_again"] df λsc H Q k h=>by
 let[R,D,l,a,b,ns,z,y,rfl,RA,ha,hb,rw,S,a9,q]:=h;refine[_,(Ac (Bj (Bt (Bm (Do (Ln B) k (Ai (pv 1) (Ai (pv 0) (Ca Ae (pv 2)))))))
    (Ad (Ar Da))
    At)
   (Ac (Bj (PW.pt (Fb (Bt (Bm (Do (Dw B) k (Ai (pv 1) (Ai Ae (Ca (pv 2) (Bl (Bz Bo)))))))) (Ea (Bt (Bm (Do (Dw B) k (Ai (pv 1) (Ai Ae (Ca (pv 3) (Bl (Bz Bo)))))))))))
    (Ad (Ar Da))
    At)
   (Ac (Cj fH I (Gb I (B.z.nn B.bz) (Bz Ae)) (Gi sc 4)
    (Ad (Cj fH I (Jz K (Bu (Ca (pv 2) (pv 3)))) (Gi sc 5)
    (Ac (Dp sc 6 (As Gy (As Gy (Ee (Jg (K:=K) I) (pv 5) Ey (Eu Ae)) (Bl (Bz (As Co (Ej K (pv 5) Ae) Ae)))) (Ee (Jg (K:=K) I) (pv 5) (Eu Ae) Ey)))
   (Ac (Bj (Bt (Bm (Do (Dw B) k (Ai (pv 1) (Ai (pv 4) (Ca (pv 6) (Bl (Ca Bo (Ej K (pv 5) Ae)))))))))
    (Ad (Ar Da))
    At)
   (Ad (Bj (Bt (Bm (Do (Dw B) k (Ai (pv 1) (Ai (pv 4) (Ca (Do (Il B) k (Ai (pv 5) (Ca Ae (As Co (pv 4) (As De (Ej K (pv 5) Ae) Ae))))) (Bl (Bz Bo))))))))
    (Ad (Ar Da))
    At)))))))
   (Ad (Ar (Jn (Do (Et B) k (Ai (pv 1) (Ca (pv 2) (pv 3)))) (Ho (Do (Et B) k (Ai (pv 1) (Ca (pv 3) (pv 2))))))))))),?_]
 let m:1<=sizeLine:=Ax (by show 1<=1000;decide);let a2:2<=sizeLine:=Ax (by show 2<=1000;decide);let d0:=(HD rw.gz).1;let d1:=rw.d1;let dy:=rw.d;refine Fc λN T=>?_;refine[_,I,_,I,_,I,CI R D,a,l,5,z,ns,I,RA,ha,rw.gz,rw.ez,S,a9,Y,Y,de _,de _,λH1 s1=>[_,I,Cg (Iu T λN T=>?_)]];refine[_,I,_,I,m,λu1 L=>.tk (CI R D) 0 a u1 z (Py z) I (RA.same (s1.trans (Aa L _))) ((s1.trans (Aa L _)) _ _ ha) (.t0 rw.gz zZ (λ_ e=>by cases e)) (de _) (de _) Ab λf H2 k2 RB=>[_,I,Cg ?_]];let a4:=k2 _ _ ((s1.trans (Aa L _)) _ _ hb) (RA.tup hb);refine[_,I,_,I,m,λu2 E=>.tk ((CI R D).put f (Py z) z.n) 1 b u2 y (bk y) I (RB.same (Aa E _)) ((Aa E _) _ _ a4) (.t1 rw.gy ?_ (λ_ e=>by cases e)) (by show 1<=500;decide) (by show 1<=500;decide) Ab λl2 H3 k3 RC=>[_,I,Cg (Iu T λN T=>?_)]]
 .have:=rw.n
  show y.n∉#[z.n];rw[d_]
  lia
 let A:∀b o,H b=g o->¬D b->H3 b=g o:=λb o e n=>k3 b o (Aa E _ _ _ (k2 b o ((s1.trans (Aa L _)) _ _ e) n)) n;let a0:=A _ _ ha (RA.tup ha);let v:=A _ _ hb (RA.tup hb);replace q:∀H',Ag H3 H'->Q (.bl eP) H':=λH' s'=>q f l2 H' (λb o e n=>s' _ _ (A b o e n)) (RC.same s');clear k2 k3 RB a4 s1 L E A S;let M:([]++#[(f,Py z)]++#[(l2,bk y)]:List Wl).length<=500:=by show 2<=500;decide
 let W:([]++#[z.n]++#[y.n]:List Int).length<=500:=by show 2<=500;decide
 refine[_,I,Y,Y,?_];refine Ma (lo:=0) (n:=2) (λi r H4=>(∃o4 F O,r=#[oR l,oR R.r,oR a,oR b,o4,F,O])/\Ag H3 H4) [[U,U,U,I],Ag.refl _] ?_ ?_
 .rintro i r H4 hi ⟨⟨o4,F,O,rfl⟩,X⟩ N9 a6
  let hw:(0+(i:Int))=0\/(0+(i:Int))=1:=by lia
  refine Lf #[oR l,oR R.r,oR a,oR b,oN (0+(i:Int)),F,O] rfl ?_;generalize 0+(i:Int)=w at hw;refine[_,I,_,I,a2,λl9 nl=>[l9,I,[_,Am.of Ab],?_]];let j:=X.trans (Aa nl (.lst #[V.ref a,.ref b]));let hl:upd H4 l9 (.lst #[V.ref a,.ref b]) l9=oL #[V.ref a,.ref b]:=Ab;generalize upd H4 l9 (.lst #[V.ref a,.ref b])=H5 at j hl;refine Ei (K:=K) (a:=l9) (xs:=#[V.ref a,.ref b]) (λi r t=>(∃F O,r=#[oR l,oR R.r,oR a,oR b,oN w,F,O])/\Ag H5 t) [[_,_,I],Ag.refl _] (λi r t _ hh=>Am.of (hh.2 _ _ hl)) ?_ ?_
  .rintro i x r t hi ⟨⟨F,O,rfl⟩,s6⟩ N8 a7
   let s7:=j.trans s6;obtain⟨c,u,rfl,hc,gu,b1,nu,b3,du⟩:∃c u,x=.ref c/\t c=oT (LF.vs u)/\Dj u/\nameV (.str u.ev)=eP/\u.n∈([]++#[z.n]++#[y.n]:List Int)/\0<=u.d/\u.d<=999996:=by
    let:=kS hi;simp only[cr,j_,gP]at this;rcases this with rfl|rfl
    .exact[a,z,I,s7 _ _ a0,rw.gz,rw.ez,zZ,d0,d1]
    .exact[b,y,I,s7 _ _ v,rw.gy,rw.ey',zZ,Z,Z]
   refine Lf #[oR l,oR R.r,oR a,oR b,oN w,oR c,O] rfl (Fc λN T=>?_);refine Xe (λd=>d=u.d+1) I hc (λH7 C s8 hG=>[_,I,c,_,_,_,I,I,Bh.of (s8 _ _ hc),I,_,_,I,I,hG _ I]) λd p H7 hd s8 hp=>?_;subst hd;refine Gj T #[oR l,oR R.r,oR a,oR b,oN w,oR c,oR p] rfl λN T=>?_;let gp:=Rt gu (d:=u.d+1) Z Z;let s9:=s7.trans s8;let a8:Kr (((CI R D).put f (Py z) z.n).put l2 (bk y) y.n) (LF.r6 { u with d:=u.d+1 }) w (.twice u.n):=by
    rcases hw with rfl|rfl
    .exact .w0 { u with d:=u.d+1 } rfl gp nu
    .exact .w1 { u with d:=u.d+1 } rfl gp nu
   refine[_,I,_,I,_,I,_,I,c,_,_,_,I,I,Bh.of (s8 _ _ hc),I,a2,λu9 n9=>.no (((CI R D).put f (Py z) z.n).put l2 (bk y) y.n) w p u9 _ _ I (RC.same (s9.trans (Aa n9 _))) (Kk (Aa n9 _ _ _ hp) gp) a8 M W Ab λH8 s=>[_,I,Cg ?_]];let b0:=s9.trans ((Aa n9 _).trans s);let a1:=s _ _ (Aa n9 _ _ _ (s8 _ _ hc));subst T;refine[_,I,_,I,_,I,_,I,_,I,c,_,_,_,I,I,Bh.of a1,I,_,_,I,I,(by show(0:Int)<7;decide),_,_,I,I,c,u,5,_,I,a1,gu,b1,Y,by let:=md (a:=u.n) (b:=7) Y;lia,λb9 x9 H9 a3 RW no=>[m,λu8 n8=>.no (((CI R D).put f (Py z) z.n).put l2 (bk y) y.n) w b9 u8 _ .entry I (RC.same (b0.trans (a3.trans (Aa n8 _)))) (RW.same (Aa n8 _)) (Nc Y no (by rcases hw with rfl|rfl;exact .inl I;exact .inr (.inl [I,Y,Y]))) M W Ab λb2 a5=>[_,I,Cg (a7 _ _ [[_,_,I],?_])]]];exact s6.trans (s8.trans (((Aa n9 _).trans s).trans (a3.trans ((Aa n8 _).trans a5))))
  .rintro r t ⟨⟨F,O,rfl⟩,s6⟩
   exact a6 _ _ [[_,_,_,I],j.trans s6]
 .rintro r H4 ⟨⟨o4,F,O,rfl⟩,X⟩
  subst T;exact[_,I,_,I,_,I,(((CI R D).put f (Py z) z.n).put l2 (bk y) y.n),a,b,z,y,I,RC.same X,X _ _ a0,X _ _ v,rw.gz,rw.gy,(λ_ h=>nomatch h),(λh=>nomatch h),M,W,λH5 j=>[_,I,En [_,I,_,I,_,I,(((CI R D).put f (Py z) z.n).put l2 (bk y) y.n),b,a,y,z,I,RC.same (X.trans j),(X.trans j) _ _ v,(X.trans j) _ _ a0,rw.gy,rw.gz,(λ_ h=>nomatch h),(λh=>nomatch h),M,W,λt s6=>q t (X.trans (j.trans s6))]]]
end
def XM(K:a')(CE:J)(B:A8)(N R A M C W O L P T:J):Sp:=λX H Q x=>cX K CE B N R A M C W O L P T X H Q E0
def M8(B:Pm P w K mg b):Jm B 10 Ah "close" #["self","day"] (XM K Bi (A8.mk Ba) Al Al An An Aq Cr Ah Aw Bc TT):=BQ B.gh B.aa.cl bd λf C F=>(Ir B F).ofX
abbrev V1(R:Lg)(D:J->Prop)(z y:LF)(l1:J)(B:List (Int×Int)):dL:=[R,D,g z.d,[],#[z.n,y.n],#[z.n,y.n],#[(l1,z)],B,#[y.n]]
structure eG(κ:A8)(CC CO CL CM C CB T:J)(H:Hp)(R:Lg)(D:J->Prop)(bs:List Nt)(cs:List (J×eU)):Prop where
 ask:Pr κ CC CO CL CM C CB (cC D T H) R.b bs
 cv:eA C CB (cC D T H) R.b cs
 l8:cs.length<=8
 bk:NS bs
 lam:LamAt T Ia Lm H
def eG.to{P M B L C N T:J}{H H':Hp}{R R':Lg}{D D':J->Prop}{bs:List Nt}{cs:List (J×eU)}(h:eG c P M B L C N T H R D bs cs)(S:R'.b=R.b)(f:∀b o,H b=g o->¬D b->b≠T->H' b=g o)(O:∀b,D' b->D b\/H b=U)(F:LamAt T Ia Lm H'):eG c P M B L C N T H' R' D' bs cs:=by
 let[j,W,Q,bk,_]:=h;exact[by rw[S];exact Tf j (A3 f O),by rw[S];exact W.same (A3 f O),Q,bk,F]
def Zi{K:a'}{p:J}:∀{ns:List Int},H p=oL (ns.map V.int)->Ng K H (.seq eM (ns.map λn=>.at (.int n))) (.ref p):=by
 intro ns h;unfold Ng;refine[p,_,I,(λe=>by cases e),λx=>Am.of h,?_];clear h
 induction ns with
 |nil=>unfold Reps;rfl
 |cons n ns B=>
  unfold Reps;exact[_,_,I,by unfold Ng;exact[I,I],B]
theorem Wk:∀ns:List Int,deps (ns.map λn=>D.at (.int n))=0
 |[]=>rfl
 |n::ns=>by
  show max 0 (deps (ns.map λn=>D.at (.int n)))=0;rw[Wk ns];rfl
theorem R4:∀ns:List Int,eqDs (ns.map λn=>.at (.int n)) (ns.map λn=>.at (.int n))=eP
 |[]=>rfl
 |n::ns=>by
  show(n==n&&eqDs (ns.map λn=>.at (.int n)) (ns.map λn=>.at (.int n)))=eP;rw[gV,R4 ns];rfl
def Kh{K:a'}{neg:Bool}{Q:VK}{p q:J}{ns:List Int}(B:H p=oL (ns.map V.int))(j:H q=oL (ns.map V.int))(h:Q (.bl (!neg)) H):JG K neg (.ref p) (.ref q) H Q:=by
 refine[eM,_,_,Zi B,Zi j,by rw[Wk];decide,?_];rw[R4];cases neg<;>exact h
def Q6{L N M T:J}{D:J->Prop}{H H':Hp}{R:Lg}{c:Option Int}{es:List Wl}{ns B:List Int}{C:List Int}{p:nA}{q:eU}(h:Cp L N M T D H R c es ns B f j C)(l:LamAt T p q H)(k:∀b o,H b=g o->¬D b->H' b=g o):LamAt T p q H':=by
 let nT:¬D T:=λd=>(h.al T d).1 I;rcases l with z|⟨c,z,y⟩
 .exact .inl (k _ _ z nT)
 .refine .inr [c,k _ _ z nT,k _ _ y λd=>?_]
  let[_,o,e,m]:=h.al c d;rw[y]at e;cases e;exact m
inductive OD(K:a')(κ:A8)(CC CO CL CM C CB CG CN CD T:J)(vs:List V)(H:Hp)(Q:VK)(E:XK):Prop
 |mk (R:Lg) (D:J->Prop) (l a b l1:J) (ns:List Int) (z y:LF) (lf:List (Int×Int)) (bs:List Nt) (cs:List (J×eU)) (z0:vs=#[.ref l,.ref R.r,.ref a,.ref b]) (z1:N4 CG CN CD T H (V1 R D z y l1 lf)) (z2:H a=oT z.vs) (z3:H b=oT y.vs) (z4:Rows z y) (z5:Am K H l (ns.map V.int)) (z6:ns.length<=63) (z7:eG κ CC CO CL CM C CB T H R D bs cs)
  (zq:∀(s':dL) (r:List (J×LF)) H',s'.R.r=R.r->N4 CG CN CD T H' s'->s'.os=#[z.n,y.n,1000000000]->s'.zs=(l1,z)::r->H' a=oT z.vs->H' b=oT y.vs->Q (.bl eP) H')
section
seal L2.PS L2.PSs L2.PE L2.PA
variable {P:eY} {w:fF} {K:a'} {mg:eU->Option eJ} {base:fK}
def M7(B:Pm P w K mg base):Jc B 15 "_law_late" #["_law_script","_law_ledger","_law_row","_law_other"] (OD K (A8.mk Ba) Al Al An An Aq Cr Ah Aw Bc TT):=Iw B.z B.sf #["_law_script","_law_ledger","_law_row","_law_other","_law_last","_law_free","_law_early","_law_way","_law_bad_here","_law_one","_law_again"] df λsc H Q T h=>by
 let b1:=Wp T;let[R,D,l,a,b,W,ns,z,y,S,bs,cs,rfl,F,s,hb,rw,Sq,a0,BE,q]:=h;refine[_,(Ac (Dp sc 4 (Ej K (pv 2) Ae))
   (Ac (Dp sc 5 (Bl (Ai (As Hj Ae Ae) (Ai (pv 4) (Ai (Ej K (pv 2) Ae) (Ai (Ej K (pv 2) Ae) (Ca (Ej K (pv 2) Ae) (As Co Ae (As De (Do (Dz B) T (Ca (pv 0) Ae)) Ae)))))))))
   (Ac (Dp sc 6 (As Gy (As Gy (Ee (Jg (K:=K) I) (pv 5) Ey (Eu Ae)) (Bl (Bz (As De (Do (Dz B) T (Ca (pv 0) Ae)) (As Co (pv 4) Ae))))) (Ee (Jg (K:=K) I) (pv 5) (Eu Ae) Ey)))
   (Ac (Cj fH I (Jz K (Bu (Ai Ae (Ca Ae Ae)))) (Gi sc 7)
    (Ad (Bj (PW.pt (Fb (Bt (Bm (Do (Dw B) T (Ai (pv 1) (Ai (pv 7) (Ca (pv 5) (Bl (Ca Bo (pv 4))))))))) (Ea (Bt (Bm (Do (Dw B) T (Ai (pv 1) (Ai (pv 7) (Ca (pv 6) (Bl (Ca Bo (pv 4))))))))))))
    (Ad (Ar Da))
    At)))
   (Ac (Dp sc 8 (Do (Il B) T (Ai (pv 5) (Ca (As Co Ae (As De (pv 4) Ae)) (As De (As Ew (Do (Dz B) T (Ca (pv 0) Ae)) Ae) Ae)))))
   (Ac (Bj (Bt (Bm (Do (Dw B) T (Ai (pv 1) (Ai Ae (Ca (pv 8) (Bl (Bz Bo))))))))
    (Ad (Ar Da))
    At)
   (Ac (Cj fH I (Gb I (B.z.nn B.bz) (Bz Ae)) (Gi sc 7)
    (Ad (Cj fH I (Jz K (Bu (Ca (pv 2) (pv 3)))) (Gi sc 9)
    (Ac (Bj (Bt (Bm (Do (Dw B) T (Ai (pv 1) (Ai (pv 7) (Ca (pv 9) (Bl (Ca Bo (Ej K (pv 9) Ae)))))))))
    (Ad (Ar Da))
    At)
   (Ad (Bj (Bt (Bm (Do (Dw B) T (Ai (pv 1) (Ai (pv 7) (Ca (Do (Il B) T (Ai (pv 9) (Ca Ae (As De (Ej K (pv 9) Ae) Ae)))) (Bl (Bz Bo))))))))
    (Ad (Ar Da))
    At))))))
   (Ac (Bj (PW.pt (Fb (Bt (Bm (Do (Et B) T (Ai (pv 1) (Ca (pv 2) (pv 3)))))) (Ea (Bt (Bm (Do (Ln B) T (Ai (pv 1) (Ai (pv 0) (Ca Ae (pv 2))))))))))
    (Ad (Ar Da))
    At)
   (Ac (Dp sc 7 (As De (Do (Dz B) T (Ca (pv 0) Ae)) Ae))
   (Ac (Dp sc 10 (As Gy (As Gy (Ee (Jg (K:=K) I) (pv 5) Ey (Eu Ae)) (Bl (Bz (As Co (pv 4) Ae)))) (Ee (Jg (K:=K) I) (pv 5) (Eu Ae) Ey)))
   (Ac (Bj (PW.pt (Fb (Bt (Bm (Do (Dw B) T (Ai (pv 1) (Ai (pv 7) (Ca (pv 10) (Bl (Bz Bo)))))))) (Ea (Bt (Bm (Do (Et B) T (Ai (pv 1) (Ca (pv 10) (pv 10)))))))))
    (Ad (Ar Da))
    At)
   (Ad (Ar (Jn (Gw (Xn (K:=K) b1) (Cn (M8 B) (T.mono Y) (pv 1) (Bz (pv 4))) (Bu Eg) (Be _)) (Ho (Gw (Xn (K:=K) b1) (Cn (M8 B) (T.mono Y) (pv 1) (Bz (As Co (pv 4) Ae))) (Bu (Bz (As Hj Ae Ae))) (Be _))))))))))))))))),?_]
 let a8:1<=sizeLine:=Ax (by show 1<=1000;decide);let a7:2<=sizeLine:=Ax (by show 2<=1000;decide);let c5:3<=sizeLine:=Ax (by show 3<=1000;decide);let d7:6<=sizeLine:=Ax (by show 6<=1000;decide);let d0:=(HD rw.gz).1;let d1:=rw.d1;let dy:=rw.d;let yn:=rw.n;let n1:=rw.n1;let n0:=(Mb rw.gz).1;refine Fc λN M=>?_;refine[_,I,a,_,_,_,I,I,Bh.of s,I,?_];refine Gj M #[oR l,oR R.r,oR a,oR b,oN z.d,U,U,U,U,U,U] rfl λN M=>?_;refine[_,_,I,I,[Y,Y,Y],_,I,_,I,a,_,_,_,I,I,Bh.of s,I,_,I,a,_,_,_,I,I,Bh.of s,I,_,I,a,_,_,_,I,I,Bh.of s,I,_,I,l,ns,11,I,Sq,Y,Y,a0,λv v0 v1=>[_,_,I,I,(by show(0:Int)<1000;decide),_,_,I,I,?_]];let hv:=md (a:=v) (b:=1000) Y;rw[e9];refine[d7,λX nf=>?_];generalize v%1000=ct at hv;let s1:=Aa nf (.tup #[V.int 1000000000,.int z.d,.str z.ev,.str z.th,.str z.ca,.int (1+ct)]);obtain⟨x,ex,xn,xd,gx,xe⟩:∃x:LF,#[V.int 1000000000,.int z.d,.str z.ev,.str z.th,.str z.ca,.int (1+ct)]=x.vs/\x.n=1000000000/\x.d=z.d/\Dj x/\nameV (.str x.ev)=eP:=[[1000000000,z.d,z.ev,z.th,z.ca,1+ct],I,I,I,[I,rw.gz.2.1,rw.gz.2.2.1,rw.gz.2.2.2.1,rw.gz.2.2.2.2.1,eT [Z,Z],by show 1<=1+ct;lia],rw.ez];rw[ex]at s1⊢;let hf:upd H X (.tup x.vs) X=oT x.vs:=Ab;generalize upd H X (.tup x.vs)=H1 at s1 hf;clear ex hv v1 v0 nf;refine Gj M #[oR l,oR R.r,oR a,oR b,oN z.d,oR X,U,U,U,U,U] rfl λN M=>?_
 refine Xe (λd=>0<=d/\d<=z.d) I hf (λH2 C s2 hG=>[_,I,l,ns,12,I,(s1.trans s2).seq Sq,Y,Y,a0,λv _ _=>[_,I,_,_,I,I,_,_,I,I,Z,hG _ (by let:=md (a:=v) (b:=z.d+1) Z;exact[this.1,Z])]]) λd j H2 hd s2 d9=>?_;refine Gj M #[oR l,oR R.r,oR a,oR b,oN z.d,oR X,oR j,U,U,U,U] rfl λN M=>?_;let c1:(1000000000:Int)∉#[z.n,y.n]:=λh=>by
  simp only[cr,j_,gP]at h
  lia
 let ge:=Rt gx (d:=d) hd.1 Z;let a2:∀(u:LF),Dj u->u.n=1000000000->u.d<=z.d->∀w:Int,(w=0\/w=1\/w=8)->Kr (V1 R D z y W S) u.r6 w (.late z.d):=λu gu un ud w hw=>by
  rcases hw with rfl|rfl|rfl
  .exact .l0 u I gu (by rw[un];exact c1) _ I ud
  .exact .l1 u I gu (by rw[un];exact c1) _ I ud
  .exact .l8 u I gu _ I ud
 let L:=s1.trans s2;let b8:=s2 _ _ hf;let le:([]:List Wl).length<=500:=de _;let ln:(#[z.n,y.n]:List Int).length<=500:=by show 2<=500;decide
 refine[c5,λm nl=>[m,I,[_,Am.of Ab],?_]];let s3:=Aa nl (.lst #[V.int 0,.int 1,.int 8]);let hl:upd H2 m (.lst #[V.int 0,.int 1,.int 8]) m=oL #[V.int 0,.int 1,.int 8]:=Ab;generalize upd H2 m (.lst #[V.int 0,.int 1,.int 8])=H3 at s3 hl;refine Ei (K:=K) (a:=m) (xs:=#[V.int 0,.int 1,.int 8]) (λi k H4=>(∃o,k=#[oR l,oR R.r,oR a,oR b,oN z.d,oR X,oR j,o,U,U,U])/\Ag H3 H4) [[U,I],Ag.refl _] (λi k H4 _ hh=>Am.of (hh.2 _ _ hl)) ?_ ?_
 .rintro i v k H4 hi ⟨⟨o,rfl⟩,s4⟩ N9 b7
  obtain⟨w,rfl,hw⟩:∃w:Int,v=.int w/\(w=0\/w=1\/w=8):=by
   let:=kS hi;simp only[cr,j_,gP]at this;rcases this with rfl|rfl|rfl
   .exact[_,I,Y]
   .exact[_,I,Y]
   .exact[_,I,Y]
  let s5:=s3.trans s4;refine Lf #[oR l,oR R.r,oR a,oR b,oN z.d,oR X,oR j,oN w,U,U,U] rfl ?_;refine[_,I,_,I,_,I,_,I,a7,λu1 O=>.no (V1 R D z y W S) w X u1 x.r6 _ I (F.same (L.trans (s5.trans (Aa O _)))) (Kk ((s5.trans (Aa O _)) _ _ b8) gx) (a2 x gx xn Z w hw) le ln Ab λH5 s6=>[_,I,Cg ?_]];let s7:=s5.trans ((Aa O _).trans s6);exact[_,I,_,I,_,I,_,I,a7,λu2 m2=>.no (V1 R D z y W S) w j u2 (LF.r6 { x with d:=d }) _ rfl (F.same (L.trans (s7.trans (Aa m2 _)))) (Kk ((s7.trans (Aa m2 _)) _ _ d9) ge) (a2 _ ge xn hd.2 w hw) le ln Ab λH6 t=>[_,I,Cg (b7 _ _ [[_,I],s4.trans ((Aa O _).trans (s6.trans ((Aa m2 _).trans t)))])]]
 rintro k H4 ⟨⟨o,rfl⟩,s4⟩;refine Iu M λN M=>?_;let S4:=L.trans (s3.trans s4);let c6:=s4 _ _ (s3 _ _ b8);clear hl s3 s4 b8 d9 a2 ge hd L s1 s2 hf nl;let p5:=md (a:=z.d) (b:=5) Y;obtain⟨p,ep,hp⟩:∃p:Nat,1+z.d%5=(p:Int)/\1<=p/\p<=5:=[(1+z.d%5).toNat,Z,Z,Z];refine[_,I,_,I,_,_,I,I,(by show(0:Int)<5;decide),_,_,I,I,_,I,l,ns,12,I,S4.seq Sq,Y,Y,a0,λv v0 v1=>[_,_,I,I,[Y,Y],_,_,I,I,(by show(0:Int)<1000;decide),X,x,p,v/7%1000,by rw[ep];rfl,c6,gx,xe,hp.2,(md Y).1,λbb bx H5 s5 RW no=>?_]];refine Gj M #[oR l,oR R.r,oR a,oR b,oN z.d,oR X,oR j,o,oR bb,U,U] rfl λN M=>?_;refine[_,I,_,I,a8,λu1 O=>.no (V1 R D z y W S) 8 bb u1 _ .entry I (F.same (S4.trans (s5.trans (Aa O _)))) (RW.same (Aa O _)) (Nc hp.2 no (.inr (.inr (.inr [I,hp.1,_,I])))) le ln Ab λH6 s6=>[_,I,Cg (Iu M λN M=>?_)]];let S6:=S4.trans (s5.trans ((Aa O _).trans s6));let d4:=s6 _ _ (Aa O _ _ _ (s5 _ _ c6));clear s5 s6 O S4 c6 RW no v0 v1;refine[_,I,Y,Y,?_];refine Ma (lo:=0) (n:=2) (λi k H7=>(∃o7 o9,k=#[oR l,oR R.r,oR a,oR b,oN z.d,oR X,oR j,o7,oR bb,o9,U])/\Ag H6 H7) [[_,U,I],Ag.refl _] ?_ ?_
 .rintro i k H7 hi ⟨⟨o7,o9,rfl⟩,s7⟩ N9 b7
  let hw:(0+(i:Int))=0\/(0+(i:Int))=1:=by lia
  refine Lf #[oR l,oR R.r,oR a,oR b,oN z.d,oR X,oR j,oN (0+(i:Int)),oR bb,o9,U] rfl ?_;generalize 0+(i:Int)=w at hw;refine[_,I,_,I,a7,λm nl=>[m,I,[_,Am.of Ab],?_]];let t:=s7.trans (Aa nl (.lst #[V.ref a,.ref b]));let hl:upd H7 m (.lst #[V.ref a,.ref b]) m=oL #[V.ref a,.ref b]:=Ab;generalize upd H7 m (.lst #[V.ref a,.ref b])=H8 at t hl;refine Ei (K:=K) (a:=m) (xs:=#[V.ref a,.ref b]) (λi k H9=>(∃o9,k=#[oR l,oR R.r,oR a,oR b,oN z.d,oR X,oR j,oN w,oR bb,o9,U])/\Ag H8 H9) [[_,I],Ag.refl _] (λi k H9 _ hh=>Am.of (hh.2 _ _ hl)) ?_ ?_
  .rintro i v k H9 hi ⟨⟨o9,rfl⟩,s9⟩ N8 e1
   let S9:=S6.trans (t.trans s9);obtain⟨c,u,rfl,hc,gu,e7,nu⟩:∃c u,v=.ref c/\H9 c=oT (LF.vs u)/\Dj u/\nameV (.str u.ev)=eP/\u.n∈#[z.n,y.n]:=by
    let:=kS hi;simp only[cr,j_,gP]at this;rcases this with rfl|rfl
    .exact[a,z,I,S9 _ _ s,rw.gz,rw.ez,zZ]
    .exact[b,y,I,S9 _ _ hb,rw.gy,rw.ey',zZ]
   let f3:Kr (V1 R D z y W S) u.r6 w (.twice u.n):=by
    rcases hw with rfl|rfl
    .exact .w0 u I gu nu
    .exact .w1 u I gu nu
   refine Lf #[oR l,oR R.r,oR a,oR b,oN z.d,oR X,oR j,oN w,oR bb,oR c,U] rfl (Fc λN M=>?_);refine[_,I,_,I,_,I,_,I,c,_,_,_,I,I,Bh.of hc,I,a7,λu1 O=>.no (V1 R D z y W S) w c u1 _ _ I (F.same (S9.trans (Aa O _))) (Kk (Aa O _ _ _ hc) gu) f3 le ln Ab λe0 a6=>[_,I,Cg ?_]];let a4:=(Aa O _).trans a6;subst M;refine[_,I,_,I,_,I,_,I,c,_,_,_,I,I,Bh.of (a4 _ _ hc),I,_,_,I,I,(by show(0:Int)<6;decide),c,u,1,_,I,a4 _ _ hc,gu,e7,Y,(md Y).1,λb9 x9 d6 L RW no=>[a8,λu8 n8=>.no (V1 R D z y W S) w b9 u8 _ .entry I (F.same (S9.trans (a4.trans (L.trans (Aa n8 _))))) (RW.same (Aa n8 _)) (Nc Y no (by rcases hw with rfl|rfl;exact .inl I;exact .inr (.inl [I,Y,Y]))) le ln Ab λc2 b5=>[_,I,Cg (e1 _ _ [[_,I],s9.trans (a4.trans (L.trans ((Aa n8 _).trans b5)))])]]]
  .rintro k H9 ⟨⟨o9,rfl⟩,s9⟩
   exact b7 _ _ [[_,_,I],t.trans s9]
 rintro k H7 ⟨⟨o7,o9,rfl⟩,s7⟩;refine Iu M λN M=>?_;let S7:=S6.trans s7;let d8:∀e∈#[(W,z)],e.2.n≠y.n:=λe he=>by
  rw[d_.mp he];show z.n≠y.n
  lia
 let c9:z.n∉#[y.n]:=λh=>by
  rw[d_]at h
  lia
 refine[_,I,_,I,_,I,V1 R D z y W S,a,b,z,y,I,F.same S7,S7 _ _ s,S7 _ _ hb,rw.gz,rw.gy,d8,c9,le,ln,λH8 t=>[_,I,Cg ?_]];refine[_,I,_,I,_,I,V1 R D z y W S,a,l,13,z,ns,I,F.same (S7.trans t),(S7.trans t) _ _ s,rw.gz,rw.ez,(S7.trans t).seq Sq,a0,Y,Y,le,ln,λH9 s9=>[_,I,Cg (Iu M λN M=>?_)]];let S9:=S7.trans (t.trans s9);let c8:=s9 _ _ (t _ _ (s7 _ _ d4));clear s7 t s9 S7 S6 d4 d8 c9;refine[_,I,l,ns,19,I,S9.seq Sq,Y,Y,a0,λv v0 v1=>[_,_,I,I,(by show(0:Int)<2;decide),Vc 0 1 (md Y) λw w0 w1=>?_]];refine Gj M #[oR l,oR R.r,oR a,oR b,oN z.d,oR X,oR j,oN w,oR bb,o9,U] rfl λN M=>?_;refine Xe (λd=>d=z.d+1) I c8 (λH2 C s2 hG=>[_,I,_,_,I,I,hG _ I]) λd ag e0 hd a6 c4=>?_;subst hd;refine Gj M #[oR l,oR R.r,oR a,oR b,oN z.d,oR X,oR j,oN w,oR bb,o9,oR ag] rfl λN M=>?_;let a9:=Rt gx (d:=z.d+1) Z Z;let b3:=S9.trans a6;clear S9 a6 c8 v0 v1;obtain⟨e,tk,re,ed,en⟩:∃e,WR (V1 R D z y W S) { x with d:=z.d+1 } w e/\MI e/\e.d=z.d+1/\e.n=1000000000:=by
  let nx:x.n∉#[z.n,y.n]:=by rw[xn];exact c1
  let af:IN (g z.d) (z.d+1):=λd h=>by cases h;lia
  let c0:=gx.2.2.2.2.2.2;obtain rfl|rfl:w=0\/w=1:=by lia
  .exact[_,.t0 a9 nx af,.inl [{ x with d:=z.d+1 },rfl,by show 0<x.ct;lia],I,xn]
  .exact[_,.t1 a9 nx af,.inr [[x.n,z.d+1,x.ev,x.ct],I],I,xn]
 refine[_,I,_,I,_,I,a8,λu1 O=>.tk (V1 R D z y W S) w ag u1 { x with d:=z.d+1 } e rfl (F.same (b3.trans (Aa O _))) (Aa O _ _ _ c4) tk le ln Ab λl3 d6 d3 RB=>[_,I,Cg ?_]];let d5:∀b o,H b=g o->¬D b->d6 b=g o:=λb o e n=>d3 b o (Aa O _ _ _ (b3 _ _ e)) n;let a1:=d3 _ _ (Aa O _ _ _ c4) ((F.same b3).tup c4);refine[_,I,_,I,_,I,(V1 R D z y W S).put l3 e x.n,ag,ag,{ x with d:=z.d+1 },{ x with d:=z.d+1 },rfl,RB,a1,a1,a9,a9,(λe he=>by rw[d_.mp he];show z.n≠x.n;lia),(λh=>by let h2:x.n∈#[y.n]:=h;rw[d_]at h2;lia),(by show 1<=500;decide),(by show 3<=500;decide),λc2 L=>[_,I,Cg ?_]];subst M;let RC:=RB.same L;let[dx,a3]:=id RC.hr;let A:LamAt TT Ia Lm c2:=(Q6 F BE.lam d5).same L;let c3:∀b o,H b=g o->¬D b->c2 b=g o:=λb o e n=>L _ _ (d5 b o e n);let c7:=BE.to (R':=R) (D':=D) I (λb o e n _=>c3 b o e n) (λb h=>.inl h) A;let[a5,cv,l8,bk,_]:=id c7;let nd:(#[z.n]++#[e.n]:List Int).Nodup:=by
  rw[en,wS];exact[zZ,zZ,λa s b hb=>by rw[d_.mp s,d_.mp hb];lia]
 refine[_,I,R.r,dx,_,I,a3,I,_,I,cX.mk R D (g z.d) ([]++#[(l3,e)]) (#[z.n,y.n]++#[x.n]) #[z.n,y.n] #[(W,z)] S #[y.n] (.int z.d) "int" bs cs I RC (.int _) a5 cv l8 bk (by show 2<=9;decide) (by show 2<=10;decide) (by show 2<=100;decide) nd (λe' he=>by rw[d_.mp he];exact re) A (λh=>(nomatch rw.gz.2.1.symm.trans h)) (λ_ ev _ _ _ p3 e3 b5 fp f2=>?_) (λ_ ev _ _ af=>by cases ev;let:=af _ I;exfalso;lia)];clear a5 cv l8 bk a3;refine[de _,λp4 n4=>Kh (ns:=[]) (Aa n4 _ _ _ f2) Ab [_,I,En ?_]];let f:=b5.trans (Aa n4 (.lst []));generalize upd e3 p4 (.lst [])=f5 at f;let RD:=RC.same f;let[dx,a3]:=id RD.hr;let E:=A.same f;let[a5,cv,l8,bk,_]:=c7.to (R':=R) (D':=D) I (λb o e n _=>f _ _ e) (λb h=>.inl h) E;refine[_,I,R.r,dx,_,I,a3,I,_,I,_,_,I,I,cX.mk R D (g z.d) ([]++#[(l3,e)]) (#[z.n,y.n]++#[x.n]) #[z.n,y.n] #[(W,z)] S #[y.n] (.int (z.d+1)) "int" bs cs I RD (.int _) a5 cv l8 bk (by show 2<=9;decide) (by show 2<=10;decide) (by show 2<=100;decide) nd (λe' he=>by rw[d_.mp he];exact re) E (λh=>(nomatch (show Hr 1000000 (.int (z.d+1))=eP from eT [Z,Z]).symm.trans h)) (λ_ ev _ _ eo=>by cases ev;exact(nomatch (eT (show z.d<z.d+1 by lia)).symm.trans eo)) (λ_ ev _ _ _ p5 R' D' f6 s' e8 j _ d2 _ _ pm _ e4 RF _ _ e5=>?_)];cases ev;let ef:([]++#[(l3,e)]:List Wl).filter (λe=>decide (e.2.d<=z.d+1))=#[(l3,e)]:=vm (eT (by show e.d<=z.d+1;lia))
 rw[ef]at pm;let ee:=List.perm_singleton.mp pm;subst ee;obtain⟨r,f4⟩:∃r,s'.1=(W,z)::r:=by
  let[s1,h1,h2]:=e4;let h3:s'=s1:=h2;subst h3;rcases h1 with ⟨z',_,rfl⟩|⟨z',_,rfl⟩
  .exact[#[(l3,z')],I]
  .exact[[],I]
 let e2:e8 p5=oL (#[(1000000000:Int)].map V.int):=by rw[<- en];exact e5
 refine[_,_,I,I,[Y,Y,Y],a8,λp7 n7=>?_];rw[e9];let b2:=f _ _ (c3 _ _ s (F.tup s));let b0:=f _ _ (c3 _ _ hb (F.tup hb));let nT:∀{a xs},f5 a=oT xs->a≠TT:=λ{a xs} h=>by
  rcases E with z|⟨_,z,_⟩
  .exact Br h z (by intro y;cases y)
  .exact Br h z (by intro y;cases y)
 exact Kh (ns:=#[1000000000]) (Aa n7 _ _ _ e2) Ab (q [R',D',g (z.d+1),_,_,#[z.n,y.n]++#[e.n],s'.1,s'.2.1,s'.2.2] r _ j (RF.same (Aa n7 _)) (by show #[z.n,y.n]++#[e.n]=_;rw[en];rfl) f4 (Aa n7 _ _ _ (d2 _ _ b2 (F.tup s) (nT b2))) (Aa n7 _ _ _ (d2 _ _ b0 (F.tup hb) (nT b0))))
end
inductive B2(K:a')(T:J)(vs:List V)(H:Hp)(Q:VK):Prop
 |mk (a:J) (ns:List Int) (z0:vs=#[.ref a]) (z1:Am K H a (ns.map V.int)) (z2:ns.length<=63) (z3:H T=g (.tbl #v[])) (z4:∀H',Q (.bl eP) H'):B2 K T vs H Q
def Qh(K:a')(T:J):Sp:=λB H Q x=>B2 K T B H Q
def Cp.fresh{A d K T p:J}{R:Lg}{ps:Array eJ}(hT:H T=g (.tbl ps))(k:R.own.Nodup)(W:H R.r=oI A p (Ly R U))(C:cG d H R.cp R.kp [])(B:Dy K H R.dy R.wl R.nl)(M:H R.wl=oL [])(O:H R.nl=g (.dK []))(c:H R.ol=oL [])
  (X:H R.lr=g (.dK [])) (N:H R.br=g (.dK [])) (E:H R.oc=g (.dK [])) (b:H R.ba=g (.dK [])) (Q:H R.pd=g (.dK [])) (F:H R.sk=g (.dK [])) (L:H R.lf=g (.dK [])) (P:H R.fi=g (.dK [])):Cp A d K T (λa=>a∈R.own) H R U [] [] [] [] [] []:=by
 refine[[_,W],[[],C,λx x e=>(nomatch e),de _],B,[[],M,trivial],λx h=>(nomatch h),[[],O,de _,λn=>[λy=>fA I y,λh=>(nomatch h)]],c,X,λx h=>(nomatch h),[[],N,de _],[[],E,de _,λn=>[λy=>fA I y,λ⟨_,h,_⟩=>(nomatch h)]],[[],b,de _],[[],Q,de _,λx x y=>(nomatch y)],[[],F,de _,λx x x h=>(nomatch h),λx x y=>(nomatch y)],[L,I],[[],P,de _,λn=>[λy=>fA I y,λh=>(nomatch h)]],k,λx h=>h,λa S=>?_];let[[_,_,f,_],l]:=C;let[_,q]:=B;let j:∀{o},H a=g o->Mu o->a≠T/\∃o,H a=g o/\Mu o:=λ{o} h m=>[λy=>by rw[y,hT]at h;cases h;exact m,_,h,m];simp only[Lg.own,cr,j_,gP]at S;rcases S with rfl|rfl|rfl|rfl|rfl|rfl|rfl|rfl|rfl|rfl|rfl|rfl|rfl|rfl|rfl
 .exact j W trivial
 .exact j f trivial
 .exact j l trivial
 .exact j q trivial
 .exact j M trivial
 .exact j O trivial
 .exact j c trivial
 .exact j X trivial
 .exact j N trivial
 .exact j E trivial
 .exact j b trivial
 .exact j Q trivial
 .exact j F trivial
 .exact j L trivial
 .exact j P trivial
section
variable {l1 l2:J} {z y:LF}
def EO(B:y.d=z.d)(F:b.Perm #[(l1,Py z),(l2,bk y)])(C:b.Pairwise (YF ID)):b=#[(l1,Py z),(l2,bk y)]:=by
 let N:((l1,Py z):Wl)≠(l2,bk y):=λe=>fA (gF (λe:Wl=>e.2.k) e) (by show(0:Int)≠1;decide);let L:b.Nodup:=F.nodup_iff.mpr (by rw[lj,d_];exact[N,zZ]);obtain⟨u,v,rfl⟩:∃u v,b=#[u,v]:=by
  let l:b.length=2:=F.length_eq;rcases b with _|⟨u,_|⟨v,_|⟨_,_⟩⟩⟩
  .cases l
  .cases l
  .exact[u,v,I]
  .simp at l
 let S:=F.mem_iff.mp (fk (a:=u) (l:=#[v]));let H:=F.mem_iff.mp (e_ u (fk (a:=v) (l:=[])));simp only[cr,j_,gP]at S H;let j:u≠v:=λe=>by
  rw[e,lj]at L;exact L.1 fk
 rcases S with rfl|rfl<;>rcases H with rfl|rfl
 .exact fA I j
 .rfl
 .have h:=(o0.mp C).1 _ fk
  let M:HT.lexLt #[z.d,0,z.n] #[y.d,1,y.n]=eM:=h;rw[HT.lexLt_cons,eR B.symm,HT.lexLt_cons,eQ Y]at M;cases M
 .exact fA I j
def LA{s':MN}(h:dS #[(l1,Py z),(l2,bk y)] ([],[],[]) s'):s'=(#[(l1,z)],Mz #[(z.n,z.ct)] (Du (Xx #[(l1,z)] #[(z.n,z.ct)] y.ev).reverse y.ct).1,#[y.n]):=by
 let[O,M,N,B,F]:=h;let F:s'=N:=F;subst F;rcases M with ⟨L,e,rfl⟩|⟨L,e,_⟩
 .obtain rfl:=Jj (z:=z) (y:=L) (gF dM.vs e)
  rcases B with ⟨j,e,_⟩|⟨j,e,rfl⟩
  .exact fA (gF dM.k e) (by show(1:Int)≠0;decide)
  .have S:y.ev=j.ev:=gF dM.ev e
   let C:y.ct=j.ct:=gF dM.ct e;let H:y.n=j.n:=gF dM.n e;rw[S,C,H];rfl
 .exact fA (gF dM.k e) (by show(0:Int)≠1;decide)
def GX(j:y.ev=z.ev)(C:1<=z.ct)(B:1<=y.ct):z.n∈(Mz #[(z.n,z.ct)] (Du (Xx #[(l1,z)] #[(z.n,z.ct)] y.ev).reverse y.ct).1).map (·.1)/\Ya (Mz #[(z.n,z.ct)] (Du (Xx #[(l1,z)] #[(z.n,z.ct)] y.ev).reverse y.ct).1) z.n=if z.ct-y.ct>0 then z.ct-y.ct else 0:=by
 refine[by rw[Ip];exact fk,?_];let F:Xx #[(l1,z)] #[(z.n,z.ct)] y.ev=#[(z.n,z.ct)]:=by
  unfold Xx;rw[vm (by rw[lJ];exact j.symm),q_];show #[(z.n,Ya #[(z.n,z.ct)] z.n)]=_;rw[Wx,eR I]
 rw[F];show Ya (Mz #[(z.n,z.ct)] (Du #[(z.n,z.ct)] y.ct).1) z.n=_;rw[Lq,Vx];let L:0<(if y.ct<z.ct then y.ct else z.ct):=by split<;>lia
 show Ya (Mz #[(z.n,z.ct)] (if 0<(if y.ct<z.ct then y.ct else z.ct) then #[(z.n,z.ct-(if y.ct<z.ct then y.ct else z.ct),z.ct)] else [])) z.n=_;rw[eR L];show Ya (Yc #[(z.n,z.ct)] z.n (z.ct-(if y.ct<z.ct then y.ct else z.ct))) z.n=_;unfold Yc;show Ya #[if z.n=z.n then(z.n,z.ct-(if y.ct<z.ct then y.ct else z.ct)) else(z.n,z.ct)] z.n=_;rw[eR I,Wx,eR I];show z.ct-(if y.ct<z.ct then y.ct else z.ct)=_
 split<;>split<;>lia
end
def LF.ds(z:LF):List L2.D:=#[.at (.int z.n),.at (.int z.d),.at (.str z.ev),.at (.str z.th),.at (.str z.ca),.at (.int z.ct)]
def ES{K:a'}{p:J}{z:LF}(h:H p=oT z.vs):Ng K H (.seq eP z.ds) (.ref p):=by
 unfold Ng;refine[p,_,I,λx=>Bh.of h,(λe=>by cases e),?_];unfold LF.ds
 iterate 6
  unfold Reps;refine[_,_,I,by unfold Ng;exact[I,I],?_]
 unfold Reps;rfl
def XB(z:LF):eqDs z.ds z.ds=eP:=by
 show(z.n==z.n&&(z.d==z.d&&(z.ev==z.ev&&(z.th==z.th&&(z.ca==z.ca&&(z.ct==z.ct&&eP))))))=eP;simp only[gV,Bool.and_self]
section
seal L2.PS L2.PSs L2.PE L2.PA
variable {P:eY} {w:fF} {K:a'} {mg:eU->Option eJ} {base:fK}
def PU:Bg #["_law_script","_law_row","_law_other","_law_ledger","_law_stands"] #["_law_script"] (Ao FL):=by injections
def RT(C:Pm P w K mg base){f:J}{fd:m_}(F:cF K "law" "law" FL f fd) :
  Bp P w K mg base Fv 16 f fd #["_law_script"] (Qh K TT):=by
 let sc:=PU;bv_omega
 .let[_,_,rfl,_]:=h
  rfl
 let u:=Wp hr;let[l,ns,rfl,Sq,d9,hT,q]:=h;refine[_,(Ac (Xu (Do (BH C) hr (Bz (pv 0))) (Eb (K:=K) (n:=2) I I (Bf (Gi sc 1) (Bf (Gi sc 2) Ds))))
   (Ac (Dp sc 3 (Mm (JR C) (hr.mono Y) I (Bz (Mm (VS C) (hr.mono Y) I (Bz (Bu (Bz (CK (QC C) (hr.mono Y) I (Ai Bo (Ca (LC (G9 C) I) (Bu (Bz (Mm (QL C) (hr.mono Y) I (Ca Bo Ae))))))))))))))
   (Ac (Bj (PW.pt (Fb (Bt (Bm (Do (D6 C) hr (Ai (pv 0) (Ai (pv 3) (Ca (pv 1) (pv 2))))))) (Ea (Ay (K4 (K:=K) u) (Pa (F1 C) (hr.mono Y) (pv 3)) (Bu Eg) (Be _)))))
    (Ad (Ar Da))
    At)
   (Ac (Bj (Ay (K4 (K:=K) u) (Cn (M8 C) (hr.mono Y) (pv 3) (Bz (Ej K (pv 1) Ae))) (Bu (Ca (Ej K (pv 1) Ae) (Ej K (pv 2) Ae))) (Be _))
    (Ad (Ar Da))
    At)
   (Ac (Dp sc 4 (Nu (Ii I) C.z C.dz (Ca Ae (As Fi (Ej K (pv 1) Ae) (Ej K (pv 2) Ae)))))
   (Ac (Bj (PW.pt (Fb (Ay FE (Cn (IW C) (hr.mono Y) (pv 3) (Bz (Ej K (pv 1) Ae))) (pv 4) (Be _)) (Ea (Bt (Bm (Do (M7 C) hr (Ai (pv 0) (Ai (pv 3) (Ca (pv 1) (pv 2))))))))))
    (Ad (Ar Da))
    At)
   (Ad (Ar (Jn (Gw (Xn (K:=K) u) (Pa (F1 C) (hr.mono Y) (pv 3)) (Bu (Ai (Ej K (pv 1) Ae) (Ca (Ej K (pv 2) Ae) (As Hj Ae Ae)))) (Be _)) (Ho (Gw (Xn (K:=K) u) (Nv K (Pa (EJ C) (hr.mono Y) (pv 3)) Ae) (pv 1) (Be _)))))))))))),?_]
 let j3:1<=sizeLine:=Ax (by show 1<=1000;decide);let l6:2<=sizeLine:=Ax (by show 2<=1000;decide);let f5:3<=sizeLine:=Ax (by show 3<=1000;decide);refine Fc λN eN=>?_;refine[_,I,l,ns,I,Sq,d9,λt a b z y H1 s1 ht ha hb rw=>[t,_,I,Bh.of ht,I,_,_,I,_,_,I,I,?_]];refine Gj eN #[oR l,oR a,oR b,U,U] rfl λN eN=>?_;let l5:=s1 _ _ hT;let g5:=s1.seq Sq;refineλcy S g7 c7 m0=>?_;let s2:Ag H1 (upd (upd H1 S (.own cy)) cy (.ins Ba S [])):=(Aa c7 _).trans (Aa (by rw[Aj (fQ m0)];exact g7) _);let e7:upd (upd H1 S (.own cy)) cy (.ins Ba S []) cy=oI Ba S []:=Ab;generalize upd (upd H1 S (.own cy)) cy (.ins Ba S [])=H2 at s2 e7;refineλlm j9 i0 c5 m7=>[lm,j9,"year",500,I,Ab,.inr (.inr (.inl I)),by unfold ZY;decide,λH3 k3 c3=>[I,?_]];let s3:Ag H2 H3:=Ih i0 c5 k3;refine[j3,λc0 i8=>?_];let s4:=Aa i8 (.lst #[V.ref lm]);let a2:upd H3 c0 (.lst #[V.ref lm]) c0=oL #[V.ref lm]:=Ab;generalize upd H3 c0 (.lst #[V.ref lm])=H4 at s4 a2;refineλp dp np f6 m8=>[p,dp,"roof",.ref cy,c0,#[V.ref lm],eM,I,Ab,G,?_,by show 1<=8;decide,λH5 cl d0 fs k5 e5 b1 b2 b3 b4 b5 j2 l7=>[I,?_]]
 .rw[Aj (Af a2 np),Aj (Af a2 f6)]
  exact a2
 let s5:Ag H4 H5:=Ih np f6 k5;refine[j3,λc4 c8=>?_];let s6:=Aa c8 (.lst #[V.ref p]);let b7:upd H5 c4 (.lst #[V.ref p]) c4=oL #[V.ref p]:=Ab;generalize upd H5 c4 (.lst #[V.ref p])=H6 at s6 b7;refineλbo d6 f8 b8 l4=>?_;let sb:Ag H6 (upd (upd H6 d6 (.own bo)) bo (.ins Cr d6 [])):=(Aa b8 _).trans (Aa (by rw[Aj (fQ l4)];exact f8) _);refine[bo,d6,c4,#[(p,"roof",eM)],I,Ab,sb _ _ b7,λc hc=>by rw[d_.mp hc];exact[d0,fs,sb _ _ (s6 _ _ e5),b1,b4],by show 1<=8;decide,zZ,λm6 ak H7 k7 B _ _=>[I,?_]];let s7:Ag H6 H7:=Ih f8 b8 k7;refineλr e1 nr a8 l9=>[r,e1,bo,I,Ab,λR H8 er eb k8 nd i2 g8 ct dy hw hn ho h1 h2 h3 h4 h5 h6 h7 h8=>[I,?_]];let sm:Ag H7 (upd (upd H7 e1 (.own r)) r (.ins Ah e1 [])):=(Aa a8 _).trans (Aa (by rw[Aj (fQ l9)];exact nr) _);let s8:Ag H7 H8:=Ih nr a8 k8;let fo:∀a∈R.own,H7 a=U:=λa ha=>(i2 a ha).elim (λy=>by rw[y];exact nr) λy=>sm.free y;let a6:=s6.trans s7;let j5:=s5.trans a6;let f7:=s4.trans j5;let f9:=s3.trans f7;let W:=s2.trans f9;let d8:=W _ _ l5;let RA:N4 Ah Aw Bc TT H8 (CI R (λa=>a∈R.own)):=Cp.fresh (s8 _ _ d8) nd g8 ct dy hw hn ho h1 h2 h3 h4 h5 h6 h7 h8;let L:∀b o,H7 b=g o->(∀ps,o≠.tbl ps)->cC (λa=>a∈R.own) TT H8 b=g o:=λb o h n=>cC.of (λy=>by rw[fo b y]at h;cases h) (λy=>by rw[y,d8]at h;cases h;exact n _ I) (s8 _ _ h);let BE:eG (A8.mk Ba) Al Al An An Aq Cr TT H8 R (λa=>a∈R.own) #[[p,"roof",.alw,#[.lim "year" 500],eM]] #[(p,"roof")]:=by
  let[[dx,gs,i6,g1,g2,_],i1,j6]:=B;let[g6,c3]:=c3;refine[?_,?_,by show 1<=8;decide,[λx hx=>?_,by show 1<=4;decide,zZ,λx hx=>?_],.inl (s8 _ _ d8)]
  .rw[eb]
   refine[_,_,_,L _ _ i6 (λ_ y=>by cases y),g2,L _ _ j6 (λ_ y=>by cases y),λx hx=>?_];rw[d_.mp hx];exact[_,_,_,_,_,L _ _ (a6 _ _ e5) (λ_ y=>by cases y),b1,b2,b3,b4,b5,[cy,S,I,L _ _ (f9 _ _ e7) (λ_ y=>by cases y)],L _ _ (a6 _ _ j2) (λ_ y=>by cases y),[[lm,I,g6,L _ _ (f7 _ _ c3) (λ_ y=>by cases y)],trivial],by show 1<=8;decide]
  .rw[eb]
   refine[_,_,_,L _ _ i6 (λ_ y=>by cases y),g1,L _ _ i1 (λ_ y=>by cases y),λx hx=>?_];rw[d_.mp hx];exact[_,_,L _ _ (a6 _ _ e5) (λ_ y=>by cases y),b1]
  .rw[d_.mp hx]
   show 0<4
   decide
  .rw[d_.mp hx]
   show 1<=3
   decide
 let f2:Am K (cC (λa=>a∈R.own) TT H8) l (ns.map V.int):=by
  rcases W.seq g5 with (h|⟨o,h⟩)|h
  .exact .inl (.inl (L _ _ h (λ_ y=>by cases y)))
  .exact .inl (.inr [o,L _ _ h (λ_ y=>by cases y)])
  .exact .inr h
 let b9:=s8 _ _ (W _ _ ha);let c2:=s8 _ _ (W _ _ hb);clear L fo B i2 j2 l7 e5 a2 e7 c3 b7 nd ct dy hw hn ho h1 h2 h3 h4 h5 h6 h7 h8 g8 k8 s8 sm a6 j5 f7 f9 W sb s6 s5 s4 s3 s2 k7 k5 k3 f8 b8 nr a8 np f6 i8 c8 i0 c5 g7 c7;subst er;refine Gj eN #[oR l,oR a,oR b,oR R.r,U] rfl λN eN=>?_;refine[_,I,_,I,_,I,_,I,R,(λa=>a∈R.own),l,a,b,ns,z,y,I,RA,b9,c2,rw,Ag.seq (Qj λb o h _ _=>h) f2,d9,λl1 l2 H9 k9 RB=>[_,I,Cg ?_]];let[dx,j0]:=id RB.hr;refine[_,I,R.r,dx,_,I,j0,I,R,_,_,_,_,_,_,_,_,I,RB,λp9 j8 i9 _ hp=>[de _,λk6 e0=>Kh (neg:=eP) (ns:=[]) (Aa e0 _ _ _ hp) Ab [_,I,Cg (Iu eN λN eN=>?_)]]];let a1:=i9.trans (Aa e0 (.lst []));generalize upd j8 k6 (.lst [])=f4 at a1;let a7:∀b o,H8 b=g o->¬b∈R.own->f4 b=g o:=λb o e n=>a1 _ _ (k9 b o e n);let O:LamAt TT Ia Lm f4:=(Q6 RA BE.lam k9).same a1;let RC:=RB.same a1;let d3:=BE.to (R':=R) (D':=λa=>a∈R.own) I (λb o e n _=>a7 b o e n) (λb h=>.inl h) O;let X:=a7 _ _ b9 (RA.tup b9);let k:=a7 _ _ c2 (RA.tup c2);let nT:∀{a xs},f4 a=oT xs->a≠TT:=λ{a xs} h=>by
  rcases O with z|⟨_,z,_⟩
  .exact Br h z (by intro y;cases y)
  .exact Br h z (by intro y;cases y)
 let[dx,c9]:=id RC.hr;clear j0 k9 i9 e0 hp;let[i7,cv,l8,i3,_]:=id d3;let nd:([]++([]++#[z.n]++#[y.n]):List Int).Nodup:=by
  let:=rw.n;show #[z.n,y.n].Nodup;rw[lj,d_];exact[Z,zZ]
 let c0:=rw.gz.2.2.2.2.2.2;let c1:=rw.gy.2.2.2.2.2.2;let m4:=rw.d;refine[_,I,R.r,dx,_,I,c9,I,_,I,a,_,_,_,I,I,Bh.of X,I,cX.mk R (λa=>a∈R.own) U ([]++#[(l1,Py z)]++#[(l2,bk y)]) ([]++#[z.n]++#[y.n]) [] [] [] [] (.int z.d) "int" _ _ I RC (.int _) i7 cv l8 i3 (by show 2<=9;decide) (by show 2<=10;decide) (de _) nd (λe v=>?_) O (λh=>(nomatch rw.gz.2.1.symm.trans h)) (λ_ _ _ _ eo=>(nomatch eo)) (λ_ ev _ _ _ l3 R' D' m9 M e4 er h0 a4 g4 a0 pm pw g9 RF _ _ d=>?_)]
 .have v:e∈#[(l1,Py z),(l2,bk y)]:=v
  simp only[cr,j_,gP]at v;rcases v with rfl|rfl
  .exact .inl [z,I,Z]
  .exact .inr [y.bf,I]
 cases ev
 let ef:([]++#[(l1,Py z)]++#[(l2,bk y)]:List Wl).filter (λe=>decide (e.2.d<=z.d))=#[(l1,Py z),(l2,bk y)]:=List.filter_eq_self.mpr λe v=>by
  let v:e∈#[(l1,Py z),(l2,bk y)]:=v;simp only[cr,j_,gP]at v;rcases v with rfl|rfl
  .exact eT (iH _)
  .exact eT (by show y.d<=z.d;lia)
 let eg:([]++#[(l1,Py z)]++#[(l2,bk y)]:List Wl).filter (λe=>decide (z.d<e.2.d))=[]:=wX.mpr λe v=>by
  let v:e∈#[(l1,Py z),(l2,bk y)]:=v;simp only[cr,j_,gP]at v;rw[lJ];rcases v with rfl|rfl
  .show ¬z.d<z.d
   lia
  .show ¬z.d<y.d
   lia
 rw[ef]at pm;rw[eg]at RF;let e2:=EO rw.d pm pw;subst e2;let e3:=LA g9;subst e3;let[j1,j7]:=GX (l1:=l1) rw.ey c0 c1;generalize Mz #[(z.n,z.ct)] (Du (Xx #[(l1,z)] #[(z.n,z.ct)] y.ev).reverse y.ct).1=lf at RF j1 j7;let RF:N4 Ah Aw Bc TT e4 (V1 R' D' z y l1 lf):=RF;let d:e4 l3=oL (#[z.n,y.n].map V.int):=d;let b0:=a4 _ _ X (RC.tup X) (nT X);let a5:=a4 _ _ k (RC.tup k) (nT k);refine[_,I,a,_,_,_,I,I,Bh.of b0,I,_,I,b,_,_,_,I,I,Bh.of a5,I,l6,λk0 f3=>Kh (neg:=eP) (ns:=#[z.n,y.n]) (Aa f3 _ _ _ d) Ab [_,I,Cg (Iu eN λN eN=>?_)]];let T:=Aa f3 (.lst #[V.int z.n,.int y.n]);generalize upd e4 k0 (.lst #[V.int z.n,.int y.n])=d5 at T;let RG:=RF.same T;let d4:=a0.same T;let i5:∀b o,H8 b=g o->¬b∈R.own->b≠TT->d5 b=g o:=λb o e n t=>T _ _ (a4 _ _ (a7 b o e n) n t);let k4:=d3.to (R':=R') (D':=D') h0 (λb o e n t=>T _ _ (a4 _ _ e n t)) g4 d4;let i:=T _ _ b0;let d1:=T _ _ a5;let i4:Am K d5 l (ns.map V.int):=Ag.seq (Qj i5) f2;clear RF d b0 a5 T i5 f2 a4 g4 h0 d3 RC a0 O X k a7 RA RB b9 c2 BE i7 cv l8 i3 nT g9 pw pm ef eg f3 nd c9 Sq g5 s1 a1;refine[_,I,a,_,_,_,I,I,Bh.of i,I,_,I,b,_,_,_,I,I,Bh.of d1,I,_,_,I,I,_,_,I,?_];refine Gj eN #[oR l,oR a,oR b,oR R.r,oN (if z.ct-y.ct>0 then z.ct-y.ct else 0)] rfl λN eN=>?_;let[dx,m]:=id RG.hr;let m:d5 R.r=oI Ah dx (Ly R' (g z.d)):=by rw[<- er];exact m
 refine[_,I,R.r,dx,_,I,m,I,_,I,a,_,_,_,I,I,Bh.of i,I,R',D',g z.d,[],#[z.n,y.n],#[z.n,y.n],#[(l1,z)],lf,#[y.n],z.n,by rw[er];rfl,RG,(Mb rw.gz).1,(Mb rw.gz).2,j1,_,I,I,_,I,nF (gF V.int j7) ?_];refine[_,I,_,I,_,I,_,I,R',D',l,a,b,l1,ns,z,y,lf,_,_,by rw[er];rfl,RG,i,d1,rw,i4,d9,k4,λM r n0 k2 RI eo ez d2 g3=>[_,I,Cg ?_]];subst eN;let[dx,a3]:=id RI.hr;let d7:M.R.r=R.r:=k2.trans er;rw[d7]at a3;refine[_,I,R.r,dx,_,I,a3,I,M.R,M.D,M.c,M.es,M.ns,M.os,M.zs,M.lf,M.fs,by rw[d7];rfl,RI,λm5 l0 e8 _ c6=>[_,I,a,_,_,_,I,I,Bh.of (e8 _ _ d2),I,_,I,b,_,_,_,I,I,Bh.of (e8 _ _ g3),I,_,_,I,I,[Y,Y,Y],f5,λm1 h9=>?_]];rw[e9];rw[eo]at c6;refine Kh (ns:=#[z.n,y.n,1000000000]) (Aa h9 _ _ _ c6) Ab [_,I,En ?_];let a9:=e8.trans (Aa h9 (.lst #[V.int z.n,.int y.n,.int 1000000000]));generalize upd l0 m1 (.lst #[V.int z.n,.int y.n,.int 1000000000])=m3 at a9;refine[_,I,R.r,dx,_,I,a9 _ _ a3,I,M.R,M.D,M.c,M.es,M.ns,M.os,M.zs,M.lf,M.fs,by rw[d7];rfl,RI.same a9,λm2 k1 W _ j4=>[m2,_,_,_,I,I,Am.of j4,by rw[ez];exact Lh (j:=0) I,_,I,eP,_,_,ES (W _ _ (a9 _ _ (RI.lt (l1,z) (by rw[ez];exact fk)))),ES (W _ _ (a9 _ _ d2)),by show 0+0<=40;decide,?_]];rw[XB];exact q k1
end
def all_mk{l:pA}{w:fF}{K:a'}{h:fK}{mg:eU->Option eJ}{F:J}(X:K.In h)(B:h.Ns fr mg)(j:mg "law"=g (.ref F))(k:Pk K) :
  ∃M:m_,(∀(s:eO) (v:eJ),qI s M [#[v],[]] #[("_law_script",v)])/\∀H:fK,K.In H->H.Ns fr mg->BI mg H->Bp l.prog w K mg H Fv 16 F M #["_law_script"] (Qh K TT):=by
 let[_,d]:=k.ve;let e:=j.symm.trans (wD X B d.ns);cases e;let[_,_,_,_,_,_,_,_,_,C,L]:=d.ex;exact[_,λs v=>.of_eq I,λH N x S=>RT [k,[wD X B,PySem.W.mg_none_of X B],N,S] (Sg C L d.kp)]
def walk{l:pA}{q:eY}{j:List eU}{W:(eU->Option eJ)->fK->Prop}{B:fF->fK->Prop}{d:DefRec}{K:Params->a'}{c T:J}(P:l.most=g 63)(L:d.params.defaults=[])
  (A:∀(w:fF) (h:fK),B w h->(K w.params).In h) (C:∀(w:fF) (h:fK),B w h->h.get? T=g (PySem.W.tabObj #v[])) (S:∀w:fF,(K w.params).lookup T=U) (H:∀w:fF,oB (K w.params) c T=eP)
  (F:∀(w:fF) (mg:eU->Option eJ) (N:J) (h:fK),(K w.params).In h->h.Ns fr mg->mg d.name=g (.ref N) ->
   ∃O:m_,(∀(s:eO) (u:eJ),qI s O [#[u],[]] #[("_law_script",u)])/\∀M:fK,(K w.params).In M->M.Ns fr mg->BI mg M->Bp l.prog w (K w.params) mg M Fv 16 N O #["_law_script"] (Qh (K w.params) T)) :
  wE q j W B l.row.toRowW d [] (λf vs=>uI f vs):=
 L2.walk_ofT (n:=63) (k:=16) (x:="_law_script") (CX:=λy=>Fv) (sp:=λw=>Qh (K w.params) T) P Y L [I,Y,Y] A C S H F (λy y a Q E R X=>[a,Q,I,X,E,R.1,λy=>I]) λy y y y y z=>z
end CRL
end
open PySem PySem.W PyProof.Rows
set_option tactic.hygienic true in
set_option maxRecDepth 100000 in
set_option maxHeartbeats 0 in
theorem PySem.Challenge.cw_coverroll_k68_refused_rows_holds : PySem.Challenge.rw_coverroll_k68_refused_rows.Holds := by
 refine Zhd ?_
 k_fill
 refine CRL.walk (l:=PySem.Challenge.rw_coverroll_k68_refused_rows) (c:=95) rfl rfl (λw h (Y:_/\_)=>Y.1) (λw h (Y:_/\_)=>Y.2 93 (by simp)) (λw=>by kernel_rfl) (λw=>by kernel_rfl) ?F
 case F=>
  intro w mg fa h KX G hmg;exact CRL.all_mk KX G hmg (by
   constructor <;> first
    |(show _=_;k_is)
    |(show _=_;kit_is)
    |(show _=_;kts_exm)
    |(show _=_;k_exc)
    |(constructor <;> k_is)
    |(constructor;apply L2.DfIn.of <;> k_is)
    |(constructor;constructor;(show _=_;k_is);apply L2.MtIn.of <;> k_is)
    |(apply L2.NT4.of <;> k_is)
    |(apply L2.MtD.of <;> k_is)
    |(constructor;apply L2.MtD.of <;> k_is)
    |(apply L2.MtC.of <;> first|k_is|kernel_rfl)
    |(apply L2.XSet.of <;> first|k_is|kernel_rfl)
    |(apply L2.BsE.of <;> first|k_is|(apply L2.MtIn.of <;> k_is))
    | (apply L2.EmE.of <;> first | k_is | kernel_rfl | (apply L2.MtIn.of <;> k_is)))
