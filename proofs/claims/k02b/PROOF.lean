import PyProof.Rows.All
import Wide.All
import OpenK.AllK
import PySem.Challenge.RW_echohouse_k02_fractions_as_texts
set_option Elab.async false
set_option linter.all false
set_option maxRecDepth 100000
local macro_rules | `(tactic| walk_at "ev") => do
    let ns : List Lean.Name := [`Bool.false_eq_true, `Bool.not_false, `Bool.not_true, `CDivB_iff, `CMulB_iff, `CNz_iff, `List.cons_append, `List.getElem?_cons_succ, `List.getElem?_cons_zero, `List.length_cons, `List.length_nil, `List.map_cons, `List.map_nil, `List.nil_append, `List.replicate_succ, `List.replicate_zero, `List.set_cons_succ, `List.set_cons_zero, `Nat.reduceAdd, `Nat.reduceLeDiff, `Nat.reduceSub, `Nat.sub_self, `Nat.zero_add, `Option.bind_none, `Option.bind_some, `and_self, `and_true, `beq_self_eq_true, `boolsOf, `dAbs_nat, `dAll, `dLen, `dMax, `dMin, `dTuple, `decide_false, `decide_true, `fAlways, `fAnd, `fAndV, `fApp, `fAsg, `fC, `fCall, `fCallC, `fCallO, `fCons, `fDic, `fDrop, `fDropApp, `fFor, `fIf, `fIfS, `fLst, `fNever, `fNext, `fNil, `fNoPart, `fNot, `fOp, `fOr, `fOrV, `fPar, `fPart, `fRet, `fRetO, `fSeq, `fSeqO, `fSet, `fSetOwn, `fSl, `fTB, `fTru, `fTup, `fUn, `fVal, `fVar, `fiSeq, `fiZip, `gAdd_int, `gAdd_lst, `gAdd_tup, `gBits, `gEq_bl, `gEq_bools, `gEq_int, `gEq_pair, `gI_int, `gIs, `gIx_lst0, `gIx_lst1, `gIx_tup0, `gIx_tup1, `gNe_bl, `gNe_int, `gNeg, `gNot, `gnCons, `gnName, `gnNil, `gnTup, `if_false, `if_true, `isNon, `isi_bl_bool, `isi_bl_dict, `isi_bl_int, `isi_bl_list, `isi_bl_lt, `isi_bl_str, `isi_bl_tuple, `isi_dic_bool, `isi_dic_dict, `isi_dic_int, `isi_dic_list, `isi_dic_lt, `isi_dic_str, `isi_dic_tuple, `isi_int_bool, `isi_int_dict, `isi_int_int, `isi_int_list, `isi_int_lt, `isi_int_str, `isi_int_tuple, `isi_lst_bool, `isi_lst_dict, `isi_lst_int, `isi_lst_list, `isi_lst_lt, `isi_lst_str, `isi_lst_tuple, `isi_non_bool, `isi_non_dict, `isi_non_int, `isi_non_list, `isi_non_lt, `isi_non_str, `isi_non_tuple, `isi_scr_bool, `isi_scr_dict, `isi_scr_int, `isi_scr_list, `isi_scr_lt, `isi_scr_str, `isi_scr_tuple, `isi_str_bool, `isi_str_dict, `isi_str_int, `isi_str_list, `isi_str_lt, `isi_str_str, `isi_str_tuple, `isi_tup_bool, `isi_tup_dict, `isi_tup_int, `isi_tup_list, `isi_tup_lt, `isi_tup_str, `isi_tup_tuple, `ite_false, `ite_true, `le0, `le1, `le17, `le2, `le3, `le4, `loopT, `lt6, `ne_eq, `not_false_eq_true, `not_true_eq_false, `reduceCtorEq, `reduceIte, `sqK, `tru, `true_and, `zipT]
    let mut ls : Array (Lean.TSyntax `Lean.Parser.Tactic.simpLemma) := #[]
    for n in ns do
      unless (← Lean.Macro.resolveGlobalName n).isEmpty do
        ls := ls.push (← `(Lean.Parser.Tactic.simpLemma| $(Lean.mkIdent n):ident))
    `(tactic| simp only [$[$ls],*, *])
namespace My
open PySem PySem.Spec PyProof.Rows
noncomputable def tp (i : Nat) : Stmt := PySem.Challenge.pw_echohouse_k02_fractions_as_texts.main.body.getD i (.Pass ⟨0, 0, 0, 0⟩)
noncomputable def hA (s : Stmt) : Arguments := match s with
  | .FunctionDef _ a _ _ _ _ _ _ _ _ => a
  | _ => ⟨[], [], none, [], [], none, []⟩
noncomputable def hB (s : Stmt) : List Stmt := match s with
  | .FunctionDef _ _ b _ _ _ _ _ _ _ => b
  | _ => []
noncomputable def hS (s : Stmt) : Scope := match s with
  | .FunctionDef _ _ _ _ _ _ sc _ _ _ => sc
  | _ => { kind := .function, names := [], isGenerator := false, isCoroutine := false }
noncomputable def tc (i j : Nat) : Stmt := match tp i with
  | .ClassDef _ _ _ body _ _ _ _ _ _ _ => body.getD j (.Pass ⟨0, 0, 0, 0⟩)
  | _ => .Pass ⟨0, 0, 0, 0⟩
noncomputable abbrev pg : Program := PySem.Challenge.pw_echohouse_k02_fractions_as_texts
noncomputable abbrev lw : PySem.W.OpenLaw := PySem.Challenge.rw_echohouse_k02_fractions_as_texts
noncomputable def qv : Program := { pg with main := { pg.main with body := ([0, 2, 3, 4, 5, 6, 7, 8, 9, 11, 12, 13, 14, 15, 16, 18, 19, 20, 21, 22, 23, 24, 26, 27, 28, 29, 30, 31, 32, 33, 34, 35, 36, 37] : List Nat).map tp } }
noncomputable def cf : Str := "/claim/cut.py"
noncomputable def cO2 (nm qn : Str) (t l n k : Nat) (a b c d e : Value) : Obj := ⟨.type "code", none, .fields #[.str nm t, .str qn (t + 1), .str cf (t + 2), .int l 0, .int n 0, .int 0 0, .int 0 0, .int 3 0, a, .bool true, .int 181 0, b, .none, c, d, e, .int k 0, .int l 0, .str cf (k + 1)], #[]⟩
noncomputable def cA2 (c : Nat) (nm qn : Str) (t l n k : Nat) : Obj := cO2 nm qn t l n k (.ref (c - 5)) (.ref (c - 4)) (.ref (c - 3)) (.ref (c - 2)) (.ref (c - 1))
noncomputable def cB2 (c : Nat) (nm qn : Str) (t l n k : Nat) : Obj := cO2 nm qn t l n k (.ref (c - 3)) (.ref (c - 2)) .none .none (.ref (c - 1))
noncomputable def cA (c : Nat) (nm : Str) (t l n k : Nat) : Obj := cA2 c nm nm t l n k
noncomputable def cB (c : Nat) (nm : Str) (t l n k : Nat) : Obj := cB2 c nm nm t l n k
noncomputable def fh2 (s : Stmt) (nm qn : Str) (pm : Value) (c : Addr) : Obj := ⟨.type "function", none, .func (PySem.W.fnOf nm qn (hA s) (hB s) (hS s) .none .none .none pm none (.ref c) .none), #[]⟩
noncomputable def fh (s : Stmt) (nm : Str) (pm : Value) (c : Addr) : Obj := fh2 s nm nm pm c
noncomputable def de (P : Params) (x : Str) (t : Tok) (v : Value) : DictEntry := ⟨PyData.keyHash P x, .str x t, v⟩
noncomputable def md0 : Value := .str "law_echohouse_k02_fractions_as_texts" 476
noncomputable def md1 : Value := .str "echohouse.fracs" 421
noncomputable def md2 : Value := .str "echohouse.divisors" 194
noncomputable def d3 (P : Params) : List DictEntry := [de P "__name__" 165 (.str "law_echohouse_k02_fractions_as_texts" 476), de P "__doc__" 166 (.none), de P "__package__" 167 (.none), de P "__loader__" 168 (.builtin "__main__.__loader__#opaque"), de P "__spec__" 169 (.none), de P "__annotations__" 170 (.ref 6), de P "__builtins__" 171 (.ref 4), de P "__file__" 173 (.str "/claim/cut.py" 172), de P "__cached__" 174 (.none), de P "_wall" 193 (.ref 21), de P "SHORT" 197 (.int (4000) 196), de P "SHORT_HALF" 199 (.int (256) 198), de P "common" 208 (.ref 28), de P "half" 220 (.ref 35), de P "stepped" 230 (.ref 42), de P "step" 245 (.ref 49), de P "upper_half" 262 (.ref 56), de P "factors_joined" 278 (.ref 63), de P "EchoError" 305 (.ref 80), de P "NoFraction" 328 (.ref 100), de P "NoTable" 351 (.ref 119), de P "NoFit" 374 (.ref 138), de P "NoTurns" 397 (.ref 157), de P "TooMany" 420 (.ref 176), de P "MOST_FIGURES" 424 (.int (30) 423), de P "is_whole" 431 (.ref 185), de P "is_fraction" 440 (.ref 192), de P "show_frac" 449 (.ref 199), de P "figures" 458 (.ref 206), de P "read_frac" 469 (.ref 213), de P "is_figures" 475 (.ref 218), de P "_law_cell" 486 (.ref 225), de P "_law_mix" 495 (.ref 232), de P "_law_same" 505 (.ref 239), de P "_law_frac" 515 (.ref 246), de P "_law_big" 525 (.ref 253), de P "_law_text" 532 (.ref 260), de P "_law_sign" 540 (.ref 267), de P "_law_spoiled" 551 (.ref 274), de P "_law_number_in" 557 (.ref 279), de P "_law_due" 570 (.ref 286), de P "_law_read_right" 581 (.ref 293), de P "law" 596 (.ref 300)]
noncomputable def kk (P : Params) : PySem.W.Frag := [
(3, ⟨.type "dict", none, .dict (d3 P).toArray 43, #[]⟩),
(27, cA 27 "common" 200 7 2 206),
(28, fh (tp 4) "common" md2 27),
(34, cA 34 "half" 209 16 2 218),
(35, fh (tp 5) "half" md2 34),
(79, ⟨.type "dict", none, .dict #[de P "__module__" 288 (.str "echohouse.errors" 279), de P "__firstlineno__" 292 (.int (51) 291), de P "word" 299 (.ref 77), de P "__static_attributes__" 300 (.ref 78), de P "__weakref__" 302 (.ref 81), de P "__doc__" 303 (.none)] 3, #[]⟩),
(80, ⟨.type "type", none, .cls ⟨"EchoError", [.type "ValueError"], [.ref 80, .type "ValueError", .type "Exception", .type "BaseException", .type "object"], 79, "EchoError", true, [], [.ref 100, .ref 119, .ref 138, .ref 157, .ref 176], false, none, false⟩, #[some (.ref 64), none, some (.str "EchoError" 281), some (.str "EchoError" 289), some (.builtin "ValueError.__new__"), some (.bool true)]⟩),
(99, ⟨.type "dict", none, .dict #[de P "__module__" 313 (.str "echohouse.errors" 279), de P "__firstlineno__" 317 (.int (55) 316), de P "word" 324 (.ref 97), de P "__static_attributes__" 325 (.ref 98), de P "__doc__" 326 (.none)] 2, #[]⟩),
(100, ⟨.type "type", none, .cls ⟨"NoFraction", [.ref 80], [.ref 100, .ref 80, .type "ValueError", .type "Exception", .type "BaseException", .type "object"], 99, "NoFraction", true, [], [], false, none, false⟩, #[some (.ref 84), none, some (.str "NoFraction" 306), some (.str "NoFraction" 314), some (.builtin "ValueError.__new__"), some (.bool true)]⟩),
(118, ⟨.type "dict", none, .dict #[de P "__module__" 336 (.str "echohouse.errors" 279), de P "__firstlineno__" 340 (.int (59) 339), de P "word" 347 (.ref 116), de P "__static_attributes__" 348 (.ref 117), de P "__doc__" 349 (.none)] 2, #[]⟩),
(119, ⟨.type "type", none, .cls ⟨"NoTable", [.ref 80], [.ref 119, .ref 80, .type "ValueError", .type "Exception", .type "BaseException", .type "object"], 118, "NoTable", true, [], [], false, none, false⟩, #[some (.ref 103), none, some (.str "NoTable" 329), some (.str "NoTable" 337), some (.builtin "ValueError.__new__"), some (.bool true)]⟩),
(137, ⟨.type "dict", none, .dict #[de P "__module__" 359 (.str "echohouse.errors" 279), de P "__firstlineno__" 363 (.int (63) 362), de P "word" 370 (.ref 135), de P "__static_attributes__" 371 (.ref 136), de P "__doc__" 372 (.none)] 2, #[]⟩),
(138, ⟨.type "type", none, .cls ⟨"NoFit", [.ref 80], [.ref 138, .ref 80, .type "ValueError", .type "Exception", .type "BaseException", .type "object"], 137, "NoFit", true, [], [], false, none, false⟩, #[some (.ref 122), none, some (.str "NoFit" 352), some (.str "NoFit" 360), some (.builtin "ValueError.__new__"), some (.bool true)]⟩),
(156, ⟨.type "dict", none, .dict #[de P "__module__" 382 (.str "echohouse.errors" 279), de P "__firstlineno__" 386 (.int (67) 385), de P "word" 393 (.ref 154), de P "__static_attributes__" 394 (.ref 155), de P "__doc__" 395 (.none)] 2, #[]⟩),
(157, ⟨.type "type", none, .cls ⟨"NoTurns", [.ref 80], [.ref 157, .ref 80, .type "ValueError", .type "Exception", .type "BaseException", .type "object"], 156, "NoTurns", true, [], [], false, none, false⟩, #[some (.ref 141), none, some (.str "NoTurns" 375), some (.str "NoTurns" 383), some (.builtin "ValueError.__new__"), some (.bool true)]⟩),
(175, ⟨.type "dict", none, .dict #[de P "__module__" 405 (.str "echohouse.errors" 279), de P "__firstlineno__" 409 (.int (71) 408), de P "word" 416 (.ref 173), de P "__static_attributes__" 417 (.ref 174), de P "__doc__" 418 (.none)] 2, #[]⟩),
(176, ⟨.type "type", none, .cls ⟨"TooMany", [.ref 80], [.ref 176, .ref 80, .type "ValueError", .type "Exception", .type "BaseException", .type "object"], 175, "TooMany", true, [], [], false, none, false⟩, #[some (.ref 160), none, some (.str "TooMany" 398), some (.str "TooMany" 406), some (.builtin "ValueError.__new__"), some (.bool true)]⟩),
(184, cA 184 "is_whole" 425 77 1 429),
(185, fh (tp 19) "is_whole" md1 184),
(191, cA 191 "is_fraction" 432 79 1 438),
(192, fh (tp 20) "is_fraction" md1 191),
(198, cA 198 "show_frac" 441 84 1 447),
(199, fh (tp 21) "show_frac" md1 198),
(205, cA 205 "figures" 450 90 1 456),
(206, fh (tp 22) "figures" md1 205),
(212, cA 212 "read_frac" 459 97 1 467),
(213, fh (tp 23) "read_frac" md1 212),
(217, cB 217 "is_figures" 470 109 1 473),
(218, fh (tp 24) "is_figures" md1 217),
(224, cA 224 "_law_cell" 478 112 2 484),
(225, fh (tp 26) "_law_cell" md0 224),
(231, cA 231 "_law_mix" 487 119 2 493),
(232, fh (tp 27) "_law_mix" md0 231),
(238, cA 238 "_law_same" 496 123 2 503),
(239, fh (tp 28) "_law_same" md0 238),
(245, cA 245 "_law_frac" 506 138 2 513),
(246, fh (tp 29) "_law_frac" md0 245),
(252, cA 252 "_law_big" 516 146 1 523),
(253, fh (tp 30) "_law_big" md0 252),
(259, cA 259 "_law_text" 526 153 1 530),
(260, fh (tp 31) "_law_text" md0 259),
(266, cA 266 "_law_sign" 533 157 1 538),
(267, fh (tp 32) "_law_sign" md0 266),
(273, cA 273 "_law_spoiled" 541 161 3 549),
(274, fh (tp 33) "_law_spoiled" md0 273),
(278, cB 278 "_law_number_in" 552 177 1 555),
(279, fh (tp 34) "_law_number_in" md0 278),
(285, cA 285 "_law_due" 558 183 1 568),
(286, fh (tp 35) "_law_due" md0 285),
(292, cA 292 "_law_read_right" 571 198 2 579),
(293, fh (tp 36) "_law_read_right" md0 292),
(299, cA 299 "law" 582 208 1 594),
(300, fh (tp 37) "law" md0 299)]
noncomputable def ka : List Addr := [3, 27, 28, 34, 35, 79, 80, 99, 100, 118, 119, 137, 138, 156, 157, 175, 176, 184, 185, 191, 192, 198, 199, 205, 206, 212, 213, 217, 218, 224, 225, 231, 232, 238, 239, 245, 246, 252, 253, 259, 260, 266, 267, 273, 274, 278, 279, 285, 286, 292, 293, 299, 300]
theorem kae (P : Params) : ka = (kk P).map (·.1) := by kernel_rfl
noncomputable abbrev hk : PySem.W.Hook := PySem.W.kHook kk ka kae
noncomputable abbrev xt (s : Shared) : Bool := PySem.W.xlAt qv [] s && PySem.W.recOk (PySem.W.RowW.records lw.row.toRowW) s
open PySem.W PySem.Calls in
noncomputable def topRunT (tb : String → Option Builtin) (p : Program) (w : World) (n₀ : Nat) (ann : Option Value) : Nat → SharedT → Thread → Option SharedT
  | 0, _, _ => none
  | n + 1, s, t => match through t with
    | true => some s
    | false => match stepOk n₀ ann t with
      | false => none
      | true => match stepT (denote tb) p w s t with
        | some (s', t') => topRunT tb p w n₀ ann n s' t'
        | none => none
open PySem.W PySem.Calls in
theorem topRun_of {tb : String → Option Builtin} {p : Program} {w : World} {n₀ : Nat} {ann : Option Value} : ∀ {n : Nat} {s : SharedT} {t : Thread} {r : SharedT}, topRunT tb p w n₀ ann n s t = some r → topRun tb p w n₀ ann n s.abs t = some r.abs
  | 0, _, _, _, e => by simp [topRunT] at e
  | n + 1, s, t, r, e => by
    rw [topRunT] at e
    rw [topRun]
    cases h1 : through t with
    | true => rw [h1] at e; cases e; rfl
    | false =>
      rw [h1] at e
      dsimp only at e ⊢
      cases h2 : stepOk n₀ ann t with
      | false => rw [h2] at e; cases e
      | true =>
        rw [h2] at e
        dsimp only at e ⊢
        cases h3 : stepT (denote tb) p w s t with
        | none => rw [h3] at e; cases e
        | some x =>
          obtain ⟨s', t'⟩ := x
          rw [h3] at e
          rw [stepT_spec h3]
          exact topRun_of e
open PySem.W PySem.Calls in
noncomputable def goT (tb : String → Option Builtin) (p : Program) (w : World) (n₀ : Nat) (ann : Option Value) : Nat → SharedT → Thread → Option (SharedT × Thread)
  | 0, s, t => some (s, t)
  | n + 1, s, t => match through t with
    | true => none
    | false => match stepOk n₀ ann t with
      | false => none
      | true => match stepT (denote tb) p w s t with
        | some (s', t') => goT tb p w n₀ ann n s' t'
        | none => none
open PySem.W PySem.Calls in
theorem goT_of {tb : String → Option Builtin} {p : Program} {w : World} {n₀ : Nat} {ann : Option Value} : ∀ {n : Nat} {s s' : SharedT} {t t' : Thread}, goT tb p w n₀ ann n s t = some (s', t') → topGo tb p w n₀ ann n s.abs t = some (s'.abs, t')
  | 0, _, _, _, _, e => by cases e; rfl
  | n + 1, s, s', t, t', e => by
    rw [goT] at e
    rw [topGo]
    cases h1 : through t with
    | true => rw [h1] at e; cases e
    | false =>
      rw [h1] at e
      dsimp only at e ⊢
      cases h2 : stepOk n₀ ann t with
      | false => rw [h2] at e; cases e
      | true =>
        rw [h2] at e
        dsimp only at e ⊢
        cases h3 : stepT (denote tb) p w s t with
        | none => rw [h3] at e; cases e
        | some x =>
          obtain ⟨s2, t2⟩ := x
          rw [h3] at e
          rw [stepT_spec h3]
          exact goT_of e
noncomputable def alts {α : Type} : Bool → List α → List α
  | _, [] => []
  | true, a :: l => a :: alts false l
  | false, _ :: l => alts true l
noncomputable def tre : Nat → List Obj → PySem.W.BT
  | 0, _ => .nil
  | _ + 1, [] => .nil
  | n + 1, o :: l => .node o (tre n (alts true l)) (tre n (alts false l))
noncomputable def bol (P : Params) : List Obj := (PySem.W.boot_heap P).objs.toList
open PySem.W PySem.Calls in
theorem left2 {p q : Program} {loose : List Str} {Xt : Shared → Bool} {α : Type} {Yf : Shared → α} {Ya : World → α} {N n k M : Nat} {g0 : Bool} {T : Params → BT} (he : opening p = plainProg p.main.scope.names) (hN : Nat.ble 600 N = true) (hf : ∀ s, fenceModules? p s = some s)
    (hz : ∀ w : World, ((boot_heap w.params).isNs mainGlobals && (Array.mk [] : Array GenState).size == 0, (boot_heap w.params).objs.size, (boot_heap w.params).nsMap mainGlobals "__annotations__") = (true, 11, some (.ref 6)))
    (hr : ∀ (w : World) (os : OsState), topRun treeTable p w 11 (some (.ref 6)) M ⟨boot_heap w.params, Array.mk [], boot_drawn, boot_toks, os⟩ (topStub p) = some ⟨absHeap (T w.params) n {}, Array.mk [], boot_drawn, k, os⟩) (le : Nat.ble M N = true)
    (g1 : ∀ w : World, (fun os : OsState => staticsOk (importedModules p.main.body) (boot_heap w.params) (absHeap (T w.params) n {}) && namesBound p (absHeap (T w.params) n {}) && gensDone ⟨absHeap (T w.params) n {}, Array.mk [], boot_drawn, k, os⟩ && laidKept (boot_heap w.params) (absHeap (T w.params) n {})) = fun _ => true)
    (g2 : ∀ w : World, (fun os : OsState => (openSeen q loose (importedModules p.main.body) Xt g0 ⟨absHeap (T w.params) n {}, Array.mk [], boot_drawn, k, os⟩).1) = fun _ => (openGood q loose).1)
    (g4 : ∀ w : World, (fun os : OsState => (openSeen q loose (importedModules p.main.body) Xt g0 ⟨absHeap (T w.params) n {}, Array.mk [], boot_drawn, k, os⟩).2) = fun _ => (openGood q loose).2)
    (g3 : ∀ w : World, (fun os : OsState => Yf ⟨absHeap (T w.params) n {}, Array.mk [], boot_drawn, k, os⟩) = fun _ => Ya w) :
    LeftO p q loose Xt Yf Ya N g0 :=
  LeftO.of_pieces (H₀ := fun P => boot_heap P) (H₁ := fun P => absHeap (T P) n {}) (gs₀ := Array.mk []) (gs₁ := Array.mk []) (fun w => boot_open he hN hf w) hz hr le fun w => by
    funext os
    exact Prod.ext (congrFun (g1 w) os) (Prod.ext (Prod.ext (congrFun (g2 w) os) (congrFun (g4 w) os)) (congrFun (g3 w) os))
noncomputable def fr2 (s : Stmt) (nm qn : Str) : Obj := ⟨.none, none, .func ⟨nm, qn, hA s, .stmts (hB s), hS s, 0, [], .none, .none, .none, .none, none, .none, .none, 0⟩, #[]⟩
noncomputable def oT (vs : List Value) : Obj := ⟨.type "tuple", none, .seq vs.toArray 0, #[]⟩
noncomputable def oF : Obj := ⟨.none, none, .fields #[], #[]⟩
noncomputable def sts : Nat → List Str → List Value
  | _, [] => []
  | t, x :: l => .str x t :: sts (t + 1) l
noncomputable def gA (a : Nat) (s : Stmt) (nm qn : Str) (t l n : Nat) (vs : List Str) (pm : Value) : List Obj := [oT [], oF, oT (sts (t + 3) vs), oT [], fr2 s nm qn, cA2 (a + 5) nm qn t l n (t + 3 + vs.length), fh2 s nm qn pm (a + 5)]
noncomputable def gB (a : Nat) (s : Stmt) (nm qn : Str) (t l n : Nat) (pm : Value) : List Obj := [oT [], oF, fr2 s nm qn, cB2 (a + 3) nm qn t l n (t + 3), fh2 s nm qn pm (a + 3)]
noncomputable def t12 : List (Nat × Nat × Nat) := [(1, 0, 20), (7, 0, 27), (16, 0, 34), (27, 0, 41), (32, 0, 48), (36, 0, 55), (46, 0, 62), (51, 0, 69), (55, 0, 89), (59, 0, 108), (63, 0, 127), (67, 0, 146), (71, 0, 165), (77, 0, 184), (79, 0, 191), (84, 0, 198), (90, 0, 205), (97, 0, 212), (109, 0, 217), (112, 0, 224), (119, 0, 231), (123, 0, 238), (138, 0, 245), (146, 0, 252), (153, 0, 259), (157, 0, 266), (161, 0, 273), (177, 0, 278), (183, 0, 285), (198, 0, 292), (208, 0, 299)]
noncomputable def o12 (k : Nat) : Obj := ⟨.none, none, .fields ((t12.take k).flatMap fun z => [.int z.1 0, .int z.2.1 0, .ref z.2.2]).toArray, #[]⟩
noncomputable def o3 (P : Params) (e n : Nat) (v : Value) : Obj := ⟨.type "dict", none, .dict (match d3 P with | [] => [] | z :: l => ((⟨z.hash, z.key, v⟩ : DictEntry) :: l).take e).toArray n, #[]⟩
noncomputable def ob (P : Params) : List Obj := bol P ++ ([⟨.type "tuple", none, .seq #[] 0, #[]⟩,
⟨.none, none, .fields #[.int (1) 0, .int (0) 0, .ref 20, .int (7) 0, .int (0) 0, .ref 27, .int (16) 0, .int (0) 0, .ref 34, .int (27) 0, .int (0) 0, .ref 41, .int (32) 0, .int (0) 0, .ref 48, .int (36) 0, .int (0) 0, .ref 55, .int (46) 0, .int (0) 0, .ref 62, .int (51) 0, .int (0) 0, .ref 69, .int (55) 0, .int (0) 0, .ref 89, .int (59) 0, .int (0) 0, .ref 108, .int (63) 0, .int (0) 0, .ref 127, .int (67) 0, .int (0) 0, .ref 146, .int (71) 0, .int (0) 0, .ref 165, .int (77) 0, .int (0) 0, .ref 184, .int (79) 0, .int (0) 0, .ref 191, .int (84) 0, .int (0) 0, .ref 198, .int (90) 0, .int (0) 0, .ref 205, .int (97) 0, .int (0) 0, .ref 212, .int (109) 0, .int (0) 0, .ref 217, .int (112) 0, .int (0) 0, .ref 224, .int (119) 0, .int (0) 0, .ref 231, .int (123) 0, .int (0) 0, .ref 238, .int (138) 0, .int (0) 0, .ref 245, .int (146) 0, .int (0) 0, .ref 252, .int (153) 0, .int (0) 0, .ref 259, .int (157) 0, .int (0) 0, .ref 266, .int (161) 0, .int (0) 0, .ref 273, .int (177) 0, .int (0) 0, .ref 278, .int (183) 0, .int (0) 0, .ref 285, .int (198) 0, .int (0) 0, .ref 292, .int (208) 0, .int (0) 0, .ref 299], #[]⟩,
⟨.type "code", none, .fields #[.str "<module>" 182, .str "<module>" 183, .str "/claim/cut.py" 184, .int (1) 0, .int (0) 0, .int (0) 0, .int (0) 0, .int (0) 0, .ref 11, .bool false, .int (181) 0, .ref 12, .none, .none, .none, .none, .int (185) 0, .int (1) 0, .str "/claim/cut.py" 186], #[]⟩,
⟨.type "frame", none, .plain, #[some (.ref 13), some (.ref 3), some (.ref 3), none, some (.str "__main__" 164), none, some (.ref 0)]⟩] ++
  (gA 15 (tp 0) "_wall" "_wall" 187 1 1 ["k"] (.str "__main__" 164) ++
  (gA 22 (tp 4) "common" "common" 200 7 2 ["one", "other", "factors"] (.str "echohouse.divisors" 194) ++
  (gA 29 (tp 5) "half" "half" 209 16 2 ["one", "other", "goal", "factors", "shift", "further"] (.str "echohouse.divisors" 194) ++
  (gA 36 (tp 6) "stepped" "stepped" 221 27 3 ["one", "other", "goal", "factors"] (.str "echohouse.divisors" 194) ++
  (gA 43 (tp 7) "step" "step" 231 32 3 ["one", "other", "factors", "by", "rest", "a", "b", "c", "d"] (.str "echohouse.divisors" 194) ++
  (gA 50 (tp 8) "upper_half" "upper_half" 246 36 3 ["one", "other", "shift", "top", "other_top", "a", "b", "c", "d", "low", "other_low"] (.str "echohouse.divisors" 194) ++
  (gA 57 (tp 9) "factors_joined" "factors_joined" 263 46 2 ["further", "factors", "a", "b", "c", "d", "e", "f", "g", "h"] (.str "echohouse.divisors" 194) ++
  ([⟨.type "tuple", none, .seq #[.type "ValueError"] 0, #[]⟩,
⟨.type "builtin_function_or_method", none, .fields #[.builtin "type.__prepare__", .type "type"], #[]⟩,
⟨.type "dict", none, .dict #[de P "__module__" 288 (.str "echohouse.errors" 279), de P "__qualname__" 290 (.str "EchoError" 289), de P "__firstlineno__" 292 (.int (51) 291), de P "word" 299 (.ref 77), de P "__static_attributes__" 300 (.ref 78)] 5, #[]⟩,
⟨.type "tuple", none, .seq #[] 0, #[]⟩,
⟨.none, none, .fields #[.int (53) 0, .int (4) 0, .ref 76], #[]⟩,
⟨.type "code", none, .fields #[.str "EchoError" 283, .str "EchoError" 284, .str "/claim/cut.py" 285, .int (51) 0, .int (0) 0, .int (0) 0, .int (0) 0, .int (0) 0, .ref 67, .bool false, .int (181) 0, .ref 68, .none, .none, .none, .none, .int (286) 0, .int (51) 0, .str "/claim/cut.py" 287], #[]⟩,
⟨.type "frame", none, .plain, #[some (.ref 69), some (.ref 3), some (.ref 66), none, some (.str "echohouse.errors" 279), none, some (.ref 0)]⟩] ++
  (gA 71 (tc 11 0) "word" "EchoError.word" 293 53 1 ["self"] (.str "echohouse.errors" 279) ++
  ([⟨.type "tuple", none, .seq #[] 0, #[]⟩,
⟨.type "dict", none, .dict #[de P "__module__" 288 (.str "echohouse.errors" 279), de P "__firstlineno__" 292 (.int (51) 291), de P "word" 299 (.ref 77), de P "__static_attributes__" 300 (.ref 78), de P "__weakref__" 302 (.ref 81), de P "__doc__" 303 (.none)] 3, #[]⟩,
⟨.type "type", none, .cls ⟨"EchoError", [.type "ValueError"], [.ref 80, .type "ValueError", .type "Exception", .type "BaseException", .type "object"], 79, "EchoError", true, [], [.ref 100, .ref 119, .ref 138, .ref 157, .ref 176], false, none, false⟩, #[some (.ref 64), none, some (.str "EchoError" 281), some (.str "EchoError" 289), some (.builtin "ValueError.__new__"), some (.bool true)]⟩,
⟨.type "getset_descriptor", none, .fields #[.str "__weakref__" 301, .ref 80, .builtin "ExceptionGroup.__weakref__", .none], #[]⟩,
⟨.type "super", none, .fields #[.ref 80, .ref 80, .ref 80], #[]⟩,
⟨.type "builtin_function_or_method", none, .fields #[.builtin "object.__init_subclass__", .ref 80], #[]⟩,
⟨.type "tuple", none, .seq #[.ref 80] 0, #[]⟩,
⟨.type "builtin_function_or_method", none, .fields #[.builtin "type.__prepare__", .type "type"], #[]⟩,
⟨.type "dict", none, .dict #[de P "__module__" 313 (.str "echohouse.errors" 279), de P "__qualname__" 315 (.str "NoFraction" 314), de P "__firstlineno__" 317 (.int (55) 316), de P "word" 324 (.ref 97), de P "__static_attributes__" 325 (.ref 98)] 5, #[]⟩,
⟨.type "tuple", none, .seq #[] 0, #[]⟩,
⟨.none, none, .fields #[.int (57) 0, .int (4) 0, .ref 96], #[]⟩,
⟨.type "code", none, .fields #[.str "NoFraction" 308, .str "NoFraction" 309, .str "/claim/cut.py" 310, .int (55) 0, .int (0) 0, .int (0) 0, .int (0) 0, .int (0) 0, .ref 87, .bool false, .int (181) 0, .ref 88, .none, .none, .none, .none, .int (311) 0, .int (55) 0, .str "/claim/cut.py" 312], #[]⟩,
⟨.type "frame", none, .plain, #[some (.ref 89), some (.ref 3), some (.ref 86), none, some (.str "echohouse.errors" 279), none, some (.ref 0)]⟩] ++
  (gA 91 (tc 12 0) "word" "NoFraction.word" 318 57 1 ["self"] (.str "echohouse.errors" 279) ++
  ([⟨.type "tuple", none, .seq #[] 0, #[]⟩,
⟨.type "dict", none, .dict #[de P "__module__" 313 (.str "echohouse.errors" 279), de P "__firstlineno__" 317 (.int (55) 316), de P "word" 324 (.ref 97), de P "__static_attributes__" 325 (.ref 98), de P "__doc__" 326 (.none)] 2, #[]⟩,
⟨.type "type", none, .cls ⟨"NoFraction", [.ref 80], [.ref 100, .ref 80, .type "ValueError", .type "Exception", .type "BaseException", .type "object"], 99, "NoFraction", true, [], [], false, none, false⟩, #[some (.ref 84), none, some (.str "NoFraction" 306), some (.str "NoFraction" 314), some (.builtin "ValueError.__new__"), some (.bool true)]⟩,
⟨.type "super", none, .fields #[.ref 100, .ref 100, .ref 100], #[]⟩,
⟨.type "builtin_function_or_method", none, .fields #[.builtin "object.__init_subclass__", .ref 100], #[]⟩,
⟨.type "tuple", none, .seq #[.ref 80] 0, #[]⟩,
⟨.type "builtin_function_or_method", none, .fields #[.builtin "type.__prepare__", .type "type"], #[]⟩,
⟨.type "dict", none, .dict #[de P "__module__" 336 (.str "echohouse.errors" 279), de P "__qualname__" 338 (.str "NoTable" 337), de P "__firstlineno__" 340 (.int (59) 339), de P "word" 347 (.ref 116), de P "__static_attributes__" 348 (.ref 117)] 5, #[]⟩,
⟨.type "tuple", none, .seq #[] 0, #[]⟩,
⟨.none, none, .fields #[.int (61) 0, .int (4) 0, .ref 115], #[]⟩,
⟨.type "code", none, .fields #[.str "NoTable" 331, .str "NoTable" 332, .str "/claim/cut.py" 333, .int (59) 0, .int (0) 0, .int (0) 0, .int (0) 0, .int (0) 0, .ref 106, .bool false, .int (181) 0, .ref 107, .none, .none, .none, .none, .int (334) 0, .int (59) 0, .str "/claim/cut.py" 335], #[]⟩,
⟨.type "frame", none, .plain, #[some (.ref 108), some (.ref 3), some (.ref 105), none, some (.str "echohouse.errors" 279), none, some (.ref 0)]⟩] ++
  (gA 110 (tc 13 0) "word" "NoTable.word" 341 61 1 ["self"] (.str "echohouse.errors" 279) ++
  ([⟨.type "tuple", none, .seq #[] 0, #[]⟩,
⟨.type "dict", none, .dict #[de P "__module__" 336 (.str "echohouse.errors" 279), de P "__firstlineno__" 340 (.int (59) 339), de P "word" 347 (.ref 116), de P "__static_attributes__" 348 (.ref 117), de P "__doc__" 349 (.none)] 2, #[]⟩,
⟨.type "type", none, .cls ⟨"NoTable", [.ref 80], [.ref 119, .ref 80, .type "ValueError", .type "Exception", .type "BaseException", .type "object"], 118, "NoTable", true, [], [], false, none, false⟩, #[some (.ref 103), none, some (.str "NoTable" 329), some (.str "NoTable" 337), some (.builtin "ValueError.__new__"), some (.bool true)]⟩,
⟨.type "super", none, .fields #[.ref 119, .ref 119, .ref 119], #[]⟩,
⟨.type "builtin_function_or_method", none, .fields #[.builtin "object.__init_subclass__", .ref 119], #[]⟩,
⟨.type "tuple", none, .seq #[.ref 80] 0, #[]⟩,
⟨.type "builtin_function_or_method", none, .fields #[.builtin "type.__prepare__", .type "type"], #[]⟩,
⟨.type "dict", none, .dict #[de P "__module__" 359 (.str "echohouse.errors" 279), de P "__qualname__" 361 (.str "NoFit" 360), de P "__firstlineno__" 363 (.int (63) 362), de P "word" 370 (.ref 135), de P "__static_attributes__" 371 (.ref 136)] 5, #[]⟩,
⟨.type "tuple", none, .seq #[] 0, #[]⟩,
⟨.none, none, .fields #[.int (65) 0, .int (4) 0, .ref 134], #[]⟩,
⟨.type "code", none, .fields #[.str "NoFit" 354, .str "NoFit" 355, .str "/claim/cut.py" 356, .int (63) 0, .int (0) 0, .int (0) 0, .int (0) 0, .int (0) 0, .ref 125, .bool false, .int (181) 0, .ref 126, .none, .none, .none, .none, .int (357) 0, .int (63) 0, .str "/claim/cut.py" 358], #[]⟩,
⟨.type "frame", none, .plain, #[some (.ref 127), some (.ref 3), some (.ref 124), none, some (.str "echohouse.errors" 279), none, some (.ref 0)]⟩] ++
  (gA 129 (tc 14 0) "word" "NoFit.word" 364 65 1 ["self"] (.str "echohouse.errors" 279) ++
  ([⟨.type "tuple", none, .seq #[] 0, #[]⟩,
⟨.type "dict", none, .dict #[de P "__module__" 359 (.str "echohouse.errors" 279), de P "__firstlineno__" 363 (.int (63) 362), de P "word" 370 (.ref 135), de P "__static_attributes__" 371 (.ref 136), de P "__doc__" 372 (.none)] 2, #[]⟩,
⟨.type "type", none, .cls ⟨"NoFit", [.ref 80], [.ref 138, .ref 80, .type "ValueError", .type "Exception", .type "BaseException", .type "object"], 137, "NoFit", true, [], [], false, none, false⟩, #[some (.ref 122), none, some (.str "NoFit" 352), some (.str "NoFit" 360), some (.builtin "ValueError.__new__"), some (.bool true)]⟩,
⟨.type "super", none, .fields #[.ref 138, .ref 138, .ref 138], #[]⟩,
⟨.type "builtin_function_or_method", none, .fields #[.builtin "object.__init_subclass__", .ref 138], #[]⟩,
⟨.type "tuple", none, .seq #[.ref 80] 0, #[]⟩,
⟨.type "builtin_function_or_method", none, .fields #[.builtin "type.__prepare__", .type "type"], #[]⟩,
⟨.type "dict", none, .dict #[de P "__module__" 382 (.str "echohouse.errors" 279), de P "__qualname__" 384 (.str "NoTurns" 383), de P "__firstlineno__" 386 (.int (67) 385), de P "word" 393 (.ref 154), de P "__static_attributes__" 394 (.ref 155)] 5, #[]⟩,
⟨.type "tuple", none, .seq #[] 0, #[]⟩,
⟨.none, none, .fields #[.int (69) 0, .int (4) 0, .ref 153], #[]⟩,
⟨.type "code", none, .fields #[.str "NoTurns" 377, .str "NoTurns" 378, .str "/claim/cut.py" 379, .int (67) 0, .int (0) 0, .int (0) 0, .int (0) 0, .int (0) 0, .ref 144, .bool false, .int (181) 0, .ref 145, .none, .none, .none, .none, .int (380) 0, .int (67) 0, .str "/claim/cut.py" 381], #[]⟩,
⟨.type "frame", none, .plain, #[some (.ref 146), some (.ref 3), some (.ref 143), none, some (.str "echohouse.errors" 279), none, some (.ref 0)]⟩] ++
  (gA 148 (tc 15 0) "word" "NoTurns.word" 387 69 1 ["self"] (.str "echohouse.errors" 279) ++
  ([⟨.type "tuple", none, .seq #[] 0, #[]⟩,
⟨.type "dict", none, .dict #[de P "__module__" 382 (.str "echohouse.errors" 279), de P "__firstlineno__" 386 (.int (67) 385), de P "word" 393 (.ref 154), de P "__static_attributes__" 394 (.ref 155), de P "__doc__" 395 (.none)] 2, #[]⟩,
⟨.type "type", none, .cls ⟨"NoTurns", [.ref 80], [.ref 157, .ref 80, .type "ValueError", .type "Exception", .type "BaseException", .type "object"], 156, "NoTurns", true, [], [], false, none, false⟩, #[some (.ref 141), none, some (.str "NoTurns" 375), some (.str "NoTurns" 383), some (.builtin "ValueError.__new__"), some (.bool true)]⟩,
⟨.type "super", none, .fields #[.ref 157, .ref 157, .ref 157], #[]⟩,
⟨.type "builtin_function_or_method", none, .fields #[.builtin "object.__init_subclass__", .ref 157], #[]⟩,
⟨.type "tuple", none, .seq #[.ref 80] 0, #[]⟩,
⟨.type "builtin_function_or_method", none, .fields #[.builtin "type.__prepare__", .type "type"], #[]⟩,
⟨.type "dict", none, .dict #[de P "__module__" 405 (.str "echohouse.errors" 279), de P "__qualname__" 407 (.str "TooMany" 406), de P "__firstlineno__" 409 (.int (71) 408), de P "word" 416 (.ref 173), de P "__static_attributes__" 417 (.ref 174)] 5, #[]⟩,
⟨.type "tuple", none, .seq #[] 0, #[]⟩,
⟨.none, none, .fields #[.int (73) 0, .int (4) 0, .ref 172], #[]⟩,
⟨.type "code", none, .fields #[.str "TooMany" 400, .str "TooMany" 401, .str "/claim/cut.py" 402, .int (71) 0, .int (0) 0, .int (0) 0, .int (0) 0, .int (0) 0, .ref 163, .bool false, .int (181) 0, .ref 164, .none, .none, .none, .none, .int (403) 0, .int (71) 0, .str "/claim/cut.py" 404], #[]⟩,
⟨.type "frame", none, .plain, #[some (.ref 165), some (.ref 3), some (.ref 162), none, some (.str "echohouse.errors" 279), none, some (.ref 0)]⟩] ++
  (gA 167 (tc 16 0) "word" "TooMany.word" 410 73 1 ["self"] (.str "echohouse.errors" 279) ++
  ([⟨.type "tuple", none, .seq #[] 0, #[]⟩,
⟨.type "dict", none, .dict #[de P "__module__" 405 (.str "echohouse.errors" 279), de P "__firstlineno__" 409 (.int (71) 408), de P "word" 416 (.ref 173), de P "__static_attributes__" 417 (.ref 174), de P "__doc__" 418 (.none)] 2, #[]⟩,
⟨.type "type", none, .cls ⟨"TooMany", [.ref 80], [.ref 176, .ref 80, .type "ValueError", .type "Exception", .type "BaseException", .type "object"], 175, "TooMany", true, [], [], false, none, false⟩, #[some (.ref 160), none, some (.str "TooMany" 398), some (.str "TooMany" 406), some (.builtin "ValueError.__new__"), some (.bool true)]⟩,
⟨.type "super", none, .fields #[.ref 176, .ref 176, .ref 176], #[]⟩,
⟨.type "builtin_function_or_method", none, .fields #[.builtin "object.__init_subclass__", .ref 176], #[]⟩] ++
  (gA 179 (tp 19) "is_whole" "is_whole" 425 77 1 ["thing"] (.str "echohouse.fracs" 421) ++
  (gA 186 (tp 20) "is_fraction" "is_fraction" 432 79 1 ["thing", "top", "bottom"] (.str "echohouse.fracs" 421) ++
  (gA 193 (tp 21) "show_frac" "show_frac" 441 84 1 ["one", "sign", "top"] (.str "echohouse.fracs" 421) ++
  (gA 200 (tp 22) "figures" "figures" 450 90 1 ["number", "blocks", "block"] (.str "echohouse.fracs" 421) ++
  (gA 207 (tp 23) "read_frac" "read_frac" 459 97 1 ["text", "top", "stroke", "bottom", "one"] (.str "echohouse.fracs" 421) ++
  (gB 214 (tp 24) "is_figures" "is_figures" 470 109 1 (.str "echohouse.fracs" 421) ++
  (gA 219 (tp 26) "_law_cell" "_law_cell" 478 112 2 ["_law_script", "_law_k", "_law_number"] (.str "law_echohouse_k02_fractions_as_texts" 476) ++
  (gA 226 (tp 27) "_law_mix" "_law_mix" 487 119 2 ["_law_cell_here", "_law_k", "_law_number"] (.str "law_echohouse_k02_fractions_as_texts" 476) ++
  (gA 233 (tp 28) "_law_same" "_law_same" 496 123 2 ["_law_found", "_law_due_here", "_law_one", "_law_other"] (.str "law_echohouse_k02_fractions_as_texts" 476) ++
  (gA 240 (tp 29) "_law_frac" "_law_frac" 506 138 2 ["_law_top", "_law_bottom", "_law_one", "_law_other"] (.str "law_echohouse_k02_fractions_as_texts" 476) ++
  (gA 247 (tp 30) "_law_big" "_law_big" 516 146 1 ["_law_cell_here", "_law_number", "_law_far", "_law_top"] (.str "law_echohouse_k02_fractions_as_texts" 476) ++
  (gA 254 (tp 31) "_law_text" "_law_text" 526 153 1 ["_law_one"] (.str "law_echohouse_k02_fractions_as_texts" 476) ++
  (gA 261 (tp 32) "_law_sign" "_law_sign" 533 157 1 ["_law_number", "_law_some"] (.str "law_echohouse_k02_fractions_as_texts" 476) ++
  (gA 268 (tp 33) "_law_spoiled" "_law_spoiled" 541 161 3 ["_law_text_here", "_law_one", "_law_cell_here", "_law_at", "_law_way"] (.str "law_echohouse_k02_fractions_as_texts" 476) ++
  (gB 275 (tp 34) "_law_number_in" "_law_number_in" 552 177 1 (.str "law_echohouse_k02_fractions_as_texts" 476) ++
  (gA 280 (tp 35) "_law_due" "_law_due" 558 183 1 ["_law_text_here", "_law_ahead", "_law_mark", "_law_behind", "_law_turn", "_law_top", "_law_bottom"] (.str "law_echohouse_k02_fractions_as_texts" 476) ++
  (gA 287 (tp 36) "_law_read_right" "_law_read_right" 571 198 2 ["_law_thing", "_law_due_here", "_law_found", "_law_caught", "e"] (.str "law_echohouse_k02_fractions_as_texts" 476) ++
  (gA 294 (tp 37) "law" "law" 582 208 1 ["_law_script", "_law_k", "_law_cell_here", "_law_drawn", "_law_one", "_law_text_here", "_law_great", "_law_other", "_law_odd"] (.str "law_echohouse_k02_fractions_as_texts" 476))))))))))))))))))))))))))))))))))))))))
noncomputable def ta0 (P : Params) : PySem.W.BT := tre 12 ((((ob P).take 15).set 3 (o3 P 9 9 (.str "__main__" 164))).set 12 (o12 0))
noncomputable def ta1 (P : Params) : PySem.W.BT := tre 12 (((((ob P).take 103).set 3 (o3 P 20 20 (.str "echohouse.errors" 279))).set 12 (o12 9)).set 80 (⟨.type "type", none, .cls ⟨"EchoError", [.type "ValueError"], [.ref 80, .type "ValueError", .type "Exception", .type "BaseException", .type "object"], 79, "EchoError", true, [], [.ref 100], false, none, false⟩, #[some (.ref 64), none, some (.str "EchoError" 281), some (.str "EchoError" 289), some (.builtin "ValueError.__new__"), some (.bool true)]⟩))
noncomputable def ta2 (P : Params) : PySem.W.BT := tre 12 (((((ob P).take 160).set 3 (o3 P 23 23 (.str "echohouse.errors" 279))).set 12 (o12 12)).set 80 (⟨.type "type", none, .cls ⟨"EchoError", [.type "ValueError"], [.ref 80, .type "ValueError", .type "Exception", .type "BaseException", .type "object"], 79, "EchoError", true, [], [.ref 100, .ref 119, .ref 138, .ref 157], false, none, false⟩, #[some (.ref 64), none, some (.str "EchoError" 281), some (.str "EchoError" 289), some (.builtin "ValueError.__new__"), some (.bool true)]⟩))
noncomputable def ta3 (P : Params) : PySem.W.BT := tre 12 ((((ob P).take 233).set 3 (o3 P 33 33 (.str "law_echohouse_k02_fractions_as_texts" 476))).set 12 (o12 21))
noncomputable def ta4 (P : Params) : PySem.W.BT := tre 12 (((ob P).set 3 (o3 P 43 43 (.str "law_echohouse_k02_fractions_as_texts" 476))).set 12 (o12 31))
noncomputable abbrev bd : List Stmt := pg.main.body
noncomputable def en : Env := { scope := pg.main.scope, locals := mainNs, globals := mainNs, cells := [], code := .ref 13, frame := some 14 }
noncomputable def cE : Code := .body bd en
theorem h0 (P : Params) : PySem.W.absHeap (tre 12 (bol P)) 11 {} = PySem.W.boot_heap P := by kernel_rfl
set_option maxHeartbeats 0 in
open PySem.W PySem.Calls in
theorem hp (w : World) : (fun os : OsState => goT treeTable pg w 11 (some (.ref 6)) 12 ⟨tre 12 (bol w.params), 11, {}, #[], boot_drawn, boot_toks, os⟩ (topStub pg)) = fun os => some ((⟨ta0 w.params, 15, {}, #[], PySem.W.boot_drawn, 187, os⟩ : PySem.W.SharedT), ⟨denote treeTable (.body bd en), cE, ⟨0, 0, 0, 0⟩, [topFrame ⟨0, 0, 0, 0⟩]⟩) := by kernel_rfl
set_option maxHeartbeats 0 in
open PySem.W PySem.Calls in
theorem hq (w : World) : (fun os : OsState => segRunT treeTable pg w 11 (some (.ref 6)) 1 1 (⟨ta0 w.params, 15, {}, #[], PySem.W.boot_drawn, 187, os⟩ : PySem.W.SharedT) (blockOf bd en cE ⟨0, 0, 0, 0⟩ [topFrame ⟨0, 0, 0, 0⟩])) = fun os => some (.next, (⟨ta0 w.params, 15, {}, #[], PySem.W.boot_drawn, 187, os⟩ : PySem.W.SharedT), cE, ⟨0, 0, 0, 0⟩) := by kernel_rfl
set_option maxHeartbeats 0 in
open PySem.W PySem.Calls in
theorem hg1 (w : World) : (fun os : OsState => segRunT treeTable pg w 11 (some (.ref 6)) 1 736 (⟨ta0 w.params, 15, {}, #[], PySem.W.boot_drawn, 187, os⟩ : PySem.W.SharedT) (piecesOf ((bd.drop 0).take 13) en cE ⟨0, 0, 0, 0⟩ [topFrame ⟨0, 0, 0, 0⟩])) = fun os => some (.next, (⟨ta1 w.params, 103, {}, #[], PySem.W.boot_drawn, 329, os⟩ : PySem.W.SharedT), cE, ⟨55, 0, 58, 16⟩) := by kernel_rfl
set_option maxHeartbeats 0 in
open PySem.W PySem.Calls in
theorem hg2 (w : World) : (fun os : OsState => segRunT treeTable pg w 11 (some (.ref 6)) 1 730 (⟨ta1 w.params, 103, {}, #[], PySem.W.boot_drawn, 329, os⟩ : PySem.W.SharedT) (piecesOf ((bd.drop 13).take 3) en cE ⟨55, 0, 58, 16⟩ [topFrame ⟨0, 0, 0, 0⟩])) = fun os => some (.next, (⟨ta2 w.params, 160, {}, #[], PySem.W.boot_drawn, 398, os⟩ : PySem.W.SharedT), cE, ⟨67, 0, 70, 16⟩) := by kernel_rfl
set_option maxHeartbeats 0 in
open PySem.W PySem.Calls in
theorem hg3 (w : World) : (fun os : OsState => segRunT treeTable pg w 11 (some (.ref 6)) 1 514 (⟨ta2 w.params, 160, {}, #[], PySem.W.boot_drawn, 398, os⟩ : PySem.W.SharedT) (piecesOf ((bd.drop 16).take 12) en cE ⟨67, 0, 70, 16⟩ [topFrame ⟨0, 0, 0, 0⟩])) = fun os => some (.next, (⟨ta3 w.params, 233, {}, #[], PySem.W.boot_drawn, 496, os⟩ : PySem.W.SharedT), cE, ⟨119, 0, 122, 78⟩) := by kernel_rfl
set_option maxHeartbeats 0 in
open PySem.W PySem.Calls in
theorem hg4 (w : World) : (fun os : OsState => segRunT treeTable pg w 11 (some (.ref 6)) 1 320 (⟨ta3 w.params, 233, {}, #[], PySem.W.boot_drawn, 496, os⟩ : PySem.W.SharedT) (piecesOf ((bd.drop 28).take 10) en cE ⟨119, 0, 122, 78⟩ [topFrame ⟨0, 0, 0, 0⟩])) = fun os => some (.next, (⟨ta4 w.params, 301, {}, #[], PySem.W.boot_drawn, 597, os⟩ : PySem.W.SharedT), cE, ⟨208, 0, 223, 42⟩) := by kernel_rfl
set_option maxHeartbeats 0 in
open PySem.W PySem.Calls in
theorem hf (w : World) : (fun os : OsState => topRunT treeTable pg w 11 (some (.ref 6)) 2 (⟨ta4 w.params, 301, {}, #[], PySem.W.boot_drawn, 597, os⟩ : PySem.W.SharedT) ⟨doneF .next, cE, ⟨208, 0, 223, 42⟩, [topFrame ⟨0, 0, 0, 0⟩]⟩) = fun os => some (⟨ta4 w.params, 301, {}, #[], PySem.W.boot_drawn, 597, os⟩ : PySem.W.SharedT) := by kernel_rfl
theorem hb : bd = ((bd.drop 0).take 13) ++ (((bd.drop 13).take 3) ++ (((bd.drop 16).take 12) ++ (((bd.drop 28).take 10) ++ []))) := by kernel_rfl
open PySem.W PySem.Calls in
theorem hr (w : World) (os : OsState) : topRun treeTable pg w 11 (some (.ref 6)) (12 + (1 + (736 + (730 + (514 + (320 + 2)))))) ⟨boot_heap w.params, Array.mk [], boot_drawn, boot_toks, os⟩ (topStub pg) = some ⟨absHeap (ta4 w.params) 301 {}, Array.mk [], boot_drawn, 597, os⟩ := by
  have e0 := goT_of (congrFun (hp w) os)
  unfold SharedT.abs at e0
  dsimp only at e0
  rw [h0] at e0
  refine go_top e0 (piece_block (segRun_of (congrFun (hq w) os)) ?_)
  have ef := topRun_of (congrFun (hf w) os)
  unfold SharedT.abs at ef
  rw [hb]
  refine piece_app (segRun_of (congrFun (hg1 w) os)) ?_
  refine piece_app (segRun_of (congrFun (hg2 w) os)) ?_
  refine piece_app (segRun_of (congrFun (hg3 w) os)) ?_
  refine piece_app (segRun_of (congrFun (hg4 w) os)) ?_
  exact piece_nil ef
set_option maxHeartbeats 0 in
open PySem.W PySem.Calls in
theorem hl1 (w : World) : (fun os : OsState => staticsOk (importedModules pg.main.body) (boot_heap w.params) (absHeap (ta4 w.params) 301 {}) && namesBound pg (absHeap (ta4 w.params) 301 {}) && gensDone ⟨absHeap (ta4 w.params) 301 {}, Array.mk [], boot_drawn, 597, os⟩ && laidKept (boot_heap w.params) (absHeap (ta4 w.params) 301 {})) = fun _ => true := by kernel_rfl
set_option maxHeartbeats 0 in
open PySem.W PySem.Calls in
theorem hl2 (w : World) : (fun os : OsState => (openSeen qv [] (importedModules pg.main.body) xt true ⟨absHeap (ta4 w.params) 301 {}, Array.mk [], boot_drawn, 597, os⟩).1) = fun _ => (openGood qv []).1 := by kernel_rfl
set_option maxHeartbeats 0 in
open PySem.W PySem.Calls in
theorem hl3 (w : World) : (fun os : OsState => (openSeen qv [] (importedModules pg.main.body) xt true ⟨absHeap (ta4 w.params) 301 {}, Array.mk [], boot_drawn, 597, os⟩).2) = fun _ => (openGood qv []).2 := by kernel_rfl
set_option maxHeartbeats 0 in
open PySem.W PySem.Calls in
theorem hl4 (w : World) : (fun os : OsState => hk.obs ⟨absHeap (ta4 w.params) 301 {}, Array.mk [], boot_drawn, 597, os⟩) = fun _ => hk.val w := by kernel_rfl
theorem hl : PySem.W.LeftO lw.row.prog qv [] xt hk.obs hk.val 4718 := left2 (p := pg) (by kernel_rfl) (by kernel_rfl) (fun _ => by kernel_rfl) (fun _ => by kernel_rfl) hr (by kernel_rfl) hl1 hl2 hl3 hl4
theorem ws : lw.wellSaid = true := by kernel_rfl
end My

namespace L2
open PySem PySem.Spec PyProof.Rows

noncomputable abbrev Key := Sum Int Str
noncomputable def keyIs : Key → Value → Bool
  | .inl k, v => Value.isInt k v
  | .inr x, v => Value.isStrOf x v
noncomputable def keyH (w : World) : Key → Int
  | .inl k => hashInt k
  | .inr x => hashStr w x
theorem keyIs_shape : ∀ {k : Key} {v : Value}, keyIs k v = true → (∃ i t, k = Sum.inl i ∧ v = Value.int i t) ∨ (∃ x t, k = Sum.inr x ∧ v = Value.str x t)
  | .inl i, v, h => by
    obtain ⟨t, e⟩ := Value.isInt_shape (k := i) (v := v) h
    exact .inl ⟨i, t, rfl, e⟩
  | .inr x, v, h => by
    obtain ⟨t, e⟩ := Value.isStrOf_shape (x := x) (v := v) h
    exact .inr ⟨x, t, rfl, e⟩
theorem key_ll (a b : Int) : decide ((Sum.inl a : Key) = Sum.inl b) = (a == b) := by
  by_cases e : a = b
  · subst e; simp
  · have h : ¬ (Sum.inl a : Key) = Sum.inl b := fun q => e (Sum.inl.inj q)
    rw [decide_eq_false h]
    exact (beq_eq_false_iff_ne.mpr e).symm
theorem key_rr (a b : Str) : decide ((Sum.inr a : Key) = Sum.inr b) = decide (a = b) := by
  by_cases e : a = b
  · subst e; simp
  · have h : ¬ (Sum.inr a : Key) = Sum.inr b := fun q => e (Sum.inr.inj q)
    rw [decide_eq_false h, decide_eq_false e]
theorem key_lr (a : Int) (b : Str) : decide ((Sum.inl a : Key) = Sum.inr b) = false := decide_eq_false (fun q => nomatch q)
theorem key_rl (a : Str) (b : Int) : decide ((Sum.inr a : Key) = Sum.inl b) = false := decide_eq_false (fun q => nomatch q)

noncomputable def mixKind (prog : Program) (w : World) : PySem.KeyKind prog w Key where
  is := keyIs
  hash := keyH w
  inj := fun v a b ha hb => by
    rcases keyIs_shape ha with ⟨i, t, rfl, rfl⟩ | ⟨x, t, rfl, rfl⟩
    · rcases keyIs_shape hb with ⟨j, u, rfl, e⟩ | ⟨y, u, rfl, e⟩
      · injection e with e1 _; rw [e1]
      · exact nomatch e
    · rcases keyIs_shape hb with ⟨j, u, rfl, e⟩ | ⟨y, u, rfl, e⟩
      · exact nomatch e
      · injection e with e1 _; rw [e1]
  byValue := fun k v h => by
    rcases keyIs_shape h with ⟨i, t, rfl, rfl⟩ | ⟨x, t, rfl, rfl⟩ <;> rfl
  pyHash := fun hv h => by
    rcases keyIs_shape hv with ⟨i, t, rfl, rfl⟩ | ⟨x, t, rfl, rfl⟩
    · exact wpAny_pyHash_int h
    · exact wpAny_pyHash_str h
  eqBool := fun hu hv h => by
    rcases keyIs_shape hu with ⟨i, t, rfl, rfl⟩ | ⟨x, t, rfl, rfl⟩
    · rcases keyIs_shape hv with ⟨j, u, rfl, rfl⟩ | ⟨y, u, rfl, rfl⟩
      · rw [key_ll] at h; exact wpAny_eqBool_int h
      · rw [key_lr] at h; exact SeqAt.EqAt.int_str i t y u _ _ _ _ h
    · rcases keyIs_shape hv with ⟨j, u, rfl, rfl⟩ | ⟨y, u, rfl, rfl⟩
      · rw [key_rl] at h; exact SeqAt.EqAt.str_int x t j u _ _ _ _ h
      · rw [key_rr] at h; exact wpAny_eqBool_str h
  «strs» := fun k x t v h => by
    rcases keyIs_shape h with ⟨i, u, rfl, e⟩ | ⟨y, u, rfl, e⟩
    · exact nomatch e
    · injection e with e1 _
      subst e1
      cases v <;> rfl

end L2

namespace L2
open PySem PySem.Spec PyProof.Rows

inductive V where
  | non | bl (b : Bool) | int (i : Int) | str (x : Str) | byt (b : Array UInt8) | flt (b : UInt64) | ref (a : Addr) | ty (n : String)
  deriving DecidableEq

noncomputable def RelV : V → Value → Prop
  | .non, u => u = Value.none
  | .bl b, u => u = Value.bool b
  | .int i, u => ∃ t, u = Value.int i t
  | .str x, u => ∃ t, u = Value.str x t
  | .byt b, u => ∃ t, u = Value.bytes b t
  | .flt b, u => ∃ t, u = Value.float b t
  | .ref a, u => u = Value.ref a
  | .ty n, u => u = Value.type n

noncomputable abbrev Vals : List V → List Value → Prop := Paired RelV
theorem Vals.length {xs : List V} {us : List Value} (r : Vals xs us) : xs.length = us.length := Paired.length r
theorem Vals.get : ∀ {xs : List V} {us : List Value} {i : Nat} {x : V}, Vals xs us → xs[i]? = some x → ∃ u, us[i]? = some u ∧ RelV x u
  | _, _, _, _, .nil, e => by simp at e
  | _, _, 0, _, .cons r _, e => by simp at e; subst e; exact ⟨_, rfl, r⟩
  | _, _, i + 1, x, .cons _ t, e => by
    obtain ⟨u, h1, h2⟩ := Vals.get (i := i) (x := x) t (by simpa using e)
    exact ⟨u, by simpa using h1, h2⟩
theorem Vals.append : ∀ {xs ys : List V} {us ws : List Value}, Vals xs us → Vals ys ws → Vals (xs ++ ys) (us ++ ws)
  | _, _, _, _, .nil, s => s
  | _, _, _, _, .cons r t, s => .cons r (Vals.append t s)
noncomputable def RelO : Option V → Option Value → Prop
  | some v, some u => RelV v u
  | none, none => True
  | _, _ => False
noncomputable def KV {κ : Type} : List (κ × V) → List (κ × Value) → Prop := Paired fun (p : κ × V) (q : κ × Value) => p.1 = q.1 ∧ RelV p.2 q.2

noncomputable def kV : Key → V
  | .inl i => .int i
  | .inr x => .str x

inductive HO where
    | lst (xs : List V)
    | tup (xs : List V)
    | dK (kvs : List (Key × V)) | dT (kvs : List (List Key × V))
    | set (S : Int → Bool) (n : Nat)
    | ins (C dx : Addr) (fs : List (Str × V))
    | own (x : Addr)
    | xd (fs : List (Str × V))
    | met (f x : Addr)
    | rng (lo hi : Int)
    | frz (o : Obj) (u : HO)
    | tbl (ps : Array Value)
    | ext (φ : Heap → Prop)

noncomputable abbrev Hp := Addr → Option HO
noncomputable def upd (H : Hp) (a : Addr) (o : HO) : Hp := fun b => if b = a then some o else H b
theorem upd_same {H : Hp} {a : Addr} {o : HO} : upd H a o a = some o := by unfold upd; rw [if_pos rfl]
theorem upd_ne {H : Hp} {a b : Addr} {o : HO} (h : b ≠ a) : upd H a o b = H b := by unfold upd; rw [if_neg h]
theorem ne_of_none {H : Hp} {a b : Addr} {o : HO} (h : H a = some o) (h' : H b = none) : a ≠ b := by
  intro e; subst e; rw [h] at h'; cases h'

section
variable (P : Program) (w : World)
noncomputable def ObjOk (H : Hp) (h : Heap) (a : Addr) : HO → Prop
  | .lst xs => xs.length ≤ sizeLine ∧ ∃ (its : List Value) (n : Nat), Vals xs its ∧ h.get? a = some { cls := .type "list", data := .seq its.toArray n }
  | .tup xs => xs.length ≤ sizeLine ∧ ∃ its : List Value, Vals xs its ∧ IsTup h a its.toArray
  | .dK kvs => kvs.length ≤ sizeLine ∧ (a == sysModules) = false ∧ ∃ vs, KV kvs vs ∧ h.DictOf (mixKind P w) a vs
  | .dT kvs => kvs.length ≤ sizeLine ∧ (a == sysModules) = false ∧ ∃ xs : List (List Key × Addr × Value),
      Paired (fun (p : List Key × V) (q : List Key × Addr × Value) => p.1 = q.1 ∧ H q.2.1 = some (.tup (p.1.map kV)) ∧ RelV p.2 q.2.2) kvs xs ∧
      ∃ o es ep, h.get? a = some o ∧ o.ExactDict ∧ o.data = .dict es ep ∧ es.toList = xs.map (entryOfKey (tupleKind (mixKind P w))) ∧ (xs.map (·.1)).Nodup
  | .set S n => h.SetOf (intKind P w) a S n
  | .ins C dx fs => H dx = some (.own a) ∧ fs.length ≤ 1000 ∧ dx ≠ a ∧ h.get? a = some (PySem.W.instObj C dx) ∧
      ∃ mA, h.Ns1 dx mA ∧ (∀ f, RelO (fs.lookup f) (mA f)) ∧ PySem.Within mA (fs.map (·.1))
  | .own _ => ∃ o, h.get? a = some o
  | .xd fs => ∃ mA, h.Ns1 a mA ∧ ∀ f, RelO (fs.lookup f) (mA f)
  | .rng lo hi => ∃ t u v, h.get? a = some { cls := .type "range", data := .fields #[.int lo t, .int hi u, .int 1 v] }
  | .frz o u => h.get? a = some o ∧ ObjOk H h a u
  | .tbl ps => h.get? a = some { cls := .none, data := .fields ps }
  | .met f x => h.get? a = some (PySem.W.methodObj (.ref f) (.ref x))
  | .ext φ => φ h ∧ (∃ o, h.get? a = some o) ∧ ∀ h1 h2 : Heap, φ h1 → (∀ o, h1.get? a = some o → h2.get? a = some o) → φ h2
noncomputable def HOk (H : Hp) (h : Heap) : Prop := ∀ a o, H a = some o → ObjOk P w H h a o
end

section
variable {P : Program} {w : World} {H H' : Hp} {h h' : Heap} {a : Addr} {o : HO}
theorem ObjOk.lt (x : ObjOk P w H h a o) : a < h.objs.size := by
  cases o with
  | lst xs => obtain ⟨_, _, _, _, e⟩ := x; exact Heap.lt_size e
  | tup xs => obtain ⟨_, _, _, p⟩ := x; exact p.lt
  | dK kvs => obtain ⟨_, _, _, _, o, _, _, e, _⟩ := x; exact Heap.lt_size e
  | dT kvs => obtain ⟨_, _, _, _, o, _, _, e, _⟩ := x; exact Heap.lt_size e
  | set S n => obtain ⟨o, _, _, _, e, _⟩ := x; exact Heap.lt_size e
  | ins C dx fs => obtain ⟨_, _, _, e, _⟩ := x; exact Heap.lt_size e
  | own y => obtain ⟨_, e⟩ := x; exact Heap.lt_size e
  | xd fs => obtain ⟨_, ⟨_, _, _, e, _⟩, _⟩ := x; exact Heap.lt_size e
  | rng lo hi => obtain ⟨_, _, _, e⟩ := x; exact Heap.lt_size e
  | frz ob u => obtain ⟨e, _⟩ := x; exact Heap.lt_size e
  | tbl ps => exact Heap.lt_size (show h.get? a = some _ from x)
  | met f y => exact Heap.lt_size (show h.get? a = some _ from x)
  | ext φ => obtain ⟨_, ⟨_, e⟩, _⟩ := x; exact Heap.lt_size e
theorem Paired.mapP {α β : Type} {F G : α → β → Prop} : ∀ {l₁ : List α} {l₂ : List β}, Paired F l₁ l₂ → (∀ a b, F a b → G a b) → Paired G l₁ l₂
  | _, _, .nil, _ => .nil
  | _, _, .cons r t, f => .cons (f _ _ r) (Paired.mapP t f)
theorem ObjOk.stay (x : ObjOk P w H h a o) (k : ∀ b u, (b = a ∨ H b = some (.own a)) → h.get? b = some u → h'.get? b = some u)
    (ho : ∀ b, H b = some (.own a) → H' b = some (.own a)) (ht : ∀ b xs, H b = some (.tup xs) → H' b = some (.tup xs)) : ObjOk P w H' h' a o := by
  induction o with
  | lst xs => obtain ⟨z, its, n, r, e⟩ := x; exact ⟨z, its, n, r, k _ _ (.inl rfl) e⟩
  | tup xs => obtain ⟨z, its, r, ob, e, c⟩ := x; exact ⟨z, its, r, ob, k _ _ (.inl rfl) e, c⟩
  | dK kvs => obtain ⟨z, y, vs, r, ob, es, ep, e, c⟩ := x; exact ⟨z, y, vs, r, ob, es, ep, k _ _ (.inl rfl) e, c⟩
  | dT kvs =>
    obtain ⟨z, y, xs, r, ob, es, ep, e, c⟩ := x
    exact ⟨z, y, xs, Paired.mapP r fun p q z => ⟨z.1, ht _ _ z.2.1, z.2.2⟩, ob, es, ep, k _ _ (.inl rfl) e, c⟩
  | set S n => obtain ⟨ob, es, ep, t, e, c⟩ := x; exact ⟨ob, es, ep, t, k _ _ (.inl rfl) e, c⟩
  | ins C dx fs =>
    obtain ⟨d, z, ne, e, mA, ⟨od, es, ep, e2, c⟩, r⟩ := x
    exact ⟨ho _ d, z, ne, k _ _ (.inl rfl) e, mA, ⟨od, es, ep, k _ _ (.inr d) e2, c⟩, r⟩
  | own y => obtain ⟨ob, e⟩ := x; exact ⟨ob, k _ _ (.inl rfl) e⟩
  | xd fs => obtain ⟨mA, ⟨od, es, ep, e, c⟩, r⟩ := x; exact ⟨mA, ⟨od, es, ep, k _ _ (.inl rfl) e, c⟩, r⟩
  | rng lo hi => obtain ⟨t, u, v, e⟩ := x; exact ⟨t, u, v, k _ _ (.inl rfl) e⟩
  | frz ob u ih => obtain ⟨e, q⟩ := x; exact ⟨k _ _ (.inl rfl) e, ih q⟩
  | tbl ps =>
    have e : h.get? a = some { cls := .none, data := .fields ps } := x
    show h'.get? a = some { cls := .none, data := .fields ps }
    exact k a _ (.inl rfl) e
  | met f y =>
    have e : h.get? a = some (PySem.W.methodObj (.ref f) (.ref y)) := x
    show h'.get? a = some (PySem.W.methodObj (.ref f) (.ref y))
    exact k a _ (.inl rfl) e
  | ext φ => obtain ⟨p, ⟨o, e⟩, st⟩ := x; exact ⟨st _ _ p fun o q => k _ _ (.inl rfl) q, ⟨o, k _ _ (.inl rfl) e⟩, st⟩
theorem HOk.lt (x : HOk P w H h) (e : H a = some o) : a < h.objs.size := (x a o e).lt
theorem HOk.fresh (x : HOk P w H h) (e : h.objs.size ≤ a) : H a = none := by
  cases q : H a with
  | none => rfl
  | some u => exact absurd (Nat.lt_of_lt_of_le (x.lt q) e) (Nat.lt_irrefl _)
theorem HOk.kept (x : HOk P w H h) (k : ∀ b u, h.get? b = some u → h'.get? b = some u) : HOk P w H h' := fun a o e =>
  (x a o e).stay (fun b u _ q => k b u q) (fun _ q => q) fun _ _ q => q
theorem HOk.laid (x : HOk P w H h) (k : ∀ b u, h.get? b = some u → h'.get? b = some u) (hp : h.objs.size ≤ a) (new : ObjOk P w (upd H a o) h' a o) : HOk P w (upd H a o) h' := fun b u e => by
  have hn := x.fresh hp
  by_cases hb : b = a
  · subst hb; rw [upd_same] at e; cases e; exact new
  · rw [upd_ne hb] at e
    exact (x b u e).stay (fun c v _ q => k c v q) (fun c q => by rw [upd_ne (ne_of_none q hn)]; exact q) fun c xs q => by rw [upd_ne (ne_of_none q hn)]; exact q
end

noncomputable def Rd (H : Hp) (a : Addr) (u : HO) : Prop := H a = some u ∨ ∃ o, H a = some (.frz o u)
theorem Rd.ok {P : Program} {w : World} {H : Hp} {h : Heap} {a : Addr} {u : HO} (r : Rd H a u) (x : HOk P w H h) : ObjOk P w H h a u := by
  rcases r with r | ⟨o, r⟩
  · exact x a u r
  · obtain ⟨_, q⟩ := x a _ r
    exact q
noncomputable def Mut : Option HO → Prop
  | some (.lst _) => True
  | some (.dK _) => True
  | some (.dT _) => True
  | some (.set _ _) => True
  | some (.ins _ _ _) => True
  | some (.ext _) => True
  | _ => False
section
variable {P : Program} {w : World} {H : Hp} {h h' : Heap} {x e : Addr} {o' : HO}
theorem HOk.write (ok : HOk P w H h) (mu : Mut (H x)) (he : e = x ∨ H e = some (.own x)) (k : ∀ b u, b ≠ e → h.get? b = some u → h'.get? b = some u) (heo : ∃ u, h'.get? e = some u)
    (new : ObjOk P w (upd H x o') h' x o') : HOk P w (upd H x o') h' := fun b u q => by
  have nown : ∀ c y, H c = some (.own y) → c ≠ x := fun c y r z => by subst z; rw [r] at mu; exact mu
  have ntup : ∀ c xs, H c = some (.tup xs) → c ≠ x := fun c xs r z => by subst z; rw [r] at mu; exact mu
  by_cases hb : b = x
  · subst hb; rw [upd_same] at q; cases q; exact new
  · rw [upd_ne hb] at q
    by_cases hbe : b = e
    · have q' : H b = some (.own x) := by
        rcases he with z | z
        · exact absurd (hbe.trans z) hb
        · rw [hbe]; exact z
      rw [q] at q'; cases q'
      obtain ⟨v, hv⟩ := heo
      exact ⟨v, by rw [hbe]; exact hv⟩
    · refine (ok b u q).stay (fun c v hc r => k c v ?_ r) (fun c r => by rw [upd_ne (nown c b r)]; exact r) fun c xs r => by rw [upd_ne (ntup c xs r)]; exact r
      rcases hc with rfl | hc
      · exact hbe
      · rintro rfl
        rcases he with z | z
        · exact nown c b hc z
        · rw [hc] at z; cases z; exact hb rfl
end

structure Un (fs ex : List Addr) (H H' : Hp) (h h' : Heap) : Prop where
  keep : ∀ b o, h.get? b = some o → H b = none → b ∉ fs → b ∉ ex → h'.get? b = some o
  slot : ∀ b o, h.get? b = some o → H b = none → b ∈ fs → b ∉ ex → ∃ sl, h'.get? b = some { o with slots := sl }
  free : ∀ b o, h.get? b = some o → H b = none → b ∉ ex → H' b = none
  there : ∀ b o, h.get? b = some o → b ∉ ex → ∃ o', h'.get? b = some o'
  tups : ∀ b xs, H b = some (.tup xs) → H' b = some (.tup xs)
  frzs : ∀ b o u, H b = some (.frz o u) → H' b = some (.frz o u)
  tbls : ∀ b ps, H b = some (.tbl ps) → ∃ more, H' b = some (.tbl (ps ++ more))
section
variable {fs fs' ex ex' : List Addr} {H H1 H2 : Hp} {h h1 h2 h' : Heap} {a x e : Addr} {o : HO}
theorem Un.any (u : Un fs ex H H1 h h1) {b : Addr} {ob : Obj} (q : h.get? b = some ob) (n : H b = none) (hx : b ∉ ex) : ∃ sl, h1.get? b = some { ob with slots := sl } := by
  by_cases hb : b ∈ fs
  · exact u.slot b ob q n hb hx
  · exact ⟨ob.slots, u.keep b ob q n hb hx⟩
theorem Un.kept (k : ∀ b u, h.get? b = some u → h'.get? b = some u) : Un fs ex H H h h' :=
  ⟨fun b ob q _ _ _ => k b ob q, fun b ob q _ _ _ => ⟨ob.slots, k b ob q⟩, fun _ _ _ n _ => n, fun b ob q _ => ⟨ob, k b ob q⟩, fun _ _ q => q, fun _ _ _ q => q, fun _ ps q => ⟨#[], by rw [q]; simp⟩⟩
theorem Un.refl : Un fs ex H H h h := Un.kept fun _ _ q => q
theorem Un.laid (k : ∀ b u, h.get? b = some u → h'.get? b = some u) (hp : h.objs.size ≤ a) (hn : H a = none) : Un fs ex H (upd H a o) h h' where
  keep := fun b u q _ _ _ => k b u q
  slot := fun b u q _ _ _ => ⟨u.slots, k b u q⟩
  free := fun b u q n _ => by rw [upd_ne (Nat.ne_of_lt (Nat.lt_of_lt_of_le (Heap.lt_size q) hp))]; exact n
  there := fun b u q _ => ⟨u, k b u q⟩
  tups := fun b xs q => by rw [upd_ne (ne_of_none q hn)]; exact q
  frzs := fun b u xs q => by rw [upd_ne (ne_of_none q hn)]; exact q
  tbls := fun b ps q => ⟨#[], by rw [upd_ne (ne_of_none q hn), q]; simp⟩
theorem Un.write (mu : Mut (H x)) (he : e = x ∨ H e = some (.own x)) (k : ∀ b u, b ≠ e → h.get? b = some u → h'.get? b = some u) (heo : ∃ u, h'.get? e = some u) : Un fs ex H (upd H x o) h h' := by
  have hx : ∀ b, H b = none → b ≠ x := fun b n z => by subst z; rw [n] at mu; exact mu
  have hb : ∀ b, H b = none → b ≠ e := fun b n z => by
    subst z
    rcases he with r | r
    · exact hx b n r
    · rw [n] at r; cases r
  have hm : ∀ b u, H b = some u → ¬ Mut (some u) → b ≠ x := fun b u q nm z => by subst z; rw [q] at mu; exact nm mu
  refine ⟨fun b u q n _ _ => k b u (hb b n) q, fun b u q n _ _ => ⟨u.slots, k b u (hb b n) q⟩, fun b u q n _ => by rw [upd_ne (hx b n)]; exact n, fun b u q _ => ?_,
    fun b xs q => by rw [upd_ne (hm b _ q fun z => z)]; exact q, fun b u xs q => by rw [upd_ne (hm b _ q fun z => z)]; exact q, fun b ps q => ⟨#[], by rw [upd_ne (hm b _ q fun z => z), q]; simp⟩⟩
  by_cases hbe : b = e
  · subst hbe; exact heo
  · exact ⟨u, k b u hbe q⟩
end

noncomputable def trk (h : Heap) (H : Hp) : List Addr := (List.range h.objs.size).filter fun a => (H a).isSome
noncomputable def hidT (h : Heap) (H : Hp) : Heap := PySem.W.hideAll h (trk h H)
theorem hidT_size (h : Heap) (H : Hp) : (hidT h H).objs.size = h.objs.size := PySem.W.hideAll_size _ _
theorem hidT_get {h : Heap} {H : Hp} {b : Addr} {o : Obj} (e : h.get? b = some o) (n : H b = none) : (hidT h H).get? b = some o :=
  PySem.W.hideAll_get _ e fun hm => by
    have q : (H b).isSome = true := (List.mem_filter.mp hm).2
    rw [n] at q; simp at q
theorem of_hidT {h : Heap} {H : Hp} {b : Addr} {o : Obj} (e : (hidT h H).get? b = some o) : h.get? b = some o ∧ H b = none := by
  have e' : h.get? b = some o := PySem.W.of_hideAll (trk h H) e
  refine ⟨e', ?_⟩
  cases q : H b with
  | none => rfl
  | some x =>
    have hm : b ∈ trk h H := List.mem_filter.mpr ⟨List.mem_range.mpr (Heap.lt_size e'), by simp [q]⟩
    have z : (hidT h H).get? b = none := PySem.W.hideAll_none (trk h H) hm
    rw [z] at e; cases e

end L2

namespace L2
open PySem PySem.Spec PyProof.Rows

structure Mod (K : PySem.W.Frag) (mg : Str → Option Value) (base : Heap) : Prop where
  kin : K.In base
  glob : base.Ns mainGlobals mg
  blt : ∃ mb, base.Ns builtinsNs mb ∧ ∀ x : Str, x ≠ "__name__" → mb x = bootBuiltins x
  nolimit : base.NoLimit

structure Cx where
  prog : Program
  w : World
  K : PySem.W.Frag
  mg : Str → Option Value
  base : Heap
  A : Around
  N : List Str
  s₀ : Shared
  H₀ : Hp
  env : Env
  outer : List Env
  stack : List Env
  ex : List Addr
  fn : Str → Bool
  calm : Bool
  pn : List (Addr × Obj)
  xe : Value → Shared → Prop
noncomputable def frs (l : List Env) : List Addr := l.filterMap (·.frame)
noncomputable abbrev Cx.fs (X : Cx) : List Addr := frs X.outer

noncomputable def Vis (sc : Scope) (x : Str) : Prop := sc.names.lookup x = some .local ∨ sc.names.lookup x = some .cell ∨ sc.names.lookup x = some .free
noncomputable def Loc (sc : Scope) (x : Str) : Prop := sc.names.lookup x = some .local ∨ sc.names.lookup x = some .cell
noncomputable def Look (env : Env) (h : Heap) (m : Str → Option Value) (x : Str) (u : Value) : Prop :=
  (env.kindOf x = some .local ∧ m x = some u) ∨ ((env.kindOf x = some .cell ∨ env.kindOf x = some .free) ∧ ∃ c, env.cells.lookup x = some c ∧ h.IsCell c (some u))

structure Cx.Ok (X : Cx) : Prop where
  mod : Mod X.K X.mg X.base
  kind : X.env.scope.kind = .function
  glob : X.env.globals = mainGlobals
  blt : X.env.builtins = builtinsNs
  above : X.s₀.heap.objs.size ≤ X.env.locals
  inj : ∀ x y c, X.env.cells.lookup x = some c → X.env.cells.lookup y = some c → x = y
  has : ∀ x, (X.env.kindOf x = some .cell ∨ X.env.kindOf x = some .free) → ∃ c, X.env.cells.lookup x = some c
  cab : ∀ x c, X.fn x = true → X.env.cells.lookup x = some c → X.s₀.heap.objs.size ≤ c
  hd : X.calm = true → X.A.handled = none
  frames : X.A.frames = some X.stack
  stk : X.stack = X.outer ∨ (X.stack = X.env :: X.outer ∧ X.env.frame = some X.env.locals)
  exf : ∀ b ∈ X.ex, b ≠ X.env.locals ∧ ∀ x c, X.env.cells.lookup x = some c → c ≠ b
  bs : ∀ b o, X.base.get? b = some o → X.s₀.heap.get? b = some o ∧ X.H₀ b = none
  bsz : X.base.objs.size ≤ X.s₀.heap.objs.size
  noex : ∀ b o, X.base.get? b = some o → b ∉ X.ex
  exfs : ∀ b ∈ X.ex, b ∉ X.fs
  funs : X.s₀.heap.FunFrames X.base X.outer
  frf : ∀ b ∈ X.fs, X.H₀ b = none

structure Inv (X : Cx) (pins : List (Addr × Obj)) (σ : List (Option V)) (H : Hp) (s : Shared) : Prop where
  ok : X.Ok
  os : s.os = X.s₀.os
  bare : AllBare s.gens
  base : Un X.fs X.ex X.H₀ H X.s₀.heap s.heap
  loc : ∃ m, s.heap.Ns X.env.locals m ∧ ∀ (i : Nat) (x : Str) (v : V), X.N[i]? = some x → σ[i]? = some (some v) → Vis X.env.scope x → ∃ u, RelV v u ∧ Look X.env s.heap m x u
  cell : ∀ x c, X.env.cells.lookup x = some c → ∃ v, s.heap.IsCell c v
  free : H X.env.locals = none
  freeC : ∀ x c, X.env.cells.lookup x = some c → H c = none
  pin : ∀ p ∈ X.pn ++ pins, s.heap.get? p.1 = some p.2 ∧ H p.1 = none ∧ p.1 ≠ X.env.locals ∧ p.1 ∉ X.fs ∧ ∀ v, p.2.data ≠ .cell v
  hok : HOk X.prog X.w H s.heap
  len : σ.length = X.N.length

section
variable {X : Cx} {pins : List (Addr × Obj)} {σ : List (Option V)} {H H' : Hp} {s : Shared} {h' : Heap}

theorem Cx.Ok.nofr (ok : X.Ok) {b : Addr} {o : Obj} (e : X.base.get? b = some o) : b ∉ X.fs := fun hb => by
  have := (ok.funs.mem hb).1
  rw [e] at this; cases this
theorem Inv.bs (I : Inv X pins σ H s) : ∀ b o, X.base.get? b = some o → s.heap.get? b = some o ∧ H b = none := fun b o e =>
  ⟨I.base.keep b o (I.ok.bs b o e).1 (I.ok.bs b o e).2 (I.ok.nofr e) (I.ok.noex b o e), I.base.free b o (I.ok.bs b o e).1 (I.ok.bs b o e).2 (I.ok.noex b o e)⟩
theorem Inv.bk (I : Inv X pins σ H s) : ∀ b o, X.base.get? b = some o → s.heap.get? b = some o := fun b o e => (I.bs b o e).1
theorem Inv.mod (I : Inv X pins σ H s) : Mod X.K X.mg X.base := I.ok.mod
theorem Inv.kIn (I : Inv X pins σ H s) : X.K.In s.heap := I.ok.mod.kin.keeps I.bk
theorem Inv.lt (I : Inv X pins σ H s) : X.env.locals < s.heap.objs.size := let ⟨_, hn, _⟩ := I.loc; hn.lt
theorem Inv.sz (I : Inv X pins σ H s) : X.s₀.heap.objs.size ≤ s.heap.objs.size := Nat.le_trans I.ok.above (Nat.le_of_lt I.lt)
theorem Inv.nofs (I : Inv X pins σ H s) {a : Addr} (h : s.heap.objs.size ≤ a) : a ∉ X.fs := fun hb => by
  obtain ⟨_, o, ho, _⟩ := I.ok.funs.mem hb
  exact absurd (Nat.lt_of_lt_of_le (Heap.lt_size ho) (Nat.le_trans I.sz h)) (Nat.lt_irrefl _)
theorem Inv.cne (I : Inv X pins σ H s) : ∀ x c, X.env.cells.lookup x = some c → c ≠ X.env.locals := fun x c e z => by
  obtain ⟨v, o, ho, hd⟩ := I.cell x c e
  obtain ⟨m, ⟨o', es, ep, ho', hd', _⟩, _⟩ := I.loc
  rw [z, ho'] at ho; cases ho; rw [hd'] at hd; cases hd
theorem Inv.funs (I : Inv X pins σ H s) : s.heap.FunFrames X.base X.outer := by
  have all : ∀ (l : List Env), (∀ b ∈ frs l, b ∈ X.fs) → X.s₀.heap.FunFrames X.base l → s.heap.FunFrames X.base l := by
    intro l
    induction l with
    | nil => intro _ _; trivial
    | cons env r ih =>
      intro hs hl
      obtain ⟨hk, ⟨L, o, hf, hn, ho, hd⟩, hr⟩ := hl
      have hL : L ∈ X.fs := hs L (by unfold frs; rw [List.filterMap_cons, hf]; exact List.mem_cons_self)
      obtain ⟨sl, e⟩ := I.base.slot L o ho (I.ok.frf L hL) hL fun z => I.ok.exfs L z hL
      exact ⟨hk, ⟨L, _, hf, hn, e, hd⟩, ih (fun b hb => hs b (by unfold frs; rw [List.filterMap_cons, hf]; exact List.mem_cons_of_mem _ hb)) hr⟩
  exact all X.outer (fun _ hb => hb) I.ok.funs

theorem Inv.stack (I : Inv X pins σ H s) : s.heap.FunFrames X.base X.stack := by
  rcases I.ok.stk with e | ⟨e, hf⟩
  · rw [e]; exact I.funs
  · rw [e]
    obtain ⟨m, hn, _⟩ := I.loc
    refine .cons (by rw [I.ok.kind]; decide) hf hn ?_ I.funs
    exact Heap.get?_none_of_le (Nat.le_trans I.ok.bsz I.ok.above)
theorem Inv.stkSub (I : Inv X pins σ H s) : ∀ b ∈ frs X.stack, b ∈ X.env.locals :: X.fs := fun b hb => by
  rcases I.ok.stk with e | ⟨e, hf⟩
  · rw [e] at hb; exact List.mem_cons_of_mem _ hb
  · rw [e] at hb
    unfold frs at hb
    rw [List.filterMap_cons, hf] at hb
    exact hb
theorem Inv.stkFree (I : Inv X pins σ H s) : ∀ b ∈ frs X.stack, H b = none := fun b hb => by
  rcases List.mem_cons.mp (I.stkSub b hb) with e | hb
  · rw [e]; exact I.free
  · obtain ⟨_, o, ho, _⟩ := I.ok.funs.mem hb
    exact I.base.free b o ho (I.ok.frf b hb) fun z => I.ok.exfs b z hb

theorem Inv.step {g' : Array GenState} {t' : Nat} {d' : Drawn} {ch : List Addr} (I : Inv X pins σ H s)
    (hch : ∀ b ∈ ch, (b ∈ X.ex ∨ X.s₀.heap.objs.size ≤ b) ∧ b ≠ X.env.locals ∧ (∀ x c, X.env.cells.lookup x = some c → c ≠ b) ∧ ∀ p ∈ X.pn ++ pins, p.1 ≠ b)
    (keep : ∀ b o, b ≠ X.env.locals → b ∉ X.fs → b ∉ ch → s.heap.get? b = some o → H b = none → h'.get? b = some o)
    (slot : ∀ b o, b ≠ X.env.locals → b ∈ X.fs → b ∉ ch → s.heap.get? b = some o → H b = none → ∃ sl, h'.get? b = some { o with slots := sl }) (free : ∀ b o, b ∉ ch → s.heap.get? b = some o → H b = none → H' b = none)
    (there : ∀ b o, b ∉ ch → s.heap.get? b = some o → ∃ o', h'.get? b = some o')
    (tups : ∀ b xs, H b = some (.tup xs) → H' b = some (.tup xs)) (frzs : ∀ b o u, H b = some (.frz o u) → H' b = some (.frz o u)) (tbls : ∀ b ps, H b = some (.tbl ps) → ∃ more, H' b = some (.tbl (ps ++ more)))
    (ns : ∀ m, s.heap.Ns X.env.locals m → h'.Ns X.env.locals m) (hok : HOk X.prog X.w H' h') (hg : AllBare g') :
    Inv X pins σ H' { s with heap := h', gens := g', drawn := d', toks := t' } := by
  have neL : ∀ b o, X.s₀.heap.get? b = some o → b ≠ X.env.locals := fun b o e => Nat.ne_of_lt (Nat.lt_of_lt_of_le (Heap.lt_size e) I.ok.above)
  have neC : ∀ b o, X.s₀.heap.get? b = some o → b ∉ X.ex → b ∉ ch := fun b o e hx hb => by
    rcases (hch b hb).1 with z | z
    · exact hx z
    · exact absurd (Nat.lt_of_lt_of_le (Heap.lt_size e) z) (Nat.lt_irrefl _)
  have cellK : ∀ x c, X.env.cells.lookup x = some c → ∀ v, s.heap.IsCell c v → h'.IsCell c v := fun x c e v hq__ => by
    obtain ⟨o, ho, hd⟩ := hq__
    have nch : c ∉ ch := fun z => (hch c z).2.2.1 x c e rfl
    by_cases hc : c ∈ X.fs
    · obtain ⟨sl, q⟩ := slot c o (I.cne x c e) hc nch ho (I.freeC x c e)
      exact ⟨_, q, hd⟩
    · exact ⟨o, keep c o (I.cne x c e) hc nch ho (I.freeC x c e), hd⟩
  refine ⟨I.ok, I.os, hg, ⟨fun b o e n hb hx => ?_, fun b o e n hb hx => ?_, fun b o e n hx => ?_, fun b o e hx => ?_, fun b xs e => tups b xs (I.base.tups b xs e), fun b o xs e => frzs b o xs (I.base.frzs b o xs e), fun b ps e => ?_⟩, ?_, fun x c e => ?_, ?_, fun x c e => ?_, fun p hp => ?_, hok, I.len⟩
  · exact keep b o (neL b o e) hb (neC b o e hx) (I.base.keep b o e n hb hx) (I.base.free b o e n hx)
  · obtain ⟨sl, e1⟩ := I.base.slot b o e n hb hx
    obtain ⟨sl', e2⟩ := slot b _ (neL b o e) hb (neC b o e hx) e1 (I.base.free b o e n hx)
    exact ⟨sl', e2⟩
  · obtain ⟨o', e1⟩ := I.base.there b o e hx
    exact free b o' (neC b o e hx) e1 (I.base.free b o e n hx)
  · obtain ⟨o', e1⟩ := I.base.there b o e hx
    exact there b o' (neC b o e hx) e1
  · obtain ⟨m1, e1⟩ := I.base.tbls b ps e
    obtain ⟨m2, e2⟩ := tbls b _ e1
    exact ⟨m1 ++ m2, by rw [e2, Array.append_assoc]⟩
  · obtain ⟨m, hn, hl⟩ := I.loc
    refine ⟨m, ns m hn, fun i x v e1 e2 e3 => ?_⟩
    obtain ⟨u, r, l⟩ := hl i x v e1 e2 e3
    refine ⟨u, r, ?_⟩
    rcases l with l | ⟨k, c, e, z⟩
    · exact .inl l
    · exact .inr ⟨k, c, e, cellK x c e _ z⟩
  · obtain ⟨v, z⟩ := I.cell x c e
    exact ⟨v, cellK x c e v z⟩
  · obtain ⟨m, ⟨o, _, _, ho, _⟩, _⟩ := I.loc
    exact free _ o (fun z => (hch _ z).2.1 rfl) ho I.free
  · obtain ⟨v, o, ho, hd⟩ := I.cell x c e
    exact free c o (fun z => (hch c z).2.2.1 x c e rfl) ho (I.freeC x c e)
  · obtain ⟨e, n, ne, nf, d⟩ := I.pin p hp
    have nch : p.1 ∉ ch := fun z => (hch p.1 z).2.2.2 p hp rfl
    exact ⟨keep p.1 p.2 ne nf nch e n, free p.1 p.2 nch e n, ne, nf, d⟩
theorem Inv.un {t' : Nat} (I : Inv X pins σ H s) (u : Un X.fs [] H H' s.heap h') (hok : HOk X.prog X.w H' h') : Inv X pins σ H' { s with heap := h', toks := t' } := by
  obtain ⟨m, ⟨o, es, ep, ho, r⟩, _⟩ := id I.loc
  obtain ⟨sl, hL⟩ := u.any ho I.free (by simp)
  exact I.step (g' := s.gens) (d' := s.drawn) (ch := []) (fun _ z => nomatch z) (fun b o _ hb _ e n => u.keep b o e n hb (by simp)) (fun b o _ hb _ e n => u.slot b o e n hb (by simp)) (fun b o _ e n => u.free b o e n (by simp)) (fun b o _ e => u.there b o e (by simp)) u.tups u.frzs u.tbls (fun m' hm => by
    obtain ⟨o', es', ep', ho', r'⟩ := hm
    rw [ho] at ho'; cases ho'
    exact ⟨_, es', ep', hL, r'⟩) hok I.bare
theorem Inv.call {g' : Array GenState} {t' : Nat} {d' : Drawn} {ch : List Addr} (I : Inv X pins σ H s) (u : Un (frs X.stack) ch H H' s.heap h') (hok : HOk X.prog X.w H' h') (hg : AllBare g')
    (hch : ∀ b ∈ ch, (b ∈ X.ex ∨ X.s₀.heap.objs.size ≤ b) ∧ b ≠ X.env.locals ∧ (∀ x c, X.env.cells.lookup x = some c → c ≠ b) ∧ ∀ p ∈ X.pn ++ pins, p.1 ≠ b) :
    Inv X pins σ H' { s with heap := h', gens := g', drawn := d', toks := t' } := by
  obtain ⟨m, ⟨o, es, ep, ho, r⟩, _⟩ := id I.loc
  obtain ⟨sl, hL⟩ := u.any ho I.free fun z => (hch _ z).2.1 rfl
  exact I.step (ch := ch) hch (fun b o hL hb hc e n => u.keep b o e n (fun z => (List.mem_cons.mp (I.stkSub b z)).elim hL hb) hc) (fun b o _ _ hc e n => u.any e n hc) (fun b o hc e n => u.free b o e n hc) (fun b o hc e => u.there b o e hc) u.tups u.frzs u.tbls (fun m' hm => by
    obtain ⟨o', es', ep', ho', r'⟩ := hm
    rw [ho] at ho'; cases ho'
    exact ⟨_, es', ep', hL, r'⟩) hok hg
theorem Inv.turned {t' : Nat} {it : Addr} (I : Inv X pins σ H s) (k : ∀ b o, b ≠ it → s.heap.get? b = some o → h'.get? b = some o) (hn : H it = none) (hL : it ≠ X.env.locals)
    (h1 : it ∈ X.ex ∨ X.s₀.heap.objs.size ≤ it) (h2 : ∀ x c, X.env.cells.lookup x = some c → c ≠ it) (h3 : ∀ p ∈ X.pn ++ pins, p.1 ≠ it) : Inv X pins σ H { s with heap := h', toks := t' } := by
  have nit : ∀ b u, H b = some u → b ≠ it := fun b u e z => by rw [z, hn] at e; cases e
  refine I.step (g' := s.gens) (d' := s.drawn) (ch := [it]) (fun b hb => ?_) (fun b o _ _ hc e _ => k b o (fun z => hc (by simp [z])) e) (fun b o _ _ hc e _ => ⟨o.slots, k b o (fun z => hc (by simp [z])) e⟩) (fun _ _ _ _ n => n)
    (fun b o hc e => ⟨o, k b o (fun z => hc (by simp [z])) e⟩) (fun _ _ e => e) (fun _ _ _ e => e) (fun b ps e => ⟨#[], by rw [e]; simp⟩) (fun m hm => ?_) (fun b u e => ?_) I.bare
  · have e : b = it := by simpa using hb
    subst e
    exact ⟨h1, hL, h2, h3⟩
  · obtain ⟨o, es, ep, ho, r⟩ := hm
    exact ⟨o, es, ep, k _ o (Ne.symm hL) ho, r⟩
  · refine (I.hok b u e).stay (fun c v hc q => k c v ?_ q) (fun _ q => q) fun _ _ q => q
    rcases hc with z | z
    · rw [z]; exact nit b u e
    · exact nit c _ z
theorem Inv.tok (I : Inv X pins σ H s) (t : Nat) : Inv X pins σ H { s with toks := t } := I.un (h' := s.heap) (t' := t) Un.refl I.hok
theorem Inv.kept {t' : Nat} (I : Inv X pins σ H s) (k : ∀ b u, s.heap.get? b = some u → h'.get? b = some u) : Inv X pins σ H { s with heap := h', toks := t' } := I.un (Un.kept k) (I.hok.kept k)
theorem Inv.laid {a : Addr} {o : HO} {t' : Nat} (I : Inv X pins σ H s) (k : ∀ b u, s.heap.get? b = some u → h'.get? b = some u) (hp : s.heap.objs.size ≤ a) (new : ObjOk X.prog X.w (upd H a o) h' a o) :
    Inv X pins σ (upd H a o) { s with heap := h', toks := t' } := I.un (Un.laid k hp (I.hok.fresh hp)) (I.hok.laid k hp new)
theorem Inv.write {x e : Addr} {o : HO} {t' : Nat} (I : Inv X pins σ H s) (mu : Mut (H x)) (he : e = x ∨ H e = some (.own x)) (k : ∀ b u, b ≠ e → s.heap.get? b = some u → h'.get? b = some u) (heo : ∃ u, h'.get? e = some u)
    (new : ObjOk X.prog X.w (upd H x o) h' x o) : Inv X pins σ (upd H x o) { s with heap := h', toks := t' } := I.un (Un.write mu he k heo) (I.hok.write mu he k heo new)
theorem Inv.pins_of {pins' : List (Addr × Obj)} (I : Inv X pins σ H s) (h : ∀ p ∈ pins', s.heap.get? p.1 = some p.2 ∧ H p.1 = none ∧ p.1 ≠ X.env.locals ∧ p.1 ∉ X.fs ∧ ∀ v, p.2.data ≠ .cell v) : Inv X pins' σ H s :=
  ⟨I.ok, I.os, I.bare, I.base, I.loc, I.cell, I.free, I.freeC, fun p hp => (List.mem_append.mp hp).elim (fun z => I.pin p (List.mem_append_left _ z)) (h p), I.hok, I.len⟩

theorem nodup_ix {N : List Str} (hN : N.Nodup) {i j : Nat} {x : Str} (a : N[i]? = some x) (b : N[j]? = some x) : i = j := by
  obtain ⟨h1, e1⟩ := List.getElem?_eq_some_iff.mp a
  obtain ⟨h2, e2⟩ := List.getElem?_eq_some_iff.mp b
  exact (List.getElem_inj hN).mp (e1.trans e2.symm)

theorem store_ok2 {M : Model} {A : Around} {E : Value → Shared → Prop} {i : Nat} {x : Str} {v : V} {u : Value} {Q : Unit → Shared → Prop} (I : Inv X pins σ H s) (hN : X.N.Nodup) (hi : X.N[i]? = some x) (hx : Loc X.env.scope x) (r : RelV v u)
    (h : ∀ s', Inv X pins (σ.set i (some v)) H s' → (∃ a, Heap.SameBut a s.heap s'.heap ∧ (a = X.env.locals ∨ X.env.cells.lookup x = some a)) → Q () s') (hf : X.fn x = true ∨ X.env.scope.names.lookup x = some .local := by first | exact .inl rfl | exact .inr rfl | assumption) : wpAny M A (storeName X.env x u) Q E s := by
  obtain ⟨m, hn, hl⟩ := id I.loc
  have hcls : (X.env.scope.kind == .class || (X.env.scope.kind == .module && X.env.locals != X.env.globals)) = false := by rw [I.ok.kind]; rfl
  have hiσ : i < σ.length := by rw [I.len]; exact (List.getElem?_eq_some_iff.mp hi).1
  have cne := I.cne
  have tracked : ∀ {a : Addr} {h' : Heap}, (∃ o, s.heap.get? a = some o ∧ H a = none) → Heap.SameBut a s.heap h' → HOk X.prog X.w H h' := fun {a h'} ha hs b ob e => by
    obtain ⟨_, _, hfree⟩ := ha
    refine (I.hok b ob e).stay (fun c w' hc q => (hs.2 c ?_).trans q) (fun _ q => q) fun _ _ q => q
    rintro rfl
    rcases hc with rfl | hc
    · rw [hfree] at e; cases e
    · rw [hfree] at hc; cases hc
  rcases hx with hk | hk
  · refine wpAny_storeName_local hk hn (fun h' hn' hs => ?_) hcls
    obtain ⟨oL, _, _, hoL, _⟩ := id hn
    refine h _ ⟨I.ok, I.os, I.bare, ⟨fun b o e n hb hx => ?_, fun b o e n hb hx => ?_, I.base.free, fun b o e hx => ?_, I.base.tups, I.base.frzs, I.base.tbls⟩, ⟨_, hn', fun j y v' e1 e2 e3 => ?_⟩, fun y c e => ?_, I.free, I.freeC, fun p hp => ?_, tracked ⟨oL, hoL, I.free⟩ hs, by simpa using I.len⟩ ⟨_, hs, .inl rfl⟩
    · exact (hs.2 b (Nat.ne_of_lt (Nat.lt_of_lt_of_le (Heap.lt_size e) I.ok.above))).trans (I.base.keep b o e n hb hx)
    · obtain ⟨sl, e1⟩ := I.base.slot b o e n hb hx
      exact ⟨sl, (hs.2 b (Nat.ne_of_lt (Nat.lt_of_lt_of_le (Heap.lt_size e) I.ok.above))).trans e1⟩
    · obtain ⟨o', e1⟩ := I.base.there b o e hx
      exact ⟨o', (hs.2 b (Nat.ne_of_lt (Nat.lt_of_lt_of_le (Heap.lt_size e) I.ok.above))).trans e1⟩
    · by_cases hj : j = i
      · subst hj
        rw [hi] at e1; cases e1
        rw [List.getElem?_set_self hiσ] at e2
        cases e2
        exact ⟨u, r, .inl ⟨hk, by simp⟩⟩
      · rw [List.getElem?_set_ne (Ne.symm hj)] at e2
        obtain ⟨u', r', q⟩ := hl j y v' e1 e2 e3
        refine ⟨u', r', ?_⟩
        rcases q with ⟨k, e⟩ | ⟨k, c, e, z⟩
        · refine .inl ⟨k, ?_⟩
          have : y ≠ x := fun e => hj (nodup_ix hN e1 (e ▸ hi))
          simp [this, e]
        · exact .inr ⟨k, c, e, z.sameBut hs (cne y c e)⟩
    · obtain ⟨w', z⟩ := I.cell y c e
      exact ⟨w', z.sameBut hs (cne y c e)⟩
    · obtain ⟨e, n, ne, nf, d⟩ := I.pin p hp
      exact ⟨(hs.2 p.1 ne).trans e, n, ne, nf, d⟩
  · have hfn : X.fn x = true := by
      rcases hf with z | z
      · exact z
      · rw [z] at hk; cases hk
    obtain ⟨c, hc⟩ := I.ok.has x (.inl hk)
    obtain ⟨w', z⟩ := I.cell x c hc
    refine wpAny_storeName_cell I.ok.kind hk hc z (fun h' hc' hs => ?_)
    obtain ⟨oc, hoc, hocd⟩ := id z
    refine h { s with heap := h' } ⟨I.ok, I.os, I.bare, ⟨fun b o e n hb hx => ?_, fun b o e n hb hx => ?_, I.base.free, fun b o e hx => ?_, I.base.tups, I.base.frzs, I.base.tbls⟩, ⟨m, hn.sameBut hs (Ne.symm (cne x c hc)), fun j y v' e1 e2 e3 => ?_⟩, fun y c' e => ?_, I.free, I.freeC, fun p hp => ?_, tracked ⟨oc, hoc, I.freeC x c hc⟩ hs, by simpa using I.len⟩ ⟨c, hs, .inr hc⟩
    · exact (hs.2 b (Nat.ne_of_lt (Nat.lt_of_lt_of_le (Heap.lt_size e) (I.ok.cab x c hfn hc)))).trans (I.base.keep b o e n hb hx)
    · obtain ⟨sl, e1⟩ := I.base.slot b o e n hb hx
      exact ⟨sl, (hs.2 b (Nat.ne_of_lt (Nat.lt_of_lt_of_le (Heap.lt_size e) (I.ok.cab x c hfn hc)))).trans e1⟩
    · obtain ⟨o', e1⟩ := I.base.there b o e hx
      exact ⟨o', (hs.2 b (Nat.ne_of_lt (Nat.lt_of_lt_of_le (Heap.lt_size e) (I.ok.cab x c hfn hc)))).trans e1⟩
    · by_cases hj : j = i
      · subst hj
        rw [hi] at e1; cases e1
        rw [List.getElem?_set_self hiσ] at e2
        cases e2
        exact ⟨u, r, .inr ⟨.inl hk, c, hc, hc'⟩⟩
      · rw [List.getElem?_set_ne (Ne.symm hj)] at e2
        obtain ⟨u', r', q⟩ := hl j y v' e1 e2 e3
        refine ⟨u', r', ?_⟩
        rcases q with q | ⟨k, c', e, z'⟩
        · exact .inl q
        · refine .inr ⟨k, c', e, z'.sameBut hs ?_⟩
          rintro rfl
          exact hj (nodup_ix hN e1 (I.ok.inj _ _ _ e hc ▸ hi))
    · by_cases hcc : c' = c
      · subst hcc; exact ⟨_, hc'⟩
      · obtain ⟨w2, z2⟩ := I.cell y c' e
        exact ⟨w2, z2.sameBut hs hcc⟩
    · obtain ⟨e, n, ne, nf, d⟩ := I.pin p hp
      refine ⟨(hs.2 p.1 ?_).trans e, n, ne, nf, d⟩
      intro q
      rw [q, hoc] at e
      have q' : oc = p.2 := Option.some.inj e
      exact d w' (by rw [← q']; exact hocd)
theorem store_ok {M : Model} {A : Around} {E : Value → Shared → Prop} {i : Nat} {x : Str} {v : V} {u : Value} {Q : Unit → Shared → Prop} (I : Inv X pins σ H s) (hN : X.N.Nodup) (hi : X.N[i]? = some x) (hx : Loc X.env.scope x) (r : RelV v u)
    (h : ∀ s', Inv X pins (σ.set i (some v)) H s' → Q () s') (hf : X.fn x = true ∨ X.env.scope.names.lookup x = some .local := by first | exact .inl rfl | exact .inr rfl | assumption) : wpAny M A (storeName X.env x u) Q E s :=
  store_ok2 I hN hi hx r (fun s' I' _ => h s' I') hf
theorem Inv.call' {s' : Shared} {ch : List Addr} (I : Inv X pins σ H s) (ho : s'.os = s.os) (u : Un (frs X.stack) ch H H' s.heap s'.heap) (hok : HOk X.prog X.w H' s'.heap) (hg : AllBare s'.gens)
    (hch : ∀ b ∈ ch, (b ∈ X.ex ∨ X.s₀.heap.objs.size ≤ b) ∧ b ≠ X.env.locals ∧ (∀ x c, X.env.cells.lookup x = some c → c ≠ b) ∧ ∀ p ∈ X.pn ++ pins, p.1 ≠ b) : Inv X pins σ H' s' := by
  obtain ⟨h', g', d', t', o'⟩ := s'
  have e : o' = s.os := ho
  subst e
  exact I.call (g' := g') (t' := t') (d' := d') u hok hg hch
end

noncomputable abbrev XK := Value → Option Addr → Hp → Prop
noncomputable abbrev St := List (Option V)
noncomputable abbrev VK := V → Hp → Prop
noncomputable abbrev TE := St → Hp → VK → Prop
noncomputable abbrev TT := St → Hp → (Bool → Hp → Prop) → Prop
noncomputable abbrev TA := St → Hp → (List V → Hp → Prop) → Prop
structure Ends where
  nx : St → Hp → Prop
  rt : VK
  bk : St → Hp → Prop := fun _ _ => False
  ct : St → Hp → Prop := fun _ _ => False
noncomputable abbrev TS := Ends → St → Hp → Prop

noncomputable def EP (X : Cx) (pins : List (Addr × Obj)) (σ : St) (Q : VK) (u : Value) (s' : Shared) : Prop := ∃ v H', Inv X pins σ H' s' ∧ RelV v u ∧ Q v H'
noncomputable def TP (X : Cx) (pins : List (Addr × Obj)) (σ : St) (Q : Bool → Hp → Prop) (b : Bool) (s' : Shared) : Prop := ∃ H', Inv X pins σ H' s' ∧ Q b H'
noncomputable def AP (X : Cx) (pins : List (Addr × Obj)) (σ : St) (Q : List V → Hp → Prop) (us : List Value) (s' : Shared) : Prop := ∃ vs H', Inv X pins σ H' s' ∧ Vals vs us ∧ Q vs H'
noncomputable def SP (X : Cx) (pins : List (Addr × Obj)) (D : Ends) (f : Flow) (s' : Shared) : Prop :=
  match f with
  | .next => ∃ σ' H', Inv X pins σ' H' s' ∧ D.nx σ' H'
  | .brk => ∃ σ' H', Inv X pins σ' H' s' ∧ D.bk σ' H'
  | .cont => ∃ σ' H', Inv X pins σ' H' s' ∧ D.ct σ' H'
  | .ret u => ∃ v σ' H', Inv X pins σ' H' s' ∧ RelV v u ∧ D.rt v H'

noncomputable def PE (X : Cx) (e : Expr) (t : TE) : Prop :=
  ∀ (pins : List (Addr × Obj)) (s : Shared) (σ : St) (H : Hp) (Q : VK), Inv X pins σ H s → t σ H Q → wpAny (model X.prog X.w) X.A (eval e X.env) (EP X pins σ Q) X.xe s
noncomputable def PT (X : Cx) (e : Expr) (t : TT) : Prop :=
  ∀ (pins : List (Addr × Obj)) (s : Shared) (σ : St) (H : Hp) (Q : Bool → Hp → Prop), Inv X pins σ H s → t σ H Q → wpAny (model X.prog X.w) X.A (isTrue e X.env (eval e X.env)) (TP X pins σ Q) X.xe s
noncomputable def PW (X : Cx) (e : Expr) (t : TT) : Prop :=
  ∀ (whole : Sem Value) (pins : List (Addr × Obj)) (s : Shared) (σ : St) (H : Hp) (Q : Bool → Hp → Prop), Inv X pins σ H s → t σ H Q → wpAny (model X.prog X.w) X.A (isTrue e X.env whole) (TP X pins σ Q) X.xe s
theorem PW.pt {X : Cx} {e : Expr} {t : TT} (h : PW X e t) : PT X e t := h _
noncomputable def PA (X : Cx) (es : List Expr) (t : TA) : Prop :=
  ∀ (pos : Pos) (pins : List (Addr × Obj)) (s : Shared) (σ : St) (H : Hp) (Q : List V → Hp → Prop), Inv X pins σ H s → t σ H Q → wpAny (model X.prog X.w) X.A (spliced (backTo pos (starEach es X.env))) (AP X pins σ Q) X.xe s
noncomputable def PS (X : Cx) (st : Stmt) (t : TS) : Prop :=
  ∀ (pins : List (Addr × Obj)) (s : Shared) (σ : St) (H : Hp) (D : Ends), Inv X pins σ H s → t D σ H → wpAny (model X.prog X.w) X.A (exec st X.env) (SP X pins D) X.xe s
noncomputable def PSs (X : Cx) (st : List Stmt) (t : TS) : Prop :=
  ∀ (pins : List (Addr × Obj)) (s : Shared) (σ : St) (H : Hp) (D : Ends), Inv X pins σ H s → t D σ H → wpAny (model X.prog X.w) X.A (execs st X.env) (SP X pins D) X.xe s
theorem thn {α : Type} {t : Sem α} {Q Q' : α → Shared → Prop} {M : Model} {A : Around} {E : Value → Shared → Prop} {s : Shared} (h : wpAny M A t Q E s) (hQ : ∀ a s, Q a s → Q' a s) : wpAny M A t Q' E s := wpAny_mono h hQ fun _ _ x => x
end L2

namespace L2
open PySem PySem.Spec PyProof.Rows
section
variable {X : Cx}

noncomputable def tVar (i : Nat) : TE := fun σ H Q => ∃ v, σ[i]? = some (some v) ∧ Q v H
noncomputable def tC (v : V) : TE := fun _ H Q => Q v H
theorem pe_var {i : Nat} {x : Str} {pos : Pos} (hN : X.N[i]? = some x) (hv : Vis X.env.scope x) (hd : (x == ("__debug__" : Str)) = false := by decide) (hcd : (x == ("__classdict__" : Str)) = false := by decide) : PE X (.Name x pos) (tVar i) := by
  intro pins s σ H Q I h
  obtain ⟨v, e, h⟩ := h
  obtain ⟨m, hn, hl⟩ := I.loc
  obtain ⟨u, r, l⟩ := hl i x v hN e hv
  have fin : EP X pins σ Q u s := ⟨v, H, I, r, h⟩
  rcases l with ⟨hk, hm⟩ | ⟨hk, c, hc, hcell⟩
  · exact wpAny_Name (wpAny_loadName_local I.ok.kind hk hn hm fin) hd
  · rcases hk with hk | hk
    · exact wpAny_Name (wpAny_loadName_cell I.ok.kind hk hc hcell fin) hd
    · exact wpAny_Name (wpAny_loadName_free I.ok.kind hk hc hcell fin hcd) hd
theorem pe_int {i j pos} : PE X (.Constant (.int i) j pos) (tC (.int i)) := fun _ _ _ H _ I h => wpAny_Constant_int ⟨.int i, H, I.tok _, ⟨_, rfl⟩, h⟩
theorem pe_bl {b j pos} : PE X (.Constant (.bool b) j pos) (tC (.bl b)) := fun _ _ _ H _ I h => Constant_bool ⟨.bl b, H, I, rfl, h⟩
theorem pe_non {j pos} : PE X (.Constant .none j pos) (tC .non) := fun _ _ _ H _ I h => Constant_none ⟨.non, H, I, rfl, h⟩
theorem pe_str {x j pos} : PE X (.Constant (.str x) j pos) (tC (.str x)) := fun _ _ _ H _ I h => Calls.Constant_str ⟨.str x, H, I.tok _, ⟨_, rfl⟩, h⟩

noncomputable def Gl (X : Cx) (x : Str) : Prop := X.env.kindOf x = some .globalImplicit
theorem ld_glob {E : Value → Shared → Prop} {pins : List (Addr × Obj)} {s : Shared} {σ : St} {H : Hp} {x : Str} {u : Value} {pos : Pos} {Q : Value → Shared → Prop} (I : Inv X pins σ H s) (hg : Gl X x) (hm : X.mg x = some u) (h : Q u s)
    (hd : (x == ("__debug__" : Str)) = false := by decide) : wpAny (model X.prog X.w) X.A (eval (.Name x pos) X.env) Q E s :=
  Calls.Name_function_global I.ok.kind hg (Calls.loadGlobal_global (by rw [I.ok.glob]; exact I.mod.glob.keeps I.bk) hm h) hd
theorem ld_blt {E : Value → Shared → Prop} {pins : List (Addr × Obj)} {s : Shared} {σ : St} {H : Hp} {x : Str} {u : Value} {pos : Pos} {Q : Value → Shared → Prop} (I : Inv X pins σ H s) (hg : Gl X x) (hm : X.mg x = none) (hv : bootBuiltins x = some u) (h : Q u s)
    (hn : x ≠ "__name__" := by decide) (hd : (x == ("__debug__" : Str)) = false := by decide) : wpAny (model X.prog X.w) X.A (eval (.Name x pos) X.env) Q E s := by
  obtain ⟨mb, h1, h2⟩ := I.mod.blt
  exact Calls.Name_function_global I.ok.kind hg (Calls.loadGlobal_builtin (by rw [I.ok.glob]; exact I.mod.glob.keeps I.bk) hm (by rw [I.ok.blt]; exact h1.keeps I.bk) ((h2 x hn).trans hv) h) hd
theorem pe_glob {x : Str} {v : V} {u : Value} {pos : Pos} (hg : Gl X x) (hm : X.mg x = some u) (r : RelV v u) (hd : (x == ("__debug__" : Str)) = false := by decide) : PE X (.Name x pos) (tC v) :=
  fun _ _ _ H _ I h => ld_glob I hg hm ⟨v, H, I, r, h⟩ hd
theorem pe_bltn {x : Str} {v : V} {u : Value} {pos : Pos} (hg : Gl X x) (hm : X.mg x = none) (hv : bootBuiltins x = some u) (r : RelV v u) (hn : x ≠ "__name__" := by decide) (hd : (x == ("__debug__" : Str)) = false := by decide) : PE X (.Name x pos) (tC v) :=
  fun _ _ _ H _ I h => ld_blt I hg hm hv ⟨v, H, I, r, h⟩ hn hd

variable {a b : Expr} {ta tb : TE} {pos : Pos}
variable {tA tB' : TT} {rest : List Expr}
noncomputable def tAnd (t u : TT) : TT := fun σ H Q => t σ H fun c H1 => if c = true then u σ H1 Q else Q false H1
noncomputable def tOr (t u : TT) : TT := fun σ H Q => t σ H fun c H1 => if c = true then Q true H1 else u σ H1 Q
noncomputable def tNot (t : TT) : TT := fun σ H Q => t σ H fun c H1 => Q (!c) H1
theorem pw_and1 (ha : PT X a tA) : PW X (.BoolOp .And [a] pos) tA := by
  intro wh pins s σ H Q I h
  refine isTrue_and (thn (ha pins s σ H Q I h) fun c s1 e => ?_)
  cases c with
  | true => exact isTrue_and_nil e
  | false => exact e
theorem pw_or1 (ha : PT X a tA) : PW X (.BoolOp .Or [a] pos) tA := by
  intro wh pins s σ H Q I h
  refine isTrue_or (thn (ha pins s σ H Q I h) fun c s1 e => ?_)
  cases c with
  | false => exact isTrue_or_nil e
  | true => exact e
theorem pw_and (ha : PT X a tA) (hb : PW X (.BoolOp .And (b :: rest) pos) tB') : PW X (.BoolOp .And (a :: b :: rest) pos) (tAnd tA tB') := by
  intro wh pins s σ H Q I h
  refine isTrue_and (thn (ha pins s σ H _ I h) fun c s1 ⟨H1, I1, q1⟩ => ?_)
  cases c with
  | true => exact hb wh pins s1 σ H1 Q I1 q1
  | false => exact ⟨H1, I1, q1⟩
theorem pw_or (ha : PT X a tA) (hb : PW X (.BoolOp .Or (b :: rest) pos) tB') : PW X (.BoolOp .Or (a :: b :: rest) pos) (tOr tA tB') := by
  intro wh pins s σ H Q I h
  refine isTrue_or (thn (ha pins s σ H _ I h) fun c s1 ⟨H1, I1, q1⟩ => ?_)
  cases c with
  | true => exact ⟨H1, I1, q1⟩
  | false => exact hb wh pins s1 σ H1 Q I1 q1
theorem pt_not (ha : PT X a tA) : PT X (.UnaryOp .Not a pos) (tNot tA) := by
  intro pins s σ H Q I h
  exact isTrue_not (ha pins s σ H (fun c H1 => Q (!c) H1) I h)
noncomputable def tAndV (ta tb : TE) : TE := fun σ H Q => ta σ H fun x H1 => ∃ c, x = .bl c ∧ if c = true then tb σ H1 Q else Q (.bl false) H1
noncomputable def tNotV (ta : TE) : TE := fun σ H Q => ta σ H fun x H1 => ∃ c, x = .bl c ∧ Q (.bl (!c)) H1
theorem pe_one {op} {t : TE} (h : PE X a t) : PE X (.BoolOp op [a] pos) t := fun pins s σ H Q I hw => BoolOp_one (h pins s σ H Q I hw)
theorem pe_and (ha : PE X a ta) (hb : PE X (.BoolOp .And (b :: rest) pos) tb) : PE X (.BoolOp .And (a :: b :: rest) pos) (tAndV ta tb) := by
  intro pins s σ H Q I h
  refine BoolOp_and (thn (ha pins s σ H _ I h) fun v s1 ⟨x, H1, I1, r1, q1⟩ => ?_)
  obtain ⟨c, rfl, q1⟩ := q1
  cases r1
  refine wpAny_truthy_bool ?_
  cases c with
  | true => exact hb pins s1 σ H1 Q I1 q1
  | false => exact ⟨.bl false, H1, I1, rfl, q1⟩
theorem pe_not (ha : PE X a ta) : PE X (.UnaryOp .Not a pos) (tNotV ta) := by
  intro pins s σ H Q I h
  refine UnaryOp_ (thn (ha pins s σ H _ I h) fun v s1 ⟨x, H1, I1, r1, q1⟩ => ?_)
  obtain ⟨c, rfl, q1⟩ := q1
  cases r1
  exact not_of (wpAny_truthy_bool ⟨.bl (!c), H1, I1, rfl, q1⟩)
noncomputable def tIf (t : TT) (ta tb : TE) : TE := fun σ H Q => t σ H fun c H1 => if c = true then ta σ H1 Q else tb σ H1 Q
theorem pe_ifExp {c : Expr} (hc : PT X c tA) (ha : PE X a ta) (hb : PE X b tb) : PE X (.IfExp c a b pos) (tIf tA ta tb) := by
  intro pins s σ H Q I h
  refine wpAny_IfExp (thn (hc pins s σ H _ I h) fun d s1 ⟨H1, I1, q1⟩ => ?_)
  cases d with
  | true => exact ha pins s1 σ H1 Q I1 q1
  | false => exact hb pins s1 σ H1 Q I1 q1
end
end L2

namespace L2
open PySem PySem.Spec PyProof.Rows

noncomputable def SqL (K : PySem.W.Frag) (H : Hp) (a : Addr) (xs : List V) : Prop :=
  Rd H a (.lst xs) ∨
    ∃ (o : Obj) (its : Array Value) (n : Nat), K.lookup a = some o ∧ o.cls = .type "list" ∧ o.dict = none ∧ o.data = .seq its n ∧ its.size ≤ sizeLine ∧ Vals xs its.toList
noncomputable def SqT (K : PySem.W.Frag) (H : Hp) (a : Addr) (xs : List V) : Prop :=
  Rd H a (.tup xs) ∨
    ∃ (o : Obj) (its : Array Value) (n : Nat), K.lookup a = some o ∧ o.cls = .type "tuple" ∧ o.data = .seq its n ∧ its.size ≤ sizeLine ∧ Vals xs its.toList
noncomputable def absV : Value → Option V
  | .none => some .non
  | .bool b => some (.bl b)
  | .int i _ => some (.int i)
  | .str x _ => some (.str x)
  | .bytes b _ => some (.byt b)
  | .float b _ => some (.flt b)
  | .ref a => some (.ref a)
  | .type n => some (.ty n)
  | _ => none
theorem RelV.abs {x : V} {u : Value} (r : RelV x u) : absV u = some x := by
  cases x with
  | non => cases r; rfl
  | bl _ => cases r; rfl
  | int _ => obtain ⟨t, rfl⟩ := r; rfl
  | str _ => obtain ⟨t, rfl⟩ := r; rfl
  | byt _ => obtain ⟨t, rfl⟩ := r; rfl
  | flt _ => obtain ⟨t, rfl⟩ := r; rfl
  | ref _ => cases r; rfl
  | ty _ => cases r; rfl
theorem RelV.inj {x y : V} {u : Value} (r : RelV x u) (q : RelV y u) : x = y := Option.some.inj (r.abs.symm.trans q.abs)
theorem Vals.inj : ∀ {xs ys : List V} {us : List Value}, Vals xs us → Vals ys us → xs = ys
  | _, _, _, .nil, .nil => rfl
  | _, _, _, .cons r t, .cons r' t' => by rw [r.inj r', Vals.inj t t']
section
variable {X : Cx} {pins : List (Addr × Obj)} {σ : St} {H : Hp} {s : Shared} {a : Addr} {xs ys : List V}
theorem SqL.of {K : PySem.W.Frag} (h : H a = some (.lst xs)) : SqL K H a xs := .inl (.inl h)
theorem SqT.of {K : PySem.W.Frag} (h : H a = some (.tup xs)) : SqT K H a xs := .inl (.inl h)
theorem Inv.list (I : Inv X pins σ H s) (h : SqL X.K H a xs) : ∃ its : List Value, Vals xs its ∧ PlainL s.heap a its.toArray ∧ xs.length ≤ sizeLine := by
  rcases h with h | ⟨o, its, n, hk, hc, hd, hs, hz, r⟩
  · obtain ⟨z, its, n, r, e⟩ := h.ok I.hok
    exact ⟨its, r, ⟨_, n, e, rfl, rfl, rfl⟩, z⟩
  · refine ⟨its.toList, r, ⟨o, n, I.kIn a o hk, hc, hd, by simpa using hs⟩, ?_⟩
    have e := r.length
    simp only [Array.length_toList] at e
    omega
theorem Inv.tuple (I : Inv X pins σ H s) (h : SqT X.K H a xs) : ∃ its : List Value, Vals xs its ∧ IsTup s.heap a its.toArray ∧ xs.length ≤ sizeLine := by
  rcases h with h | ⟨o, its, n, hk, hc, hs, hz, r⟩
  · obtain ⟨z, its, r, p⟩ := h.ok I.hok
    exact ⟨its, r, p, z⟩
  · refine ⟨its.toList, r, ⟨o, I.kIn a o hk, hc, n, by simpa using hs⟩, ?_⟩
    have e := r.length
    simp only [Array.length_toList] at e
    omega
theorem Inv.list_inj (I : Inv X pins σ H s) (h : SqL X.K H a xs) (h' : SqL X.K H a ys) : xs = ys := by
  obtain ⟨its, r, ⟨o, n, e, _, _, d⟩, _⟩ := I.list h
  obtain ⟨its', r', ⟨o', n', e', _, _, d'⟩, _⟩ := I.list h'
  rw [e] at e'; cases e'
  rw [d] at d'
  injection d' with d1 _
  have : its = its' := by simpa using congrArg Array.toList d1
  subst this
  exact r.inj r'
theorem Inv.tuple_inj (I : Inv X pins σ H s) (h : SqT X.K H a xs) (h' : SqT X.K H a ys) : xs = ys := by
  obtain ⟨its, r, ⟨o, e, _, n, d⟩, _⟩ := I.tuple h
  obtain ⟨its', r', ⟨o', e', _, n', d'⟩, _⟩ := I.tuple h'
  rw [e] at e'; cases e'
  rw [d] at d'
  injection d' with d1 _
  have : its = its' := by simpa using congrArg Array.toList d1
  subst this
  exact r.inj r'
end

noncomputable abbrev Cx.wish (X : Cx) (E : Value → Shared → Prop) : Cx := { X with xe := E }
noncomputable abbrev Cx.nox (X : Cx) : Cx := X.wish fun _ _ => False
theorem Cx.Ok.wish {X : Cx} (ok : X.Ok) (E : Value → Shared → Prop) : (X.wish E).Ok :=
  ⟨ok.mod, ok.kind, ok.glob, ok.blt, ok.above, ok.inj, ok.has, ok.cab, ok.hd, ok.frames, ok.stk, ok.exf, ok.bs, ok.bsz, ok.noex, ok.exfs, ok.funs, ok.frf⟩
theorem Cx.Ok.unwish {X : Cx} {E : Value → Shared → Prop} (ok : (X.wish E).Ok) : X.Ok :=
  ⟨ok.mod, ok.kind, ok.glob, ok.blt, ok.above, ok.inj, ok.has, ok.cab, ok.hd, ok.frames, ok.stk, ok.exf, ok.bs, ok.bsz, ok.noex, ok.exfs, ok.funs, ok.frf⟩
section
variable {X : Cx} {pins : List (Addr × Obj)} {σ : St} {H : Hp} {s : Shared} {E : Value → Shared → Prop}
theorem Inv.wish (I : Inv X pins σ H s) (E : Value → Shared → Prop) : Inv (X.wish E) pins σ H s := ⟨I.ok.wish E, I.os, I.bare, I.base, I.loc, I.cell, I.free, I.freeC, I.pin, I.hok, I.len⟩
theorem Inv.unwish (I : Inv (X.wish E) pins σ H s) : Inv X pins σ H s := ⟨I.ok.unwish, I.os, I.bare, I.base, I.loc, I.cell, I.free, I.freeC, I.pin, I.hok, I.len⟩
theorem SP.unwish {D : Ends} {f : Flow} {s' : Shared} (h : SP (X.wish E) pins D f s') : SP X pins D f s' := by
  cases f with
  | next => obtain ⟨σ', H', I, q⟩ := h; exact ⟨σ', H', I.unwish, q⟩
  | brk => obtain ⟨σ', H', I, q⟩ := h; exact ⟨σ', H', I.unwish, q⟩
  | cont => obtain ⟨σ', H', I, q⟩ := h; exact ⟨σ', H', I.unwish, q⟩
  | ret u => obtain ⟨v, σ', H', I, r, q⟩ := h; exact ⟨v, σ', H', I.unwish, r, q⟩
theorem PSs.nox {st : List Stmt} {t : TS} (h : PSs X.nox st t) : PSs X st t := fun pins s σ H D I hw =>
  wpAny_mono (h pins s σ H D (I.wish _) hw) (fun _ _ q => q.unwish) fun _ _ z => False.elim z
end

section
variable {X : Cx} {st : Stmt} {rest : List Stmt} {t u : TS} {e : Expr} {te : TE} {pos : Pos}
noncomputable def tNext : TS := fun D σ H => D.nx σ H
noncomputable def tSeq (t u : TS) : TS := fun D σ H => t { D with nx := u D } σ H
theorem pss_nil : PSs X [] tNext := fun _ _ σ H _ I h => wpAny_execs_nil ⟨σ, H, I, h⟩
theorem pss_cons (h1 : PS X st t) (h2 : PSs X rest u) : PSs X (st :: rest) (tSeq t u) := by
  intro pins s σ H D I h
  refine wpAny_execs_cons (thn (h1 pins s σ H { D with nx := u D } I h) fun f s1 q => ?_)
  cases f with
  | next =>
    obtain ⟨σ', H', I', q⟩ := q
    exact h2 pins s1 σ' H' D I' q
  | ret v => exact q
  | brk => exact q
  | cont => exact q
theorem pss_one (h1 : PS X st t) : PSs X [st] t := by
  intro pins s σ H D I h
  refine wpAny_execs_cons (thn (h1 pins s σ H D I h) fun f s1 q => ?_)
  cases f with
  | next => exact wpAny_execs_nil q
  | ret v => exact q
  | brk => exact q
  | cont => exact q
theorem Inv.quiet {pins : List (Addr × Obj)} {σ : St} {H : Hp} {s : Shared} (I : Inv X pins σ H s) : interactive X.env = false := by simp [interactive, I.ok.kind]
noncomputable def tDrop (te : TE) : TS := fun D σ H => te σ H fun _ H1 => D.nx σ H1
theorem ps_expr (he : PE X e te) (hs : swapsWith e none pos.line X.env = pure false := by rfl) : PS X (.Expr e pos) (tDrop te) := by
  intro pins s σ H D I h
  exact wpAny_Expr_any (thn (he pins s σ H _ I h) fun v s1 ⟨x, H1, I1, r1, q1⟩ => ⟨σ, H1, I1, q1⟩) I.quiet hs
noncomputable def tRet (te : TE) : TS := fun D σ H => te σ H D.rt
theorem ps_ret (he : PE X e te) : PS X (.Return (some e) pos) (tRet te) := by
  intro pins s σ H D I h
  exact wpAny_Return_some (thn (he pins s σ H _ I h) fun v s1 ⟨x, H1, I1, r1, q1⟩ => ⟨x, σ, H1, I1, r1, q1⟩)
noncomputable def tIfS (c : TT) (t u : TS) : TS := fun D σ H => c σ H fun b H1 => if b = true then t D σ H1 else u D σ H1
theorem ps_if {c : Expr} {a b : List Stmt} {tc : TT} (hc : PT X c tc) (ha : PSs X a t) (hb : PSs X b u) : PS X (.If c a b pos) (tIfS tc t u) := by
  intro pins s σ H D I h
  refine wpAny_If (thn (hc pins s σ H _ I h) fun d s1 ⟨H1, I1, q1⟩ => ?_)
  cases d with
  | true => exact ha pins s1 σ H1 D I1 q1
  | false => exact hb pins s1 σ H1 D I1 q1
noncomputable def tNever : TS := fun _ _ _ => False
theorem ps_never : PS X st tNever := fun _ _ _ _ _ _ h => h.elim
end

noncomputable abbrev TG := V → St → Hp → (St → Hp → Prop) → Prop
noncomputable abbrev TGs := List V → St → Hp → (St → Hp → Prop) → Prop
noncomputable def PG (X : Cx) (target : Expr) (t : TG) : Prop :=
  ∀ (pins : List (Addr × Obj)) (s : Shared) (σ : St) (H : Hp) (v : V) (u : Value) (Q : St → Hp → Prop), Inv X pins σ H s → RelV v u → t v σ H Q →
    wpAny (model X.prog X.w) X.A (assign target X.env u) (fun _ s' => ∃ σ' H', Inv X pins σ' H' s' ∧ Q σ' H') X.xe s
noncomputable def PGs (X : Cx) (ts : List Expr) (t : TGs) : Prop :=
  ∀ (pins : List (Addr × Obj)) (s : Shared) (σ : St) (H : Hp) (vs : List V) (us : List Value) (Q : St → Hp → Prop), Inv X pins σ H s → Vals vs us → t vs σ H Q →
    wpAny (model X.prog X.w) X.A (assignInOrder ((assignEach ts X.env).map (·.2)) us) (fun _ s' => ∃ σ' H', Inv X pins σ' H' s' ∧ Q σ' H') X.xe s
section
variable {X : Cx} {pos : Pos}
noncomputable def gName (i : Nat) : TG := fun v σ H Q => Q (σ.set i (some v)) H
theorem pg_name {i : Nat} {x : Str} (hN : X.N.Nodup) (hi : X.N[i]? = some x) (hx : Loc X.env.scope x) (hf : X.fn x = true ∨ X.env.scope.names.lookup x = some .local := by first | exact .inl rfl | exact .inr rfl | assumption) : PG X (.Name x pos) (gName i) := by
  intro pins s σ H v u Q I r h
  exact wpAny_assign_Name (store_ok I hN hi hx r (fun s' I' => ⟨_, H, I', h⟩) hf)
noncomputable def gNil : TGs := fun vs σ H Q => vs = [] ∧ Q σ H
noncomputable def gCons (t : TG) (u : TGs) : TGs := fun vs σ H Q => ∃ v r, vs = v :: r ∧ t v σ H fun σ' H' => u r σ' H' Q
theorem pgs_nil : PGs X [] gNil := by
  intro pins s σ H vs us Q I r h
  obtain ⟨e, h⟩ := h
  subst e
  cases r
  exact assignInOrder_nil ⟨σ, H, I, h⟩
theorem pgs_cons {e : Expr} {es : List Expr} {t : TG} {u : TGs} (h1 : PG X e t) (h2 : PGs X es u)
    (hs : (assignEach (e :: es) X.env).map (·.2) = assign e X.env :: (assignEach es X.env).map (·.2) := by rfl) : PGs X (e :: es) (gCons t u) := by
  intro pins s σ H vs us Q I r h
  obtain ⟨v, vr, e1, h⟩ := h
  subst e1
  cases r with
  | cons r rr =>
    rw [hs]
    refine assignInOrder_cons (thn (h1 pins s σ H _ _ _ I r h) fun _ s1 ⟨σ1, H1, I1, q1⟩ => ?_)
    exact h2 pins s1 σ1 H1 _ _ Q I1 rr q1
noncomputable def gTup (K : PySem.W.Frag) (n : Nat) (t : TGs) : TG := fun v σ H Q => ∃ a xs, v = .ref a ∧ SqT K H a xs ∧ xs.length = n ∧ t xs σ H Q
theorem pg_tup {es : List Expr} {k : Nat} {t : TGs} {n : Nat} (hc : X.calm = true) (h : PGs X es t)
    (hn : (assignEach es X.env).length = n := by rfl) (hst : (assignEach es X.env).findIdx? (·.1) = none := by rfl) : PG X (.Tuple es k pos) (gTup X.K n t) := by
  intro pins s σ H v u Q I r hw
  obtain ⟨a, xs, e1, hq, hl, hw⟩ := hw
  subst e1
  cases r
  obtain ⟨its, rv, ht, hz⟩ := I.tuple hq
  refine assign_Tuple_tuple (I.ok.hd hc) ht (by simp [hn, ← hl, rv.length]) hst fun h' hx => ?_
  have I1 : Inv X pins σ H { s with heap := h' } := I.kept (t' := s.toks) fun b o e => hx b o (Nat.ne_of_lt (Heap.lt_size e)) e
  exact h pins _ σ H xs _ Q I1 (by simpa using rv) hw
noncomputable def tAsg (te : TE) (g : TG) : TS := fun D σ H => te σ H fun x H1 => g x σ H1 D.nx
theorem ps_asg {tg e : Expr} {te : TE} {g : TG} (he : PE X e te) (hg : PG X tg g) (hs : swapsWithSole [tg] e pos.line X.env = pure false := by rfl) (hw : swappedStores [tg] e X.env = pure none := by rfl)
    (h1 : (assignEach [tg] X.env).map (·.2) = [assign tg X.env] := by rfl) : PS X (.Assign [tg] e pos) (tAsg te g) := by
  intro pins s σ H D I h
  refine wpAny_Assign_stores (thn (he pins s σ H _ I h) fun v s1 ⟨x, H1, I1, r1, q1⟩ => ?_) hs hw
  rw [h1]
  exact thn (hg pins s1 σ H1 x v _ I1 r1 q1) fun _ s2 q => q
theorem ps_set {i : Nat} {x : Str} {e : Expr} {te : TE} {pos' : Pos} (hN : X.N.Nodup) (hi : X.N[i]? = some x) (hx : Loc X.env.scope x) (he : PE X e te) (hs : swapsWith e (some (.Name x pos')) pos.line X.env = pure false := by rfl) (hf : X.fn x = true ∨ X.env.scope.names.lookup x = some .local := by first | exact .inl rfl | exact .inr rfl | assumption) :
    PS X (.Assign [.Name x pos'] e pos) (tAsg te (gName i)) := by
  intro pins s σ H D I h
  refine wpAny_Assign_Name (thn (he pins s σ H _ I h) fun v s1 ⟨y, H1, I1, r1, q1⟩ => ?_) hs
  exact store_ok I1 hN hi hx r1 (fun s2 I2 => ⟨_, H1, I2, q1⟩) hf
noncomputable def tPar (i j : Nat) (ta : TA) : TS := fun D σ H => ta σ H fun vs H1 => ∃ v w, vs = [v, w] ∧ D.nx ((σ.set i (some v)).set j (some w)) H1
theorem ps_par {i j : Nat} {x y : Str} {a b : Expr} {ta : TA} {px py pt : Pos} {kt k2 pt2} (hc : X.calm = true) (hN : X.N.Nodup) (hi : X.N[i]? = some x) (hj : X.N[j]? = some y) (hij : i ≠ j)
    (hx : X.env.scope.names.lookup x = some .local) (hy : X.env.scope.names.lookup y = some .local) (ha : PA X [a, b] ta)
    (hw : swappedStores [.Tuple [.Name x px, .Name y py] kt pt] (.Tuple [a, b] k2 pt2) X.env = pure (some [x, y]))
    (hs : swapsWithSole [.Tuple [.Name x px, .Name y py] kt pt] (.Tuple [a, b] k2 pt2) pos.line X.env = pure false := by rfl) :
    PS X (.Assign [.Tuple [.Name x px, .Name y py] kt pt] (.Tuple [a, b] k2 pt2) pos) (tPar i j ta) := by
  intro pins s σ H D I h
  rw [exec_Assign_arm]
  refine wpAny_bind (wpAny_standAt ?_)
  rw [hs]
  refine wpAny_bind (wpAny_pure ?_)
  rw [if_neg (by decide)]
  refine wpAny_bind (Tuple_ (thn (ha _ pins s σ H _ I h) fun us s1 ⟨vs, H1, I1, r1, q1⟩ => ?_))
  obtain ⟨v, w, e1, q1⟩ := q1
  subst e1
  obtain ⟨u1, u2, rfl, rv, rw'⟩ : ∃ u1 u2, us = [u1, u2] ∧ RelV v u1 ∧ RelV w u2 := by
    cases r1 with
    | cons p q =>
      cases q with
      | cons p' q' =>
        cases q'
        exact ⟨_, _, rfl, p, p'⟩
  refine wpAny_newObj_type ?_ (by show 2 ≤ sizeLine; decide)
  have I2 : Inv X pins σ H1 { s1 with heap := s1.heap.push { cls := .type "tuple", data := .seq [u1, u2].toArray } } := I1.kept (t' := s1.toks) fun b o e => Heap.get?_push_of_some _ e
  rw [hw]
  refine wpAny_bind (wpAny_pure ?_)
  show wpAny (model X.prog X.w) X.A (do rule "assign.swapped-stores"; let items ← unpackItems (.ref s1.heap.objs.size) 2 none; assignInOrder [fun v => bindName X.env y v, fun v => bindName X.env x v] items.reverse; pure Flow.next) _ _ _
  refine wpAny_bind (wpAny_rule (wpAny_bind (unpackItems_tuple (items := #[u1, u2]) (I.ok.hd hc) (IsTup.new s1.heap _) fun h' hx' => ?_)))
  have I3 := I2.kept (h' := h') (t' := s1.toks) fun b o e => hx' b o (Nat.ne_of_lt (Heap.lt_size e)) e
  show wpAny _ _ (assignInOrder [fun v => bindName X.env y v, fun v => bindName X.env x v] [u2, u1] >>= fun _ => pure Flow.next) _ _ _
  refine wpAny_bind (assignInOrder_cons (wpAny_bindName (store_ok I3 hN hj (.inl hy) rw' (fun s2 I4 => ?_) (.inr hy))))
  refine assignInOrder_cons (wpAny_bindName (store_ok I4 hN hi (.inl hx) rv (fun s3 I5 => assignInOrder_nil (wpAny_pure ?_)) (.inr hx)))
  rw [List.set_comm _ _ (Ne.symm hij)] at I5
  exact ⟨_, H1, I5, q1⟩
end

section
variable {X : Cx} {pos : Pos}
noncomputable def tWhile (c : TT) (tb : TS) : TS := fun D σ H => ∃ W : Nat → St → Hp → Prop, (∃ m, W m σ H) ∧ ∀ m σ H, W m σ H →
  c σ H fun b H1 => if b = true then ∃ N : St → Hp → Prop, (∀ σ' H', N σ' H' → ∃ m', m' < m ∧ W m' σ' H') ∧ tb { D with nx := N, ct := N, bk := D.nx } σ H1 else D.nx σ H1
theorem ps_while {c : Expr} {body : List Stmt} {tc : TT} {tb : TS} (hp : PassesOwn (model X.prog X.w) X.A X.env X.xe) (hc : PT X c tc) (hb : PSs X body tb) : PS X (.While c body [] pos) (tWhile tc tb) := by
  intro pins s σ H D I h
  obtain ⟨W, ⟨m0, w0⟩, turn⟩ := h
  refine wpAny_While (codeAny_whileLoop (fun n s' => ∃ σ' H', Inv X pins σ' H' s' ∧ W n σ' H') ?_ m0 ⟨σ, H, I, w0⟩)
  rintro n s1 ⟨σ1, H1, I1, w1⟩
  refine wpAny_passesOwn hp (thn (hc pins s1 σ1 H1 _ I1 (turn n σ1 H1 w1)) fun b s2 ⟨H2, I2, q2⟩ => ?_)
  cases b with
  | true =>
    obtain ⟨N, hN, q2⟩ := q2
    rw [if_pos rfl]
    refine wpAny_passesOwn hp (thn (hb pins s2 σ1 H2 _ I2 q2) fun f s3 q3 => ?_)
    cases f with
    | next =>
      obtain ⟨σ3, H3, I3, n3⟩ := q3
      obtain ⟨m', hm, w3⟩ := hN σ3 H3 n3
      exact ⟨m', hm, σ3, H3, I3, w3⟩
    | cont =>
      obtain ⟨σ3, H3, I3, n3⟩ := q3
      obtain ⟨m', hm, w3⟩ := hN σ3 H3 n3
      exact ⟨m', hm, σ3, H3, I3, w3⟩
    | brk => exact q3
    | ret v => exact q3
  | false =>
    rw [if_neg Bool.false_ne_true]
    exact wpAny_execs_nil ⟨σ1, H2, I2, q2⟩
end

structure It where
  go : Nat → Hp → Prop
  yld : Nat → Hp → V → Hp → Prop
  stop : Nat → Hp → Prop
noncomputable def FpOk (X : Cx) (pins : List (Addr × Obj)) (H : Hp) (b : Addr) : Prop :=
  H b = none ∧ b ≠ X.env.locals ∧ b ∉ X.fs ∧ (b ∈ X.ex ∨ X.s₀.heap.objs.size ≤ b) ∧ (∀ x c, X.env.cells.lookup x = some c → c ≠ b) ∧ ∀ p ∈ X.pn ++ pins, p.1 ≠ b
theorem Inv.fpOk {X : Cx} {pins : List (Addr × Obj)} {σ : St} {H H' : Hp} {s : Shared} {b : Addr} (I : Inv X pins σ H s) (hb : s.heap.objs.size ≤ b) (hn : H' b = none) : FpOk X pins H' b := by
  refine ⟨hn, Nat.ne_of_gt (Nat.lt_of_lt_of_le I.lt hb), I.nofs hb, .inr (Nat.le_trans I.sz hb), fun x c e z => ?_, fun p hp z => ?_⟩
  · obtain ⟨v, q⟩ := I.cell x c e
    exact absurd (Nat.lt_of_lt_of_le q.lt (by rw [z]; exact hb)) (Nat.lt_irrefl _)
  · exact absurd (Nat.lt_of_lt_of_le (Heap.lt_size (I.pin p hp).1) (by rw [z]; exact hb)) (Nat.lt_irrefl _)
structure Turn (P : Program) (w : World) (K : PySem.W.Frag) (tg : Expr) (J : It) (fp : List Addr) (it : Addr) (tn : Nat → Heap → Prop) : Prop where
  mem : it ∈ fp
  obj : ∀ i h, tn i h → ∀ b ∈ fp, ∃ o, h.get? b = some o ∧ ∀ v, o.data ≠ .cell v
  keep : ∀ i h h', tn i h → (∀ b ∈ fp, ∀ o, h.get? b = some o → h'.get? b = some o) → tn i h'
  item : ∀ (X : Cx), X.prog = P → X.w = w → X.K = K → X.calm = true → ∀ (i : Nat) (pins : List (Addr × Obj)) (s : Shared) (σ : St) (H : Hp) (E : Value → Shared → Prop), Inv X pins σ H s → (∀ b ∈ fp, FpOk X pins H b) → tn i s.heap → J.go i H →
    wpAny (model P w) X.A (pyNext (.ref it)) (fun r s1 => ∃ u, r = some u ∧
      wpAny (model P w) X.A (letOwnedTupleGo tg (.ref it) u) (fun _ s2 => ∃ x H', Inv X pins σ H' s2 ∧ RelV x u ∧ J.yld i H x H' ∧ tn (i + 1) s2.heap ∧ ∀ b ∈ fp, H' b = none) E s1) E s
  done : ∀ (X : Cx), X.prog = P → X.w = w → X.K = K → X.calm = true → ∀ (i : Nat) (pins : List (Addr × Obj)) (s : Shared) (σ : St) (H : Hp) (E : Value → Shared → Prop), Inv X pins σ H s → (∀ b ∈ fp, FpOk X pins H b) → tn i s.heap → J.stop i H →
    wpAny (model P w) X.A (pyNext (.ref it)) (fun r s1 => r = none ∧ Inv X pins σ H s1) E s
  self : ∀ (A : Around) (i : Nat) (s : Shared) (Q : Value → Shared → Prop) (E : Value → Shared → Prop), tn i s.heap → Q (.ref it) s → wpAny (model P w) A (pyIter (.ref it)) Q E s
noncomputable abbrev TI := St → Hp → (It → Hp → Prop) → Prop
noncomputable def PIE (X : Cx) (pins : List (Addr × Obj)) (σ : St) (tg : Expr) (R : It → Hp → Prop) (itv : Value) (s2 : Shared) : Prop :=
  ∃ (it : Addr) (fp : List Addr) (tn : Nat → Heap → Prop) (J : It) (H' : Hp), itv = .ref it ∧ Inv X pins σ H' s2 ∧ Turn X.prog X.w X.K tg J fp it tn ∧ tn 0 s2.heap ∧ (∀ b ∈ fp, FpOk X pins H' b) ∧ R J H'
noncomputable def PI (X : Cx) (tg iter : Expr) (wi : TI) : Prop :=
  ∀ (pins : List (Addr × Obj)) (s : Shared) (σ : St) (H : Hp) (R : It → Hp → Prop), Inv X pins σ H s → wi σ H R →
    wpAny (model X.prog X.w) X.A (eval iter X.env) (fun v s1 => wpAny (model X.prog X.w) X.A (pyIter v) (PIE X pins σ tg R) X.xe s1) X.xe s

theorem go_of {M : Model} {A : Around} {E : Value → Shared → Prop} {s : Shared} {tg : Expr} {it : Addr} {u : Value} {o : Obj} {n : String} {vs : Array Value} {Q : Unit → Shared → Prop} (ho : s.heap.get? it = some o) (hc : o.cls = .type n) (hd : o.data = .fields vs)
    (hn : ["enumerate", "zip", "dict_itemiterator", "dict_reverseitemiterator", "odict_iterator", "itertools.zip_longest", "itertools.pairwise"].contains n = false) (hQ : Q () s) : wpAny M A (letOwnedTupleGo tg (.ref it) u) Q E s := by
  unfold letOwnedTupleGo
  cases tg <;> first
    | exact wpAny_pure hQ
    | (cases u <;> first
        | exact wpAny_pure hQ
        | (refine wpAny_bind (wpAny_load ho ?_)
           rw [hc, hd]
           show wpAny M A (if (["enumerate", "zip", "dict_itemiterator", "dict_reverseitemiterator", "odict_iterator", "itertools.zip_longest", "itertools.pairwise"].contains n && vs[0]? == some (rawInt _)) = true then _ else _) Q E s
           rw [if_neg (by intro h; rw [hn, Bool.false_and] at h; cases h)]
           exact wpAny_pure hQ))

noncomputable def Itr (lo : Int) (n : Nat) : It := ⟨fun i _ => i < n, fun i H x H' => H' = H ∧ x = .int (lo + i), fun i _ => n ≤ i⟩
theorem turn_range {P : Program} {w : World} {K : PySem.W.Frag} {tg : Expr} (it : Addr) (lo : Int) (n : Nat) : Turn P w K tg (Itr lo n) [it] it (fun i h => IsRangeIter h it (lo + (i : Nat) * 1) ((n : Int) - (i : Nat)) 1) where
  mem := by simp
  obj := fun i h st b hb => by
    have e : b = it := by simpa using hb
    subst e
    exact ⟨_, st, fun v z => by
      have z' : Data.fields _ = Data.cell v := z
      cases z'⟩
  keep := fun i h h' st k => k it (by simp) _ st
  item := by
    intro X hP hw hK hc i pins s σ H E I hf st hg
    subst hP hw hK
    obtain ⟨f0, f1, f2, f3, f4, f5⟩ := hf it (by simp)
    have W := Walks.range (prog := X.prog) (w := X.w) (I.ok.hd hc) it lo 1 n
    refine W.item i s _ _ hg st fun v h' tk hv st' kk => ?_
    obtain ⟨t, rfl⟩ := hv
    have I1 : Inv X pins σ H { s with heap := h', toks := tk } := I.turned (fun b o hb e => kk b o (by simpa using hb) e) f0 f1 f3 f4 f5
    refine ⟨_, rfl, go_of (s := { s with heap := h', toks := tk }) (n := "range_iterator") st' rfl rfl (by decide) ⟨.int (lo + i), H, I1, ⟨t, ?_⟩, ⟨rfl, rfl⟩, st', fun b hb => (hf b hb).1⟩⟩
    rw [Int.mul_one]
  done := by
    intro X hP hw hK hc i pins s σ H E I hf st hg
    subst hP hw hK
    obtain ⟨f0, f1, f2, f3, f4, f5⟩ := hf it (by simp)
    exact wpAny_pyNext_range_end (I.ok.hd hc) st (by have : n ≤ i := hg; omega) fun h' eb => ⟨rfl, I.turned (t' := s.toks) (fun b o hb e => eb b o hb e) f0 f1 f3 f4 f5⟩
  self := fun _ _ _ _ _ st h => wpAny_pyIter_rangeiter st h
end L2

namespace L2
open PySem PySem.Spec PyProof.Rows
section
variable {X : Cx} {tg : Expr}
theorem range_it {pins : List (Addr × Obj)} {σ : St} {H : Hp} {s : Shared} {R : It → Hp → Prop} {E : Value → Shared → Prop} {lo hi : Int} {t u v : Tok} {tk : Nat} (I : Inv X pins σ H s) (h1 : -(2 ^ 62) ≤ lo) (h2 : lo < 2 ^ 62) (h3 : -(2 ^ 62) ≤ hi) (h4 : hi < 2 ^ 62)
    (q : R (Itr lo (hi - lo).toNat) H) : wpAny (model X.prog X.w) X.A (pyIter (.ref s.heap.objs.size)) (PIE X pins σ tg R) E { s with heap := s.heap.push { cls := .type "range", data := .fields #[.int lo t, .int hi u, .int 1 v] }, toks := tk } := by
  refine wpAny_pyIter_range (IsRange.new ..) (small_one h1 h2 h3 h4) ?_
  have I1 : Inv X pins σ H { s with heap := s.heap.push { cls := .type "range", data := .fields #[.int lo t, .int hi u, .int 1 v] }, toks := tk } := I.kept fun b o e => Heap.get?_push_of_some _ e
  refine ⟨(s.heap.push { cls := .type "range", data := .fields #[.int lo t, .int hi u, .int 1 v] }).objs.size, [(s.heap.push { cls := .type "range", data := .fields #[.int lo t, .int hi u, .int 1 v] }).objs.size], _, _, H, rfl,
    I1.kept (t' := tk) fun b o e => Heap.get?_push_of_some _ e, turn_range _ lo (hi - lo).toNat, ?_, fun b hb => ?_, q⟩
  · have e1 : lo + ((0 : Nat) : Int) * 1 = lo := by simp
    have e2 : (((hi - lo).toNat : Nat) : Int) - ((0 : Nat) : Int) = Builtin.Range.rangeSize lo hi 1 := by rw [rangeSize_one]; split <;> omega
    show IsRangeIter _ _ (lo + ((0 : Nat) : Int) * 1) ((((hi - lo).toNat : Nat) : Int) - ((0 : Nat) : Int)) 1
    rw [e1, e2]
    exact Heap.get?_push_size _ rfl
  · have e : b = (s.heap.push { cls := .type "range", data := .fields #[.int lo t, .int hi u, .int 1 v] }).objs.size := by simpa using hb
    subst e
    exact I1.fpOk (Nat.le_refl _) (I1.hok.fresh (Nat.le_refl _))
noncomputable def iRng1 (ta : TA) : TI := fun σ H R => ta σ H fun vs H1 => ∃ j : Int, vs = [.int j] ∧ -(2 ^ 62) ≤ j ∧ j < 2 ^ 62 ∧ R (Itr 0 j.toNat) H1
theorem pi_range1 {a : Expr} {ta : TA} {p pos : Pos} (hg : Gl X "range") (hm : X.mg "range" = none) (ha : PA X [a] ta) (hs : starEach [a] X.env = [(false, eval a X.env)] := by rfl) : PI X tg (.Call (.Name "range" p) [a] [] pos) (iRng1 ta) := by
  intro pins s σ H R I h
  refine Call_ (ld_blt I hg hm boot_range (PyProof.Rows.callWith_type1 (thn (ha pos pins s σ H _ I h) fun us s1 ⟨vs, H1, I1, r1, q1⟩ => ?_) hs rfl))
  obtain ⟨j, e, q1, q2, q⟩ := q1
  subst e
  cases r1 with
  | cons r rr =>
    cases rr
    obtain ⟨t, rfl⟩ := r
    exact call_range_1 (range_it I1 (by omega) (by omega) q1 q2 (by simpa using q))
noncomputable def tFor (wi : TI) (g : TG) (tb : TS) : TS := fun D σ H => wi σ H fun J H1 => ∃ W : Nat → Nat → St → Hp → Prop, (∃ m, W 0 m σ H1) ∧ ∀ i m σ H, W i m σ H →
  (J.stop i H ∧ D.nx σ H) ∨ (J.go i H ∧ ∃ N : St → Hp → Prop, (∀ σ' H', N σ' H' → ∃ m', m' < m ∧ W (i + 1) m' σ' H') ∧ ∀ x H', J.yld i H x H' → g x σ H' fun σ2 H2 => tb { D with nx := N, ct := N, bk := D.nx } σ2 H2)
noncomputable def pinsAt (fp : List Addr) (h : Heap) : List (Addr × Obj) := fp.filterMap fun b => (h.get? b).map fun o => (b, o)
theorem mem_pinsAt {fp : List Addr} {h : Heap} {b : Addr} {o : Obj} (hb : b ∈ fp) (e : h.get? b = some o) : (b, o) ∈ pinsAt fp h := List.mem_filterMap.mpr ⟨b, hb, by rw [e]; rfl⟩
theorem of_pinsAt {fp : List Addr} {h : Heap} {p : Addr × Obj} (hp : p ∈ pinsAt fp h) : p.1 ∈ fp ∧ h.get? p.1 = some p.2 := by
  obtain ⟨b, hb, e⟩ := List.mem_filterMap.mp hp
  cases q : h.get? b with
  | none => rw [q] at e; cases e
  | some o =>
    rw [q] at e
    have e' : (b, o) = p := Option.some.inj e
    subst e'
    exact ⟨hb, q⟩
theorem Inv.pinned {pins : List (Addr × Obj)} {σ : St} {H : Hp} {s : Shared} {fp : List Addr} (I : Inv X pins σ H s) (hf : ∀ b ∈ fp, FpOk X pins H b) (ho : ∀ b ∈ fp, ∃ o, s.heap.get? b = some o ∧ ∀ v, o.data ≠ .cell v) : Inv X (pins ++ pinsAt fp s.heap) σ H s :=
  I.pins_of fun p hp => (List.mem_append.mp hp).elim (fun z => I.pin p (List.mem_append_right _ z)) fun z => by
    obtain ⟨hb, e⟩ := of_pinsAt z
    obtain ⟨f0, f1, f2, _⟩ := hf p.1 hb
    obtain ⟨o, e', d⟩ := ho p.1 hb
    rw [e] at e'; cases e'
    exact ⟨e, f0, f1, f2, d⟩
theorem Inv.unpinned {pins pl : List (Addr × Obj)} {σ : St} {H : Hp} {s : Shared} (I : Inv X (pins ++ pl) σ H s) : Inv X pins σ H s := I.pins_of fun p hp => I.pin p (List.mem_append_right _ (List.mem_append_left _ hp))
theorem ps_for {iter : Expr} {body : List Stmt} {wi : TI} {g : TG} {tb : TS} {pos : Pos} (hp : PassesOwn (model X.prog X.w) X.A X.env X.xe) (hc : X.calm = true) (hi : PI X tg iter wi) (hg : PG X tg g) (hb : PSs X body tb)
    (hs : ∀ x, foldedSetIterable iter X.env x = pure x := by intro _; rfl) : PS X (.For tg iter body [] pos) (tFor wi g tb) := by
  intro pins s σ H D I h
  refine wpAny_For (thn (hi pins s σ H _ I h) fun v s1 h1 => thn h1 fun itv s2 h2 => ?_) hs
  obtain ⟨it, fp, tn, J, H2, e, I2, T, st2, f2, W, ⟨m0, w0⟩, turn⟩ := h2
  subst e
  -- what stays true of the iterator's objects through the loop
  have stat : ∀ {H' : Hp}, (∀ b ∈ fp, H' b = none) → ∀ b ∈ fp, FpOk X pins H' b := fun hn b hb => ⟨hn b hb, (f2 b hb).2⟩
  refine codeAny_forLoop_any (fun n s' => ∃ i σ' H', Inv X pins σ' H' s' ∧ tn i s'.heap ∧ (∀ b ∈ fp, H' b = none) ∧ W i n σ' H') ?_ m0 ⟨0, σ, H2, I2, st2, fun b hb => (f2 b hb).1, w0⟩
  rintro n s3 ⟨i, σ3, H3, I3, st3, fr3, w3⟩
  rcases turn i n σ3 H3 w3 with ⟨stop, qn⟩ | ⟨go, N, hN, step⟩
  · refine wpAny_passesOwn hp (thn (T.done X rfl rfl rfl hc i pins s3 σ3 H3 X.xe I3 (stat fr3) st3 stop) fun r s4 ⟨hr, I4⟩ => ?_)
    subst hr
    exact wpAny_execs_nil ⟨σ3, H3, I4, qn⟩
  · refine wpAny_passesOwn hp (thn (T.item X rfl rfl rfl hc i pins s3 σ3 H3 X.xe I3 (stat fr3) st3 go) fun r s4 ⟨u, hr, h4⟩ => ?_)
    subst hr
    refine wpAny_passesOwn hp (thn h4 fun _ s5 ⟨x, H5, I5, r5, y5, st5, fr5⟩ => ?_)
    have I5' := I5.pinned (stat fr5) (T.obj _ _ st5)
    refine wpAny_passesOwn hp (thn (hg _ s5 σ3 H5 x u _ I5' r5 (step x H5 y5)) fun _ s6 ⟨σ6, H6, I6, q6⟩ => ?_)
    refine wpAny_passesOwn hp (thn (hb _ s6 σ6 H6 _ I6 q6) fun f s7 q7 => ?_)
    have again : ∀ {σ7 : St} {H7 : Hp}, Inv X (pins ++ pinsAt fp s5.heap) σ7 H7 s7 → N σ7 H7 → ∃ m, m < n ∧ ∃ i σ' H', Inv X pins σ' H' s7 ∧ tn i s7.heap ∧ (∀ b ∈ fp, H' b = none) ∧ W i m σ' H' := fun {σ7 H7} I7 n7 => by
      obtain ⟨m', hm, w7⟩ := hN σ7 H7 n7
      refine ⟨m', hm, i + 1, σ7, H7, I7.unpinned, T.keep _ _ _ st5 fun b hb o e => (I7.pin (b, o) (List.mem_append_right _ (List.mem_append_right _ (mem_pinsAt hb e)))).1, fun b hb => ?_, w7⟩
      obtain ⟨o, e, d⟩ := T.obj _ _ st5 b hb
      exact (I7.pin (b, o) (List.mem_append_right _ (List.mem_append_right _ (mem_pinsAt hb e)))).2.1
    cases f with
    | next => obtain ⟨σ7, H7, I7, n7⟩ := q7; exact again I7 n7
    | cont => obtain ⟨σ7, H7, I7, n7⟩ := q7; exact again I7 n7
    | brk => obtain ⟨σ7, H7, I7, q7⟩ := q7; exact ⟨σ7, H7, I7.unpinned, q7⟩
    | ret v => obtain ⟨x7, σ7, H7, I7, r7, q7⟩ := q7; exact ⟨x7, σ7, H7, I7.unpinned, r7, q7⟩
end

end L2

namespace L2
open PySem PySem.Spec PyProof.Rows

noncomputable abbrev R2 := V → V → Hp → VK → Prop
noncomputable def OpR (X : Cx) (f : Value → Value → Sem Value) (r : R2) : Prop :=
  ∀ (pins : List (Addr × Obj)) (s : Shared) (σ : St) (H : Hp) (x y : V) (v u : Value) (Q : VK), Inv X pins σ H s → RelV x v → RelV y u → r x y H Q →
    wpAny (model X.prog X.w) X.A (f v u) (EP X pins σ Q) X.xe s
noncomputable def UnR (X : Cx) (f : Value → Sem Value) (r : V → Hp → VK → Prop) : Prop :=
  ∀ (pins : List (Addr × Obj)) (s : Shared) (σ : St) (H : Hp) (x : V) (v : Value) (Q : VK), Inv X pins σ H s → RelV x v → r x H Q →
    wpAny (model X.prog X.w) X.A (f v) (EP X pins σ Q) X.xe s
noncomputable def CallR (X : Cx) (f : Value) (r : List V → Hp → VK → Prop) : Prop :=
  ∀ (pins : List (Addr × Obj)) (s : Shared) (σ : St) (H : Hp) (xs : List V) (us : List Value) (Q : VK), Inv X pins σ H s → Vals xs us → r xs H Q →
    wpAny (model X.prog X.w) X.A (call f us) (EP X pins σ Q) X.xe s
noncomputable def TruR (X : Cx) (r : V → Hp → (Bool → Hp → Prop) → Prop) : Prop :=
  ∀ (pins : List (Addr × Obj)) (s : Shared) (σ : St) (H : Hp) (x : V) (v : Value) (Q : Bool → Hp → Prop), Inv X pins σ H s → RelV x v → r x H Q →
    wpAny (model X.prog X.w) X.A (truthy v) (TP X pins σ Q) X.xe s

noncomputable def tOp (r : R2) (ta tb : TE) : TE := fun σ H Q => ta σ H fun x H1 => tb σ H1 fun y H2 => r x y H2 Q
noncomputable def tUn (r : V → Hp → VK → Prop) (ta : TE) : TE := fun σ H Q => ta σ H fun x H1 => r x H1 Q
noncomputable def rI (C : Int → Int → Prop) (g : Int → Int → V) : R2 := fun x y H Q => ∃ i j, x = .int i ∧ y = .int j ∧ C i j ∧ Q (g i j) H
noncomputable def rI0 (g : Int → Int → V) : R2 := fun x y H Q => ∃ i j, x = .int i ∧ y = .int j ∧ Q (g i j) H
noncomputable def rU (g : Int → V) : V → Hp → VK → Prop := fun x H Q => ∃ i, x = .int i ∧ Q (g i) H

section
variable {X : Cx} {a b c : Expr} {ta tb tc : TE} {pos : Pos}

theorem binT (ha : PE X a ta) (hb : PE X b tb) {pins : List (Addr × Obj)} {s : Shared} {σ : St} {H : Hp} {R : V → V → Hp → Prop} (I : Inv X pins σ H s)
    (h : ta σ H fun x H1 => tb σ H1 fun y H2 => R x y H2) {Q : Value → Shared → Prop} {f : Value → Value → Sem Value}
    (hf : ∀ v u s2 x y H2, Inv X pins σ H2 s2 → RelV x v → RelV y u → R x y H2 → wpAny (model X.prog X.w) X.A (f v u) Q X.xe s2) :
    wpAny (model X.prog X.w) X.A (eval a X.env) (fun v s₁ => wpAny (model X.prog X.w) X.A (eval b X.env) (fun u s₂ => wpAny (model X.prog X.w) X.A (f v u) Q X.xe s₂) X.xe s₁) X.xe s := by
  refine thn (ha pins s σ H _ I h) fun v s1 ⟨x, H1, I1, r1, q1⟩ => ?_
  refine thn (hb pins s1 σ H1 _ I1 q1) fun u s2 ⟨y, H2, I2, r2, q2⟩ => ?_
  exact hf v u s2 x y H2 I2 r1 r2 q2

theorem pe_op {op : Operator} {r : R2} (ho : OpR X (binaryOp op) r) (ha : PE X a ta) (hb : PE X b tb) : PE X (.BinOp a op b pos) (tOp r ta tb) := by
  intro pins s σ H Q I h
  exact wpAny_BinOp (binT ha hb I h fun v u s2 x y H2 I2 rx ry q => ho pins s2 σ H2 x y v u Q I2 rx ry q)
theorem pe_un {op : UnaryOp} {r : V → Hp → VK → Prop} (ho : UnR X (unaryOp op) r) (ha : PE X a ta) : PE X (.UnaryOp op a pos) (tUn r ta) := by
  intro pins s σ H Q I h
  exact UnaryOp_ (thn (ha pins s σ H _ I h) fun v s1 ⟨x, H1, I1, r1, q1⟩ => ho pins s1 σ H1 x v Q I1 r1 q1)
theorem opI {f : Value → Value → Sem Value} {C : Int → Int → Prop} {g : Int → Int → Int}
    (rule : ∀ (i j : Int) (t u : Tok) (s : Shared) (Q : Value → Shared → Prop) (E : Value → Shared → Prop), C i j → Q (.int (g i j) s.toks) { s with toks := s.toks + 1 } → wpAny (model X.prog X.w) X.A (f (.int i t) (.int j u)) Q E s) :
    OpR X f (rI C fun i j => .int (g i j)) := by
  intro pins s σ H x y v u Q I rx ry h
  obtain ⟨i, j, rfl, rfl, hc, q⟩ := h
  obtain ⟨t, rfl⟩ := rx
  obtain ⟨t', rfl⟩ := ry
  exact rule i j t t' s _ _ hc ⟨.int (g i j), H, I.tok _, ⟨_, rfl⟩, q⟩
theorem opI0 {f : Value → Value → Sem Value} {g : Int → Int → Int}
    (rule : ∀ (i j : Int) (t u : Tok) (s : Shared) (Q : Value → Shared → Prop) (E : Value → Shared → Prop), Q (.int (g i j) s.toks) { s with toks := s.toks + 1 } → wpAny (model X.prog X.w) X.A (f (.int i t) (.int j u)) Q E s) :
    OpR X f (rI0 fun i j => .int (g i j)) := by
  intro pins s σ H x y v u Q I rx ry h
  obtain ⟨i, j, rfl, rfl, q⟩ := h
  obtain ⟨t, rfl⟩ := rx
  obtain ⟨t', rfl⟩ := ry
  exact rule i j t t' s _ _ ⟨.int (g i j), H, I.tok _, ⟨_, rfl⟩, q⟩
theorem opB0 {f : Value → Value → Sem Value} {g : Int → Int → Bool}
    (rule : ∀ (i j : Int) (t u : Tok) (s : Shared) (Q : Value → Shared → Prop) (E : Value → Shared → Prop), Q (.bool (g i j)) s → wpAny (model X.prog X.w) X.A (f (.int i t) (.int j u)) Q E s) :
    OpR X f (rI0 fun i j => .bl (g i j)) := by
  intro pins s σ H x y v u Q I rx ry h
  obtain ⟨i, j, rfl, rfl, q⟩ := h
  obtain ⟨t, rfl⟩ := rx
  obtain ⟨t', rfl⟩ := ry
  exact rule i j t t' s _ _ ⟨.bl (g i j), H, I, rfl, q⟩

noncomputable def CPow (i j : Int) : Prop := 0 ≤ j ∧ j ≤ 1000000 ∧ i.natAbs < 2 ^ 64
theorem op_add : OpR X (binaryOp .Add) (rI0 fun i j => .int (i + j)) := opI0 fun _ _ _ _ _ _ _ q => add_int q
theorem op_sub : OpR X (binaryOp .Sub) (rI0 fun i j => .int (i - j)) := opI0 fun _ _ _ _ _ _ _ q => sub_int q
theorem op_modN : OpR X (binaryOp .Mod) (rI (fun _ j => j ≠ 0) fun i j => .int (i.fmod j)) := opI fun _ _ _ _ _ _ _ hc q => mod_int' hc q
theorem op_pow : OpR X (binaryOp .Pow) (rI CPow fun i j => .int (i ^ j.toNat)) := opI fun _ _ _ _ _ _ _ hc q => pow_int_small hc.1 hc.2.1 hc.2.2 q
theorem unI {f : Value → Sem Value} {g : Int → Int}
    (rule : ∀ (i : Int) (t : Tok) (s : Shared) (Q : Value → Shared → Prop) (E : Value → Shared → Prop), Q (.int (g i) s.toks) { s with toks := s.toks + 1 } → wpAny (model X.prog X.w) X.A (f (.int i t)) Q E s) :
    UnR X f (rU fun i => .int (g i)) := by
  intro pins s σ H x v Q I rx h
  obtain ⟨i, rfl, q⟩ := h
  obtain ⟨t, rfl⟩ := rx
  exact rule i t s _ _ ⟨.int (g i), H, I.tok _, ⟨_, rfl⟩, q⟩
theorem un_neg : UnR X (unaryOp .USub) (rU fun i => .int (-i)) := unI fun _ _ _ _ _ q => neg_int q
end

section
variable {X : Cx} {a b c : Expr} {ta tb tc : TE} {pos : Pos}
theorem fin_bl {pins : List (Addr × Obj)} {σ : St} {H : Hp} {s : Shared} {Q : VK} {k k' : Bool} (I : Inv X pins σ H s) (q : Q (.bl k) H) (e : k = k') : EP X pins σ Q (.bool k') s := by
  subst e
  exact ⟨.bl k, H, I, rfl, q⟩
theorem op_lt : OpR X (compareOp .Lt) (rI0 fun i j => .bl (decide (i < j))) := opB0 fun _ _ _ _ _ _ _ q => lt_int q
theorem op_le : OpR X (compareOp .LtE) (rI0 fun i j => .bl (decide (i ≤ j))) := opB0 fun _ _ _ _ _ _ _ q => le_int q
theorem op_gt : OpR X (compareOp .Gt) (rI0 fun i j => .bl (decide (j < i))) := opB0 fun _ _ _ _ _ _ _ q => gt_int q
theorem op_ge : OpR X (compareOp .GtE) (rI0 fun i j => .bl (decide (j ≤ i))) := opB0 fun _ _ _ _ _ _ _ q => ge_int q
theorem op_isN : OpR X (compareOp .Is) (fun x y H Q => y = .non ∧ Q (.bl (decide (x = .non))) H) := by
  intro pins s σ H x y v u Q I rx ry h
  obtain ⟨rfl, q⟩ := h
  cases ry
  refine is_none_gen (fin_bl I q ?_)
  cases x <;> first
    | (cases rx; rfl)
    | (obtain ⟨t, rfl⟩ := rx; rfl)
theorem nomark (b : Expr) {op : CmpOp} (h : op ≠ .In := by decide) (h2 : op ≠ .NotIn := by decide) : behindInMarks op b = false := by
  have e1 : (op == CmpOp.In) = false := by cases op <;> first | rfl | exact absurd rfl h
  have e2 : (op == CmpOp.NotIn) = false := by cases op <;> first | rfl | exact absurd rfl h2
  cases b <;> simp [behindInMarks, e1, e2]
theorem pe_cmpR {op : CmpOp} {r : R2} (ho : OpR X (compareOp op) r) (ha : PE X a ta) (hb : PE X b tb) (hm : behindInMarks op b = false) : PE X (.Compare a [op] [b] pos) (tOp r ta tb) := by
  intro pins s σ H Q I h
  exact wpAny_Compare1 (binT ha hb I h fun v u s2 x y H2 I2 rx ry q => ho pins s2 σ H2 x y v u Q I2 rx ry q) hm
noncomputable def tTest (t : TE) : TT := fun σ H Q => t σ H fun x H' => ∃ k, x = .bl k ∧ Q k H'
theorem pt_cmpR {op : CmpOp} {r : R2} (ho : OpR X (compareOp op) r) (ha : PE X a ta) (hb : PE X b tb) (hm : behindInMarks op b = false) : PT X (.Compare a [op] [b] pos) (tTest (tOp r ta tb)) := by
  intro pins s σ H Q I h
  refine wpAny_isTrue_Compare1 (thn (ha pins s σ H _ I h) fun v s1 ⟨x, H1, I1, r1, q1⟩ => thn (hb pins s1 σ H1 _ I1 q1) fun u s2 ⟨y, H2, I2, r2, q2⟩ =>
    thn (ho pins s2 σ H2 x y v u _ I2 r1 r2 q2) fun c s3 ⟨z, H3, I3, r3, k, e, q3⟩ => ?_) hm
  subst e
  cases r3
  exact wpAny_truthy_bool ⟨H3, I3, q3⟩
noncomputable def tChain (r r' : R2) (ta tb tc : TE) : TE := fun σ H Q => ta σ H fun x H1 => tb σ H1 fun y H2 => r x y H2 fun z H3 => ∃ k, z = .bl k ∧
  (if k = true then tc σ H3 fun w' H4 => r' y w' H4 Q else Q (.bl false) H3)
theorem pe_chain {op op' : CmpOp} {r r' : R2} (ho : OpR X (compareOp op) r) (ho' : OpR X (compareOp op') r') (ha : PE X a ta) (hb : PE X b tb) (hc : PE X c tc)
    (hm : lastMarks [op, op'] [b, c] = false := by with_unfolding_all rfl) : PE X (.Compare a [op, op'] [b, c] pos) (tChain r r' ta tb tc) := by
  intro pins s σ H Q I h
  refine Compare_chain (thn (ha pins s σ H _ I h) fun v s1 ⟨x, H1, I1, r1, q1⟩ => chain_link (thn (hb pins s1 σ H1 _ I1 q1) fun u s2 ⟨y, H2, I2, r2, q2⟩ =>
    thn (ho pins s2 σ H2 x y v u _ I2 r1 r2 q2) fun d s3 ⟨z, H3, I3, r3, k, e, q3⟩ => ?_)) hm
  subst e
  cases r3
  refine wpAny_truthy_bool ?_
  cases k with
  | false => exact ite_ff ⟨.bl false, H3, I3, rfl, q3⟩
  | true => exact ite_tt (chain_last (thn (hc pins s3 σ H3 _ I3 q3) fun w' s4 ⟨z', H4, I4, r4, q4⟩ => ho' pins s4 σ H4 y z' u w' Q I4 r2 r4 q4))
noncomputable def TruV (K : PySem.W.Frag) (x : V) (H : Hp) (k : Bool) : Prop :=
  match x with
  | .non => k = false
  | .bl b => k = b
  | .int i => k = (i != 0)
  | .str y => y.length ≤ sizeLine ∧ k = ((y.length : Int) != 0)
  | .byt y => y.size ≤ sizeLine ∧ k = ((y.size : Int) != 0)
  | .ref p => (∃ xs, SqL K H p xs ∧ k = !xs.isEmpty) ∨ (∃ xs, SqT K H p xs ∧ k = !xs.isEmpty) ∨ ∃ kvs, H p = some (.dK kvs) ∧ k = !kvs.isEmpty
  | _ => False
theorem isEmpty_kv {κ : Type} {kvs : List (κ × V)} {vs : List (κ × Value)} (r : KV kvs vs) : (!vs.isEmpty) = !kvs.isEmpty := by
  cases r <;> rfl
theorem isEmpty_of {xs : List V} {its : List Value} (r : Vals xs its) : (!its.toArray.isEmpty) = !xs.isEmpty := by
  cases r <;> simp
theorem line63 : (sizeLine : Nat) < 2 ^ 63 := by rw [sizeLine_eq]; decide
theorem tru_ok : TruR X (fun x H Q => ∃ k, TruV X.K x H k ∧ Q k H) := by
  intro pins s σ H x v Q I rx h
  obtain ⟨k, e, q⟩ := h
  have hl := line63
  have hs : sizeLine = 16777216 := sizeLine_eq
  cases x with
  | non =>
    cases rx
    have e' : k = false := e
    subst e'
    exact truthy_none ⟨H, I, q⟩
  | bl b =>
    cases rx
    have e' : k = b := e
    subst e'
    exact wpAny_truthy_bool ⟨H, I, q⟩
  | int i =>
    obtain ⟨t, rfl⟩ := rx
    have e' : k = (i != 0) := e
    subst e'
    exact PySem.P.truthy_int ⟨H, I, q⟩
  | str y =>
    obtain ⟨t, rfl⟩ := rx
    obtain ⟨hy, e'⟩ : y.length ≤ sizeLine ∧ k = ((y.length : Int) != 0) := e
    subst e'
    exact PySem.P.truthy_str (by omega) ⟨H, I.tok _, q⟩
  | byt y =>
    obtain ⟨t, rfl⟩ := rx
    obtain ⟨hy, e'⟩ : y.size ≤ sizeLine ∧ k = ((y.size : Int) != 0) := e
    subst e'
    exact PySem.W.truthy_bytes (by omega) ⟨H, I.tok _, q⟩
  | ref p =>
    cases rx
    have e' : (∃ xs, SqL X.K H p xs ∧ k = !xs.isEmpty) ∨ (∃ xs, SqT X.K H p xs ∧ k = !xs.isEmpty) ∨ ∃ kvs, H p = some (.dK kvs) ∧ k = !kvs.isEmpty := e
    rcases e' with ⟨xs, hx, e'⟩ | ⟨xs, hx, e'⟩ | ⟨kvs, hx, e'⟩
    · subst e'
      obtain ⟨its, r, pl, hz⟩ := I.list hx
      have hlen := r.length
      exact wpAny_truthy_list pl.isList (by simp only [List.size_toArray]; omega) ⟨H, I.tok _, by rw [isEmpty_of r]; exact q⟩
    · subst e'
      obtain ⟨its, r, pl, hz⟩ := I.tuple hx
      have hlen := r.length
      exact truthy_tuple pl (by simp only [List.size_toArray]; omega) ⟨H, I.tok _, by rw [isEmpty_of r]; exact q⟩
    · subst e'
      obtain ⟨hz, hS, vs, r, m⟩ : kvs.length ≤ sizeLine ∧ (p == sysModules) = false ∧ ∃ vs, KV kvs vs ∧ s.heap.DictOf (mixKind X.prog X.w) p vs := I.hok p _ hx
      have hlen : kvs.length = vs.length := Paired.length r
      exact wpAny_truthy_dict hS m (by omega) ⟨H, I.tok _, by rw [isEmpty_kv r]; exact q⟩
  | _ => exact (show False from e).elim
theorem pt_truth (ha : PE X a ta) (he : ∀ whole, isTrue a X.env whole = (do let v ← whole; standAt a.pos; holding [v] (truthy v))) :
    PT X a (fun σ H Q => ta σ H fun x H' => ∃ k, TruV X.K x H' k ∧ Q k H') := by
  intro pins s σ H Q I h
  exact isTrue_plain (thn (ha pins s σ H _ I h) fun v s1 ⟨x, H1, I1, r1, q1⟩ => tru_ok pins s1 σ H1 x v Q I1 r1 q1) (he _)

theorem op_add_str : OpR X (binaryOp .Add) (fun x y H Q => ∃ i j, x = .str i ∧ y = .str j ∧ i.length + j.length ≤ sizeLine ∧ Q (.str (i ++ j)) H) := by
  intro pins s σ H x y v u Q I rx ry h
  obtain ⟨i, j, rfl, rfl, hz, q⟩ := h
  obtain ⟨t, rfl⟩ := rx
  obtain ⟨t', rfl⟩ := ry
  exact add_str (fun t' tk => ⟨.str (i ++ j), H, I.tok _, ⟨_, rfl⟩, q⟩) hz
theorem vals1 {x : V} {us : List Value} (r : Vals [x] us) : ∃ u, us = [u] ∧ RelV x u := by
  cases r with
  | cons r1 r2 => cases r2; exact ⟨_, rfl, r1⟩
theorem vals2 {x y : V} {us : List Value} (r : Vals [x, y] us) : ∃ u w', us = [u, w'] ∧ RelV x u ∧ RelV y w' := by
  cases r with
  | cons r1 r2 =>
    cases r2 with
    | cons r3 r4 => cases r4; exact ⟨_, _, rfl, r1, r3⟩
theorem call_abs : CallR X (.builtin "abs") (fun xs H Q => ∃ i, xs = [.int i] ∧ Q (.int (if i < 0 then -i else i)) H) := by
  intro pins s σ H xs us Q I r h
  obtain ⟨i, rfl, q⟩ := h
  obtain ⟨u, rfl, t, rfl⟩ := vals1 r
  exact call_abs_int fun u tk => ⟨.int (if i < 0 then -i else i), H, I.tok _, ⟨_, rfl⟩, q⟩
theorem call_max2 (hc : X.calm = true) : CallR X (.builtin "max") (fun xs H Q => ∃ i j, xs = [.int i, .int j] ∧ Q (.int (if j > i then j else i)) H) := by
  intro pins s σ H xs us Q I r h
  obtain ⟨i, j, rfl, q⟩ := h
  obtain ⟨u, w', rfl, ⟨t, rfl⟩, ⟨t', rfl⟩⟩ := vals2 r
  refine max_two_ints (I.ok.hd hc) fun h' tk k => ⟨_, H, I.kept k, ?_, q⟩
  by_cases hj : j > i
  · rw [if_pos hj, if_pos hj]; exact ⟨_, rfl⟩
  · rw [if_neg hj, if_neg hj]; exact ⟨_, rfl⟩
theorem call_min2 (hc : X.calm = true) : CallR X (.builtin "min") (fun xs H Q => ∃ i j, xs = [.int i, .int j] ∧ Q (.int (if j < i then j else i)) H) := by
  intro pins s σ H xs us Q I r h
  obtain ⟨i, j, rfl, q⟩ := h
  obtain ⟨u, w', rfl, ⟨t, rfl⟩, ⟨t', rfl⟩⟩ := vals2 r
  refine min_two_ints (I.ok.hd hc) fun h' tk k => ⟨_, H, I.kept k, ?_, q⟩
  by_cases hj : j < i
  · rw [if_pos hj, if_pos hj]; exact ⟨_, rfl⟩
  · rw [if_neg hj, if_neg hj]; exact ⟨_, rfl⟩
theorem call_int1 : CallR X (.type "int") (fun xs H Q => (∃ i, xs = [.int i] ∧ Q (.int i) H) ∨ ∃ k, xs = [.bl k] ∧ Q (.int (if k then 1 else 0)) H) := by
  intro pins s σ H xs us Q I r h
  rcases h with ⟨i, rfl, q⟩ | ⟨k, rfl, q⟩
  · obtain ⟨u, rfl, t, rfl⟩ := vals1 r
    exact call_int_int ⟨.int i, H, I, ⟨_, rfl⟩, q⟩
  · obtain ⟨u, rfl, r1⟩ := vals1 r
    cases r1
    exact call_int_bool ⟨.int (if k then 1 else 0), H, I.tok _, ⟨_, rfl⟩, q⟩
theorem call_str_int : CallR X (.type "str") (fun xs H Q => ∃ i, xs = [.int i] ∧ i.natAbs.log2 < 1920 ∧ Q (.str (toString i)) H) := by
  intro pins s σ H xs us Q I r h
  obtain ⟨i, rfl, hz, q⟩ := h
  obtain ⟨u, rfl, t, rfl⟩ := vals1 r
  exact PySem.P.str_of_int hz ⟨.str _, H, I.tok _, ⟨_, rfl⟩, q⟩
end
end L2

namespace L2
open PySem PySem.Spec PyProof.Rows

section
variable {prog : Program} {w : World} {A : Around} {E : Value → Shared → Prop} {s : Shared} {K : PySem.W.Frag} {x dx C f : Addr} {mA : Str → Option Value} {name : Str} {v : Value}

end

section
variable {P : Program} {w : World} {H H' : Hp} {h h' : Heap} {a C dx : Addr} {fs fs' : List (Str × V)}
end

section
variable {X : Cx} {pins : List (Addr × Obj)} {σ : St} {H : Hp} {s : Shared} {a C dx : Addr} {fs : List (Str × V)} {f : Str} {v : V} {A : Around} {E : Value → Shared → Prop}

end

section
variable {X : Cx} {o e value : Expr} {f : Str} {pos pos' tpos : Pos} {ta tv : TE}
end

section
variable {X : Cx} {pins : List (Addr × Obj)} {σ : St} {H : Hp} {s : Shared} {A : Around} {E : Value → Shared → Prop} {Q : Value → Shared → Prop} {c : Value} {b : Bool}
end
end L2

namespace L2
open PySem PySem.Spec PyProof.Rows

structure Room (k : Nat) (A : Around) : Prop where
  hd : A.handled = none
  dp : A.depth + 3 * k + 5 < recursionLimit
  un : A.units + 16 * k + 200 < cLine
theorem Room.mono {j k : Nat} {A : Around} (r : Room k A) (h : j ≤ k) : Room j A := ⟨r.hd, by have := r.dp; omega, by have := r.un; omega⟩
theorem Room.deeper {k : Nat} {A : Around} (r : Room (k + 1) A) (env : Env) : Room k (A.deeper env) :=
  ⟨r.hd, by have := r.dp; show A.depth + 1 + 3 * k + 5 < _; omega, by have := r.un; show A.units + 3 + 16 * k + 200 < _; omega⟩
theorem Room.depth {k : Nat} {A : Around} (r : Room k A) : A.depth < recursionLimit := by have := r.dp; omega
theorem Room.units {k : Nat} {A : Around} (r : Room k A) : A.units + 64 < cLine := by have := r.un; omega
noncomputable def tNil : TA := fun _ H Q => Q [] H
noncomputable def tCons (ta : TE) (tr : TA) : TA := fun σ H Q => ta σ H fun x H1 => tr σ H1 fun xs H2 => Q (x :: xs) H2
section
variable {X : Cx} {e : Expr} {es : List Expr} {te : TE} {t : TA} {pos : Pos}
theorem pa_nil : PA X [] tNil := fun _ _ _ _ H Q I h => Calls.spliced_nil ⟨[], H, I, .nil, h⟩
theorem pa_cons (ha : PE X e te) (hr : PA X es t) (hs : starEach (e :: es) X.env = (false, eval e X.env) :: starEach es X.env := by rfl) : PA X (e :: es) (tCons te t) := by
  intro pos pins s σ H Q I h
  rw [hs]
  show wpAny _ _ (spliced ((false, eval e X.env) :: backTo pos (starEach es X.env))) _ _ s
  refine Calls.spliced_cons (thn (ha pins s σ H _ I h) fun u s1 ⟨x, H1, I1, r1, q1⟩ => ?_)
  exact thn (hr pos pins s1 σ H1 _ I1 q1) fun us s2 ⟨xs, H2, I2, r2, q2⟩ => ⟨x :: xs, H2, I2, .cons r1 r2, q2⟩

noncomputable def tTup (t : TA) : TE := fun σ H Q => t σ H fun xs H1 => xs.length ≤ sizeLine ∧ ∀ p, H1 p = none → Q (.ref p) (upd H1 p (.tup xs))
noncomputable def tLst (t : TA) : TE := fun σ H Q => t σ H fun xs H1 => xs.length ≤ sizeLine ∧ ∀ p, H1 p = none → Q (.ref p) (upd H1 p (.lst xs))
theorem pe_tup {x1} (h : PA X es t) : PE X (.Tuple es x1 pos) (tTup t) := by
  intro pins s σ H Q I hq
  refine wpAny_Tuple_spliced (thn (h pos pins s σ H _ I hq) fun us s1 ⟨xs, H1, I1, r, z, q⟩ => ⟨by rw [← r.length]; exact z, ?_⟩)
  have hf : H1 s1.heap.objs.size = none := I1.hok.fresh (Nat.le_refl _)
  refine ⟨.ref s1.heap.objs.size, upd H1 s1.heap.objs.size (.tup xs), I1.laid (t' := s1.toks) (fun b u e => Heap.get?_push_of_some _ e) (Nat.le_refl _) ?_, rfl, q _ hf⟩
  exact ⟨z, us, r, ⟨_, Heap.get?_push_size _ rfl, rfl, _, rfl⟩⟩
theorem pe_lst (h : PA X es t) : PE X (.List es pos) (tLst t) := by
  intro pins s σ H Q I hq
  refine wpAny_List_spliced (thn (h pos pins s σ H _ I hq) fun us s1 ⟨xs, H1, I1, r, z, q⟩ => ⟨by rw [← r.length]; exact z, ?_⟩)
  have hf : H1 s1.heap.objs.size = none := I1.hok.fresh (Nat.le_refl _)
  refine ⟨.ref s1.heap.objs.size, upd H1 s1.heap.objs.size (.lst xs), I1.laid (t' := s1.toks) (fun b u e => Heap.get?_push_of_some _ e) (Nat.le_refl _) ?_, rfl, q _ hf⟩
  exact ⟨z, us, 0, r, Heap.get?_push_size _ rfl⟩
end

noncomputable abbrev Sp := List V → Hp → VK → XK → Prop
noncomputable abbrev CXT := List Env → Hp → Shared → XK → Value → Shared → Prop

structure Env0 (P : Program) (w : World) (K : PySem.W.Frag) (mg : Str → Option Value) (base : Heap) (A : Around) (outer : List Env) (s : Shared) (H : Hp) : Prop where
  frames : A.frames = some outer
  mod : Mod K mg base
  bs : ∀ b o, base.get? b = some o → s.heap.get? b = some o ∧ H b = none
  bsz : base.objs.size ≤ s.heap.objs.size
  funs : s.heap.FunFrames base outer
  frf : ∀ b ∈ frs outer, H b = none
  hok : HOk P w H s.heap
  bare : AllBare s.gens
noncomputable def CE (outer : List Env) (P : Program) (w : World) (H : Hp) (s : Shared) (Q : VK) (u : Value) (s' : Shared) : Prop :=
  ∃ v H', s'.os = s.os ∧ AllBare s'.gens ∧ Un (frs outer) [] H H' s.heap s'.heap ∧ HOk P w H' s'.heap ∧ RelV v u ∧ Q v H'
noncomputable def CR (CX : CXT) (outer : List Env) (P : Program) (w : World) (H : Hp) (s : Shared) (Q : VK) (E : XK) (r : Result) (s' : Shared) : Prop :=
  match r with
  | .ok (.ret u) => CE outer P w H s Q u s'
  | .ok _ => False
  | .error e => CX outer H s E e s'
structure FnOk (P : Program) (w : World) (K : PySem.W.Frag) (mg : Str → Option Value) (base : Heap) (CX : CXT) (k : Nat) (f : Addr) (fd : FuncData) (ps : List Str) (sp : Sp) : Prop where
  len : ∀ vs H Q E, sp vs H Q E → vs.length = ps.length
  run : ∀ (A : Around) (outer : List Env) (s : Shared) (H : Hp) (args : Args) (us : List Value) (vs : List V) (Q : VK) (E : XK), Room k A → Env0 P w K mg base A outer s H → BindsTo s fd args (ps.zip us) → Vals vs us → sp vs H Q E →
    codeAny (model P w) A (.call (.ref f) args) (CR CX outer P w H s Q E) s
theorem FnOk.mono {P : Program} {w : World} {K : PySem.W.Frag} {mg : Str → Option Value} {base : Heap} {CX : CXT} {j k : Nat} {f : Addr} {fd : FuncData} {ps : List Str} {sp : Sp} (F : FnOk P w K mg base CX j f fd ps sp) (h : j ≤ k) :
    FnOk P w K mg base CX k f fd ps sp := ⟨F.len, fun A outer s H args us vs Q E hr => F.run A outer s H args us vs Q E (hr.mono h)⟩
theorem FnOk.imp {P : Program} {w : World} {K : PySem.W.Frag} {mg : Str → Option Value} {base : Heap} {CX : CXT} {k : Nat} {f : Addr} {fd : FuncData} {ps : List Str} {sp sp' : Sp} (F : FnOk P w K mg base CX k f fd ps sp)
    (h : ∀ vs H Q E, sp' vs H Q E → sp vs H Q E) : FnOk P w K mg base CX k f fd ps sp' :=
  ⟨fun vs H Q E q => F.len vs H Q E (h _ _ _ _ q), fun A outer s H args us vs Q E hr he hb hv hs => F.run A outer s H args us vs Q E hr he hb hv (h _ _ _ _ hs)⟩

section
variable {X : Cx} {pins : List (Addr × Obj)} {σ : St} {H : Hp} {s s' : Shared}
theorem Inv.env0 (I : Inv X pins σ H s) : Env0 X.prog X.w X.K X.mg X.base X.A X.stack s H :=
  ⟨I.ok.frames, I.ok.mod, I.bs, Nat.le_trans I.ok.bsz I.sz, I.stack, I.stkFree, I.hok, I.bare⟩
theorem Inv.after {Q : VK} {u : Value} (I : Inv X pins σ H s) (h : CE X.stack X.prog X.w H s Q u s') : EP X pins σ Q u s' := by
  obtain ⟨v, H', os, bare, un, hok, r, q⟩ := h
  obtain ⟨hh, g, d, t, os'⟩ := s'
  obtain rfl : os' = s.os := os
  exact ⟨v, H', I.call (h' := hh) (g' := g) (d' := d) (t' := t) (ch := []) un hok bare (fun b z => absurd z (by simp)), r, q⟩
end

noncomputable def tCall (sp : Sp) (dvs : List V) (E : XK) (t : TA) : TE := fun σ H Q => t σ H fun vs H1 => sp (vs ++ dvs) H1 Q E
noncomputable def Binds (K : PySem.W.Frag) (fd : FuncData) (ps : List Str) (ds : List Value) : Prop :=
  ∀ (s : Shared) (us : List Value), K.In s.heap → (us ++ ds).length = ps.length → BindsTo s fd ⟨us, []⟩ (ps.zip (us ++ ds))
theorem Binds.all {K : PySem.W.Frag} {fd : FuncData} {ps : List Str} (h : ∀ us : List Value, us.length = ps.length → bindArgs fd ⟨us, []⟩ = pure (ps.zip us)) : Binds K fd ps [] := fun s us _ hl => by
  rw [List.append_nil] at hl ⊢
  exact .of_eq (h us hl)

noncomputable def Passes (CX : CXT) (X : Cx) (E : XK) : Prop := ∀ (pins : List (Addr × Obj)) (σ : St) (H : Hp) (s : Shared) (e : Value) (s' : Shared), Inv X pins σ H s → CX X.stack H s E e s' → X.xe e s'

section
variable {X : Cx} {CX : CXT} {k : Nat} {f C : Addr} {fd : FuncData} {ps : List Str} {sp : Sp} {dvs : List V} {ds : List Value} {E : XK} {x m : Str} {p pos apos : Pos} {e o : Expr} {es : List Expr} {ta : TE} {t : TA}

theorem run_fn {pins : List (Addr × Obj)} {σ : St} {H : Hp} {s : Shared} {Q : VK} {us : List Value} {vs : List V} (F : FnOk X.prog X.w X.K X.mg X.base CX k f fd ps sp) (hr : Room k X.A) (hb : Binds X.K fd ps ds) (hd : Vals dvs ds) (hx : Passes CX X E)
    (I : Inv X pins σ H s) (r : Vals vs us) (h : sp (vs ++ dvs) H Q E) : wpAny (model X.prog X.w) X.A (call (.ref f) us) (EP X pins σ Q) X.xe s := by
  have r2 : Vals (vs ++ dvs) (us ++ ds) := r.append hd
  have hl : (us ++ ds).length = ps.length := by rw [← r2.length]; exact F.len _ _ _ _ h
  refine wpAny_call (codeAny_mono (F.run X.A X.stack s H ⟨us, []⟩ (us ++ ds) (vs ++ dvs) Q E hr I.env0 (hb s us I.kIn hl) r2 h) fun r s' hq => ?_)
  cases r with
  | error e => exact hx pins σ H s e s' I hq
  | ok fl =>
    cases fl with
    | ret u => exact I.after hq
    | next => exact False.elim hq
    | brk => exact False.elim hq
    | cont => exact False.elim hq

theorem pe_call (F : FnOk X.prog X.w X.K X.mg X.base CX k f fd ps sp) (hr : Room k X.A) (hg : Gl X x) (hm : X.mg x = some (.ref f)) (hk : PySem.W.keepIn X.K (.ref f) = true) (hb : Binds X.K fd ps ds) (hd : Vals dvs ds) (hx : Passes CX X E)
    (ha : PA X (e :: es) t) (hdb : (x == ("__debug__" : Str)) = false := by decide) (he : starEach (e :: es) X.env = (false, eval e X.env) :: starEach es X.env := by rfl) (hpl : (backTo pos (starEach es X.env)).any (·.1) = false := by rfl) :
    PE X (.Call (.Name x p) (e :: es) [] pos) (tCall sp dvs E t) := by
  intro pins s σ H Q I h
  refine wpAny_Call_Name_kw (ld_glob I hg hm ?_ hdb)
  refine PySem.W.callWith_K (h₀ := X.base) I.ok.mod.kin hk (thn (ha pos pins s σ H _ I h) fun us s1 ⟨vs, H1, I1, r, q⟩ => ⟨I1.kIn, ?_⟩) he hpl
  exact run_fn F hr hb hd hx I1 r q
end

section
variable {X : Cx} {CX : CXT} {k : Nat} {f C : Addr} {fd : FuncData} {ps ks : List Str} {sp : Sp} {E : XK} {x m : Str} {p pos apos kpos : Pos} {e o : Expr} {es : List Expr} {kws : List Keyword} {te ta : TE} {t tk : TA} {nm : Option Str}
variable {g : List Value → List Value → List Value} {gV : List V → List V → List V}
end

structure FnScope (N P : List Str) (sc : Scope) : Prop where
  kind : sc.kind = .function
  co : sc.isCoroutine = false
  gen : sc.isGenerator = false
  nd : N.Nodup
  pre : N.take P.length = P
  par : ∀ x ∈ P, sc.names.lookup x = some .local ∨ sc.names.lookup x = some .cell
  nofree : ∀ y ∈ sc.names, y.2 ≠ .free

theorem bindL_out {kindOf : Str → Option NameKind} {x : Str} : ∀ {binds : List (Str × Value)} {m : Str → Option Value}, (∀ v, (x, v) ∉ binds) → bindL kindOf binds m x = m x
  | [], _, _ => rfl
  | (n, v) :: r, m, h => by
    unfold bindL
    rw [bindL_out fun w hw => h w (List.mem_cons_of_mem _ hw)]
    split
    · have : x ≠ n := by rintro rfl; exact h v List.mem_cons_self
      simp [this]
    · rfl
theorem bindC_out {kindOf : Str → Option NameKind} {x : Str} : ∀ {binds : List (Str × Value)} {m : Str → Option Value}, (∀ v, (x, v) ∉ binds) → bindC kindOf binds m x = m x
  | [], _, _ => rfl
  | (n, v) :: r, m, h => by
    unfold bindC
    rw [bindC_out fun w hw => h w (List.mem_cons_of_mem _ hw)]
    split
    · rfl
    · have : x ≠ n := by rintro rfl; exact h v List.mem_cons_self
      simp [this]
theorem bindL_get {kindOf : Str → Option NameKind} {x : Str} {v : Value} : ∀ {P : List Str} {vs : List Value} {i : Nat} {m : Str → Option Value}, P.Nodup → P[i]? = some x → vs[i]? = some v → kindOf x = some .local →
    bindL kindOf (P.zip vs) m x = some v
  | [], _, _, _, _, h, _, _ => by simp at h
  | _ :: _, [], _, _, _, _, h, _ => by simp at h
  | p :: P, w :: vs, 0, m, nd, h1, h2, hk => by
    simp at h1 h2; subst h1; subst h2
    show bindL kindOf ((p, w) :: P.zip vs) m p = _
    unfold bindL
    rw [bindL_out fun v hv => (List.nodup_cons.mp nd).1 (List.of_mem_zip hv).1, if_pos hk]
    simp
  | p :: P, w :: vs, i + 1, m, nd, h1, h2, hk => by
    show bindL kindOf ((p, w) :: P.zip vs) m x = _
    unfold bindL
    exact bindL_get (i := i) (List.nodup_cons.mp nd).2 (by simpa using h1) (by simpa using h2) hk
theorem bindC_get {kindOf : Str → Option NameKind} {x : Str} {v : Value} : ∀ {P : List Str} {vs : List Value} {i : Nat} {m : Str → Option Value}, P.Nodup → P[i]? = some x → vs[i]? = some v → kindOf x ≠ some .local →
    bindC kindOf (P.zip vs) m x = some v
  | [], _, _, _, _, h, _, _ => by simp at h
  | _ :: _, [], _, _, _, _, h, _ => by simp at h
  | p :: P, w :: vs, 0, m, nd, h1, h2, hk => by
    simp at h1 h2; subst h1; subst h2
    show bindC kindOf ((p, w) :: P.zip vs) m p = _
    unfold bindC
    rw [bindC_out fun v hv => (List.nodup_cons.mp nd).1 (List.of_mem_zip hv).1, if_neg hk]
    simp
  | p :: P, w :: vs, i + 1, m, nd, h1, h2, hk => by
    show bindC kindOf ((p, w) :: P.zip vs) m x = _
    unfold bindC
    exact bindC_get (i := i) (List.nodup_cons.mp nd).2 (by simpa using h1) (by simpa using h2) hk

noncomputable def start (N : List Str) (vs : List V) : St := vs.map some ++ List.replicate (N.length - vs.length) none

noncomputable def cxOf (CX : CXT) (P : Program) (w : World) (K : PySem.W.Frag) (mg : Str → Option Value) (base : Heap) (N : List Str) (qual : Str) (scope : Scope) (f : Addr) (cd : Value) (A : Around) (outer : List Env) (s : Shared) (H : Hp) (E : XK) : Cx where
  prog := P
  w := w
  K := K
  mg := mg
  base := base
  A := A.deeper (envOfC qual scope s.heap.objs.size f cd)
  N := N
  s₀ := s
  H₀ := H
  env := envOfC qual scope s.heap.objs.size f cd
  outer := outer
  stack := envOfC qual scope s.heap.objs.size f cd :: outer
  ex := []
  calm := true
  fn := fun _ => true
  pn := []
  xe := fun e s' => wpAny (model P w) (A.deeper (envOfC qual scope s.heap.objs.size f cd)) (leaving (envOfC qual scope s.heap.objs.size f cd) e) (fun _ s'' => CX outer H s E e s'') (fun e' s'' => CX outer H s E e' s'') s'

theorem cell_has {sc : Scope} {n : Nat} {x : Str} (h : sc.names.lookup x = some .cell) : ∃ c, (cellsFrom n sc.names []).lookup x = some c := by
  have q := PySem.W.cellsFrom_some sc.names n [] (.inl h)
  exact Option.isSome_iff_exists.mp q

theorem inv_start {CX : CXT} {P : Program} {w : World} {K : PySem.W.Frag} {mg : Str → Option Value} {base : Heap} {N ps : List Str} {qual : Str} {scope : Scope} {f : Addr} {cd : Value} {A : Around} {outer : List Env} {s s1 : Shared} {H : Hp} {E : XK} {us : List Value} {vs : List V}
    (S : FnScope N ps scope) (hd : A.handled = none) (e0 : Env0 P w K mg base A outer s H) (hl : vs.length = ps.length) (r : Vals vs us)
    (x : InCallC s s.heap.objs.size (bindL (envOfC qual scope s.heap.objs.size f cd).kindOf (ps.zip us) fun _ => none) (cellsFrom (s.heap.objs.size + 1) scope.names []) (bindC (envOfC qual scope s.heap.objs.size f cd).kindOf (ps.zip us) fun _ => none) s1) :
    Inv (cxOf CX P w K mg base N qual scope f cd A outer s H E) [] (start N vs) H s1 := by
  have hpl : ps.length ≤ N.length := by have := congrArg List.length S.pre; rw [List.length_take] at this; omega
  obtain ⟨h1, tk, rfl, hk⟩ := x.done
  have noA : ∀ b : Addr, b ∉ (cxOf CX P w K mg base N qual scope f cd A outer s H E).ex := fun b z => absurd (show b ∈ ([] : List Addr) from z) (by simp)
  refine ⟨⟨e0.mod, S.kind, rfl, rfl, Nat.le_refl _, fun y z c h1 h2 => ?_, fun y hy => ?_, fun y c _ h => ?_, fun _ => hd, Around.frames_deeper e0.frames, .inr ⟨rfl, rfl⟩, fun b z => absurd z (noA b), e0.bs, e0.bsz, fun b _ _ => noA b, fun b z => absurd z (noA b), e0.funs, e0.frf⟩,
    rfl, e0.bare, Un.kept hk, ⟨_, x.toInCall.ns, fun i y v h1 h2 h3 => ?_⟩, fun y c h => ⟨_, x.cell y c h⟩, e0.hok.fresh (Nat.le_refl _), fun y c h => ?_, fun p hp => absurd (show p ∈ ([] : List (Addr × Obj)) from hp) (by simp), e0.hok.kept hk, ?_⟩
  · exact name_of_addr x.apart (PySem.mem_of_lookup h1) (PySem.mem_of_lookup h2)
  · have hy : scope.names.lookup y = some .cell ∨ scope.names.lookup y = some .free := hy
    rcases hy with hy | hy
    · exact cell_has hy
    · exact absurd rfl (S.nofree _ (PySem.mem_of_lookup hy))
  · exact Nat.le_of_lt (x.above y c (PySem.mem_of_lookup h))
  · have hi : i < vs.length := by
      unfold start at h2
      by_cases hi : i < vs.length
      · exact hi
      · rw [List.getElem?_append_right (by simpa using hi)] at h2
        rw [List.getElem?_replicate] at h2
        split at h2 <;> cases h2
    have ha : vs[i]? = some v := by
      unfold start at h2
      rw [List.getElem?_append_left (by simpa using hi), List.getElem?_map] at h2
      cases e : vs[i]? with
      | none => rw [e] at h2; cases h2
      | some a => rw [e] at h2; cases h2; rfl
    obtain ⟨u, hu, rv⟩ := r.get ha
    have hp : ps[i]? = some y := by
      rw [← S.pre, List.getElem?_take_of_lt (by omega)]; exact h1
    have ndP : ps.Nodup := by rw [← S.pre]; exact S.nd.sublist (List.take_sublist _ _)
    refine ⟨u, rv, ?_⟩
    rcases S.par y (List.mem_of_getElem? hp) with k | k
    · exact .inl ⟨k, bindL_get ndP hp hu k⟩
    · obtain ⟨c, e⟩ := cell_has (n := s.heap.objs.size + 1) k
      refine .inr ⟨.inl k, c, e, ?_⟩
      have q := x.cell y c e
      rw [bindC_get ndP hp hu (by show scope.names.lookup y ≠ _; rw [k]; decide)] at q
      exact q
  · exact e0.hok.fresh (Nat.le_of_lt (x.above y c (PySem.mem_of_lookup h)))
  · unfold start
    show _ = N.length
    rw [List.length_append, List.length_map, List.length_replicate]
    omega

theorem fn_of {CX : CXT} {P : Program} {w : World} {K : PySem.W.Frag} {mg : Str → Option Value} {base : Heap} {k : Nat} {f : Addr} {name qual : Str} {params : Arguments} {body : List Stmt} {scope : Scope} {dV kV doc pm cdv ct oc : Value} {an od : Option Addr}
    {osl : Array (Option Value)} {N ps : List Str} {sp : Sp} (lk : K.lookup f = some ⟨oc, od, .func (PySem.W.fnOf name qual params body scope dV kV doc pm an cdv ct), osl⟩) (hcd : PySem.W.codeIn K cdv qual = true) (S : FnScope N ps scope)
    (len : ∀ vs H Q E, sp vs H Q E → vs.length = ps.length)
    (hbody : ∀ (A : Around) (outer : List Env) (s : Shared) (H : Hp) (vs : List V) (Q : VK) (E : XK), Room k (A.deeper (envOfC qual scope s.heap.objs.size f cdv)) → sp vs H Q E →
      ∃ t, PSs (cxOf CX P w K mg base N qual scope f cdv A outer s H E) body t ∧ t { nx := fun _ H' => Q .non H', rt := Q } (start N vs) H) :
    FnOk P w K mg base CX (k + 1) f (PySem.W.fnOf name qual params body scope dV kV doc pm an cdv ct) ps sp := by
  refine ⟨len, fun A outer s H args us vs Q E hr e0 hb r hsp => ?_⟩
  have hl := len _ _ _ _ hsp
  have KX : K.In s.heap := e0.mod.kin.keeps fun b o e => (e0.bs b o e).1
  have lim : s.heap.NoLimit := e0.mod.nolimit.keeps fun b o e => (e0.bs b o e).1
  have hkind : ∀ y ∈ ps.zip us, scope.names.lookup y.1 = some .local ∨ (scope.names.lookup y.1 = some .cell ∧ ((cellsFrom (s.heap.objs.size + 1) scope.names []).lookup y.1).isSome = true) := fun ⟨n, v⟩ hy => by
    rcases S.par n (List.of_mem_zip hy).1 with q | q
    · exact .inl q
    · exact .inr ⟨q, PySem.W.cellsFrom_some _ _ _ (.inl q)⟩
  refine codeAny_call_function hr.depth (KX _ _ lk) rfl S.co S.gen rfl (PySem.W.codeRec_of KX hcd) (hb _ _ _ _ ?_)
  refine wpAny_newFunctionEnv_cells S.kind hkind fun env he s1 x => ?_
  subst he
  refine ⟨lim.keeps x.toInCall.keep, codeAny_func ?_⟩
  obtain ⟨t, ht, hq⟩ := hbody A outer s H vs Q E (hr.deeper _) hsp
  have I : Inv (cxOf CX P w K mg base N qual scope f cdv A outer s H E) [] (start N vs) H s1 := inv_start S hr.hd e0 hl r x
  refine wpAny_mono (ht [] s1 (start N vs) H _ I hq) (fun fl s' hs => ?_) fun e s' hs => hs
  have fin : ∀ {σ' : St} {H' : Hp} {v : V} {u : Value}, Inv (cxOf CX P w K mg base N qual scope f cdv A outer s H E) [] σ' H' s' → RelV v u → Q v H' → CE outer P w H s Q u s' :=
    fun {σ' H' v u} J rv q => ⟨v, H', J.os, J.bare, J.base, J.hok, rv, q⟩
  cases fl with
  | ret u =>
    obtain ⟨v, σ', H', J, rv, q⟩ := hs
    exact fin J rv q
  | next =>
    obtain ⟨σ', H', J, q⟩ := hs
    exact fin (v := V.non) (u := Value.none) J rfl q
  | brk =>
    obtain ⟨_, _, _, q⟩ := hs
    exact False.elim q
  | cont =>
    obtain ⟨_, _, _, q⟩ := hs
    exact False.elim q
end L2

namespace L2
open PySem PySem.Spec PyProof.Rows
section
variable {X : Cx} {x : Str} {p pos : Pos} {e : Expr} {es : List Expr} {t : TA} {id T : String} {r : List V → Hp → VK → Prop}

noncomputable def tCB (r : List V → Hp → VK → Prop) (t : TA) : TE := fun σ H Q => t σ H fun vs H1 => r vs H1 Q
theorem pe_callB (hc : CallR X (.builtin id) r) (hg : Gl X x) (hm : X.mg x = none) (hv : bootBuiltins x = some (.builtin id)) (ha : PA X (e :: es) t) (hn : x ≠ "__name__" := by decide) (hdb : (x == ("__debug__" : Str)) = false := by decide)
    (he : starEach (e :: es) X.env = (false, eval e X.env) :: starEach es X.env := by rfl) (hpl : (backTo pos (starEach es X.env)).any (·.1) = false := by rfl) : PE X (.Call (.Name x p) (e :: es) [] pos) (tCB r t) := by
  intro pins s σ H Q I h
  refine wpAny_Call_Name_kw (ld_blt I hg hm hv ?_ hn hdb)
  exact PyProof.Rows.callWith_builtin1 (thn (ha pos pins s σ H _ I h) fun us s1 ⟨vs, H1, I1, r1, q1⟩ => hc pins s1 σ H1 vs us Q I1 r1 q1) he hpl
theorem pe_callTy (hc : CallR X (.type T) r) (hg : Gl X x) (hm : X.mg x = none) (hv : bootBuiltins x = some (.type T)) (ha : PA X (e :: es) t) (hn : x ≠ "__name__" := by decide) (hdb : (x == ("__debug__" : Str)) = false := by decide)
    (he : starEach (e :: es) X.env = (false, eval e X.env) :: starEach es X.env := by rfl) (hpl : (backTo pos (starEach es X.env)).any (·.1) = false := by rfl) : PE X (.Call (.Name x p) (e :: es) [] pos) (tCB r t) := by
  intro pins s σ H Q I h
  refine wpAny_Call_Name_kw (ld_blt I hg hm hv ?_ hn hdb)
  exact PyProof.Rows.callWith_type1 (thn (ha pos pins s σ H _ I h) fun us s1 ⟨vs, H1, I1, r1, q1⟩ => hc pins s1 σ H1 vs us Q I1 r1 q1) he hpl
end
end L2

namespace HT
open PySem PyProof.Rows

section
open PySem.SeqAt
open PySem.AutoSeq1 (wpAny_loadPart')
open PySem.MeetsSeq PySem.MeetsSeq2 PySem.MeetsSeq3

end

section
variable {prog : Program} {w : World} {A : Around} {E : Value → Shared → Prop} {s : Shared}

theorem cat_tup {t b : Addr} {vs ws : List Value} {Q : Value → Shared → Prop} (ht : IsTup s.heap t vs.toArray) (hb : IsTup s.heap b ws.toArray) (hv : vs ≠ [])
    (h1 : ws = [] → Q (.ref t) s) (h2 : ws ≠ [] → Q (.ref s.heap.objs.size) { s with heap := s.heap.push { cls := .type "tuple", data := .seq (vs ++ ws).toArray } })
    (hsz : vs.length + ws.length ≤ sizeLine) : wpAny (model prog w) A (binaryOp .Add (.ref t) (.ref b)) Q E s := by
  obtain ⟨⟨cls, dd, data, sl⟩, ho, hc, n, hd⟩ := id ht
  obtain ⟨⟨cls2, dd2, data2, sl2⟩, ho2, hc2, n2, hd2⟩ := id hb
  simp only at hc hd hc2 hd2
  subst hc hd hc2 hd2
  have e : vs.toArray ++ ws.toArray = (vs ++ ws).toArray := by simp
  by_cases hw : ws = []
  · exact concat_meets ⟨_, ho, rfl⟩ ⟨_, ho2, rfl⟩ noFill_tuple_add seq_tuple_add PySem.F.slot_tuple_add PySem.F.entry_tuple_add (PySem.F.args_tuple_add_2 _ _)
      (tuple_addW1 t b vs.toArray ws.toArray n n2 dd dd2 sl sl2 (by simpa using hv) (by simp [hw])) ⟨ho, ho2, h1 hw⟩
  · refine concat_meets ⟨_, ho, rfl⟩ ⟨_, ho2, rfl⟩ noFill_tuple_add seq_tuple_add PySem.F.slot_tuple_add PySem.F.entry_tuple_add (PySem.F.args_tuple_add_2 _ _)
      (tuple_addW2 t b vs.toArray ws.toArray n n2 dd dd2 sl sl2 (by simpa using hv) (by simpa using hw) (by rw [List.size_toArray, List.size_toArray]; exact hsz)) ⟨ho, ho2, ?_⟩
    rw [e]
    exact h2 hw

noncomputable def sIx (n d : Nat) : Option Int → Nat
  | none => d
  | some v => if v < 0 then (v + (n : Int)).toNat else min v.toNat n
end
end HT

namespace L2
open PySem PySem.Spec PyProof.Rows

noncomputable abbrev TO := St → Hp → (Option Int → Hp → Prop) → Prop
noncomputable def PO (X : Cx) (e : Option Expr) (t : TO) : Prop :=
  ∀ (pins : List (Addr × Obj)) (s : Shared) (σ : St) (H : Hp) (Q : Option Int → Hp → Prop), Inv X pins σ H s → t σ H Q →
    wpAny (model X.prog X.w) X.A (evalPart e X.env) (fun u s' => ∃ o H', Inv X pins σ H' s' ∧ IsPart u o ∧ Q o H') X.xe s
noncomputable def tNoPart : TO := fun _ H Q => Q none H
noncomputable def tPart (t : TE) : TO := fun σ H Q => t σ H fun x H1 => ∃ i, x = .int i ∧ Q (some i) H1

section
variable {X : Cx} {e : Expr} {te : TE} {lo hi : Option Expr} {tl th : TO} {pos p2 : Pos}

theorem po_none : PO X none tNoPart := by
  intro pins s σ H Q I h
  rw [evalPart_none]
  exact wpAny_pure ⟨none, H, I, .none, h⟩
theorem po_some (h : PE X e te) : PO X (some e) (tPart te) := by
  intro pins s σ H Q I hw
  rw [evalPart_some]
  refine thn (h pins s σ H _ I hw) fun u s1 ⟨x, H1, I1, r1, q1⟩ => ?_
  obtain ⟨i, rfl, q⟩ := q1
  obtain ⟨t, rfl⟩ := r1
  exact ⟨some i, H1, I1, .int i t, q⟩

noncomputable def SlR (X : Cx) (r : V → Option Int → Option Int → Hp → VK → Prop) : Prop :=
  ∀ (pins : List (Addr × Obj)) (s : Shared) (σ : St) (H : Hp) (x : V) (v vl vu : Value) (lo hi : Option Int) (sl : Addr) (Q : VK), Inv X pins σ H s → RelV x v → s.heap.IsSliceOf sl vl vu .none → IsPart vl lo → IsPart vu hi → r x lo hi H Q →
    ∃ T id, typeLookup (.type T) "__getitem__" = pure (some (.builtin id)) ∧ s.TypeIs v T ∧ wpAny (model X.prog X.w) X.A (getItem v (.ref sl)) (EP X pins σ Q) X.xe s
noncomputable def tSl (r : V → Option Int → Option Int → Hp → VK → Prop) (te : TE) (tl th : TO) : TE := fun σ H Q => te σ H fun x H1 => tl σ H1 fun l H2 => th σ H2 fun u H3 => r x l u H3 Q
theorem pe_slice {r : V → Option Int → Option Int → Hp → VK → Prop} (hr : SlR X r) (he : PE X e te) (hl : PO X lo tl) (hu : PO X hi th) : PE X (.Subscript e (.Slice lo hi none p2) pos) (tSl r te tl th) := by
  intro pins s σ H Q I h
  refine Subscript_ (thn (he pins s σ H _ I h) fun v s1 ⟨x, H1, I1, r1, q1⟩ => ?_)
  refine wpAny_Slice (thn (hl pins s1 σ H1 _ I1 q1) fun vl s2 ⟨l, H2, I2, pl, q2⟩ => thn (hu pins s2 σ H2 _ I2 q2) fun vu s3 ⟨u, H3, I3, pu, q3⟩ => ?_)
  rw [evalPart_none]
  refine wpAny_pure ?_
  have I4 : Inv X pins σ H3 { s3 with heap := s3.heap.push { cls := .type "slice", data := .fields #[vl, vu, .none] } } := I3.kept (t' := s3.toks) fun b ob q => Heap.get?_push_of_some _ q
  obtain ⟨T, id, hT, ht, hg⟩ := hr pins { s3 with heap := s3.heap.push { cls := .type "slice", data := .fields #[vl, vu, .none] } } σ H3 x v vl vu l u s3.heap.objs.size Q I4 r1 (Heap.IsSliceOf.new ..) pl pu q3
  show wpAny (model X.prog X.w) X.A (subscriptTail e (.Slice lo hi none p2) v (.ref s3.heap.objs.size)) (EP X pins σ Q) X.xe { s3 with heap := s3.heap.push { cls := .type "slice", data := .fields #[vl, vu, .none] } }
  exact tail_any (ops := [.ref s3.heap.objs.size, v]) ht hT hg (by with_unfolding_all rfl)

noncomputable def rCatT (K : PySem.W.Frag) : R2 := fun x y H Q => ∃ a b xs ys, x = .ref a ∧ y = .ref b ∧ SqT K H a xs ∧ SqT K H b ys ∧ xs ≠ [] ∧ xs.length + ys.length ≤ sizeLine ∧
  (ys = [] → Q (.ref a) H) ∧ (ys ≠ [] → ∀ p, H p = none → Q (.ref p) (upd H p (.tup (xs ++ ys))))
theorem Vals.nil_iff {xs : List V} {us : List Value} (r : Vals xs us) : us = [] ↔ xs = [] := by
  cases r with
  | nil => simp
  | cons _ _ => simp
theorem op_catT : OpR X (binaryOp .Add) (rCatT X.K) := by
  intro pins s σ H x y v u Q I rx ry h
  obtain ⟨a, b, xs, ys, rfl, rfl, ha, hb, hx, hz, q1, q2⟩ := h
  cases rx
  cases ry
  obtain ⟨its, r1, p1, _⟩ := I.tuple ha
  obtain ⟨its2, r2, p2, _⟩ := I.tuple hb
  refine HT.cat_tup p1 p2 (fun z => hx (r1.nil_iff.mp z)) (fun z => ⟨.ref a, H, I, rfl, q1 (r2.nil_iff.mp z)⟩) (fun z => ?_) (by rw [← r1.length, ← r2.length]; exact hz)
  refine ⟨.ref s.heap.objs.size, _, I.laid (t' := s.toks) (o := .tup (xs ++ ys)) (fun b ob q => Heap.get?_push_of_some _ q) (Nat.le_refl _) ?_, rfl, q2 (fun w => z (r2.nil_iff.mpr w)) _ (I.hok.fresh (Nat.le_refl _))⟩
  exact ⟨by rw [List.length_append]; exact hz, _, r1.append r2, IsTup.new _ _⟩
end
end L2

namespace L2
open PySem PySem.Spec PyProof.Rows

noncomputable def ixN (n : Nat) (i : Int) : Option Nat := if 0 ≤ i then (if i < n then some i.toNat else none) else if -(n : Int) ≤ i then some (i + n).toNat else none
noncomputable def atI {α : Type} (xs : List α) (i : Int) : Option α := (ixN xs.length i).bind fun j => xs[j]?
theorem ixN_seq {n : Nat} {i : Int} {j : Nat} (h : ixN n i = some j) : seqIndex? i n = some j ∧ j < n ∧ -(n : Int) ≤ i ∧ i < n := by
  unfold ixN at h
  by_cases h0 : 0 ≤ i
  · rw [if_pos h0] at h
    by_cases h1 : i < n
    · rw [if_pos h1] at h
      have e : i.toNat = j := Option.some.inj h
      exact ⟨by rw [seqIndex_of h0 h1, e], by omega, by omega, h1⟩
    · rw [if_neg h1] at h; cases h
  · rw [if_neg h0] at h
    by_cases h1 : -(n : Int) ≤ i
    · rw [if_pos h1] at h
      have e : (i + n).toNat = j := Option.some.inj h
      exact ⟨by rw [seqIndex_neg (by omega) h1, e], by omega, h1, by omega⟩
    · rw [if_neg h1] at h; cases h
theorem atI_get {α : Type} {xs : List α} {i : Int} {v : α} (h : atI xs i = some v) : ∃ j, seqIndex? i xs.length = some j ∧ xs[j]? = some v ∧ j < xs.length ∧ -(xs.length : Int) ≤ i ∧ i < xs.length := by
  unfold atI at h
  cases e : ixN xs.length i with
  | none => rw [e] at h; cases h
  | some j =>
    rw [e] at h
    obtain ⟨h1, h2, h3, h4⟩ := ixN_seq e
    exact ⟨j, h1, h, h2, h3, h4⟩
theorem atI_nat {α : Type} {xs : List α} {j : Nat} {v : α} (h : xs[j]? = some v) : atI xs (j : Int) = some v := by
  have hj : j < xs.length := (List.getElem?_eq_some_iff.mp h).1
  have e : ixN xs.length (j : Int) = some j := by
    unfold ixN
    rw [if_pos (by omega), if_pos (by omega)]; simp
  unfold atI; rw [e]; exact h
noncomputable def PlainIx (b : Expr) : Prop := ∀ o i, subscripted b false o i = operate [o, i] (getItem o i)
noncomputable def IxR (X : Cx) (r : R2) : Prop :=
  ∀ (value slice : Expr) (pins : List (Addr × Obj)) (s : Shared) (σ : St) (H : Hp) (x y : V) (v u : Value) (Q : VK), Inv X pins σ H s → RelV x v → RelV y u → r x y H Q →
    subscripted slice false v u = operate [v, u] (getItem v u) → wpAny (model X.prog X.w) X.A (subscriptTail value slice v u) (EP X pins σ Q) X.xe s
noncomputable def MtR (X : Cx) (id : String) (r : V → List V → Hp → VK → Prop) : Prop :=
  ∀ (pins : List (Addr × Obj)) (s : Shared) (σ : St) (H : Hp) (x : V) (xs : List V) (v : Value) (us : List Value) (Q : VK), Inv X pins σ H s → RelV x v → Vals xs us → r x xs H Q →
    wpAny (model X.prog X.w) X.A (call (.builtin id) (v :: us)) (EP X pins σ Q) X.xe s
section
variable {X : Cx} {a b : Expr} {ta tb : TE} {pos : Pos}
theorem pe_ix {r : R2} (hr : IxR X r) (ha : PE X a ta) (hb : PE X b tb) (hs : PlainIx b) : PE X (.Subscript a b pos) (tOp r ta tb) := by
  intro pins s σ H Q I h
  exact Subscript_ (binT ha hb I h fun v u s2 x y H2 I2 rx ry q => hr a b pins s2 σ H2 x y v u Q I2 rx ry q (hs _ _))

noncomputable def rIxL (K : PySem.W.Frag) : R2 := fun x y H Q => ∃ p xs i v, x = .ref p ∧ y = .int i ∧ SqL K H p xs ∧ atI xs i = some v ∧ Q v H
noncomputable def rIxT (K : PySem.W.Frag) : R2 := fun x y H Q => ∃ p xs i v, x = .ref p ∧ y = .int i ∧ SqT K H p xs ∧ atI xs i = some v ∧ Q v H
noncomputable def rIxS : R2 := fun x y H Q => ∃ z i c, x = .str z ∧ y = .int i ∧ z.length ≤ sizeLine ∧ atI z.cps.toList i = some c ∧ Q (.str ⟨#[c]⟩) H
theorem ix_list : IxR X (rIxL X.K) := by
  intro value slice pins s σ H x y v u Q I rx ry h hs
  obtain ⟨p, xs, i, z, rfl, rfl, hq, he, q⟩ := h
  cases rx
  obtain ⟨t, rfl⟩ := ry
  obtain ⟨its, r, pl, hz⟩ := I.list hq
  obtain ⟨j, h1, h2, h3, h4, h5⟩ := atI_get he
  obtain ⟨w, ew, rw'⟩ := r.get h2
  have hl := r.length
  have hn := line63
  have fin : EP X pins σ Q w s := ⟨z, H, I, rw', q⟩
  by_cases h0 : 0 ≤ i
  · have hj : i.toNat = j := by
      rw [seqIndex_of h0 h5] at h1
      exact Option.some.inj h1
    exact item_listR pl.isList h0 (by omega) (by rw [hj]; simpa using ew) fin hs
  · have hj : (i + (its.toArray.size : Int)).toNat = j := by
      rw [seqIndex_neg (by omega) h4] at h1
      rw [List.size_toArray, ← hl]
      exact Option.some.inj h1
    exact subscriptTail_builtinR (x := w) pl.isList.typeIs slot_list_getitem.lookup
      (wpAny_getItem_list_neg (Q := fun r s' => r = w ∧ EP X pins σ Q r s') pl.isList (by omega) (by rw [List.size_toArray] <;> omega) (by omega) (by rw [hj]; simpa using ew) ⟨rfl, fin⟩) hs
theorem ix_tup : IxR X (rIxT X.K) := by
  intro value slice pins s σ H x y v u Q I rx ry h hs
  obtain ⟨p, xs, i, z, rfl, rfl, hq, he, q⟩ := h
  cases rx
  obtain ⟨t, rfl⟩ := ry
  obtain ⟨its, r, pl, hz⟩ := I.tuple hq
  obtain ⟨j, h1, h2, h3, h4, h5⟩ := atI_get he
  obtain ⟨w, ew, rw'⟩ := r.get h2
  have hl := r.length
  have hn := line63
  have fin : EP X pins σ Q w s := ⟨z, H, I, rw', q⟩
  exact subscriptTail_builtinR (x := w) pl.typeIs slot_tuple_getitem.lookup
    (getItem_tuple (j := j) (Q := fun r s' => r = w ∧ EP X pins σ Q r s') pl (by omega) (by omega) (by rw [List.size_toArray, ← hl]; exact h1) (by simpa using ew) ⟨rfl, fin⟩) hs
theorem ix_str : IxR X rIxS := by
  intro value slice pins s σ H x y v u Q I rx ry h hs
  obtain ⟨z, i, c, rfl, rfl, hz, he, q⟩ := h
  obtain ⟨t, rfl⟩ := rx
  obtain ⟨t', rfl⟩ := ry
  obtain ⟨j, h1, h2, h3, h4, h5⟩ := atI_get he
  have hl : z.cps.toList.length = z.length := by simp [Str.length]
  rw [hl] at h1 h4 h5
  have hn := line63
  exact tail_any (typeIs_str s z t) slot_str_getitem.lookup (getItem_str (c := c) (by
    have e1 : decide (i < -(2 ^ 63 : Int)) = false := decide_eq_false (by omega)
    have e2 : decide (i ≥ 2 ^ 63) = false := decide_eq_false (by omega)
    rw [e1, e2, Bool.or_false]) (by rw [h1]; simpa using h2) ⟨.str ⟨#[c]⟩, H, I.tok _, ⟨_, rfl⟩, q⟩) hs
theorem call_len_seq : CallR X (.builtin "len") (fun xs H Q => ∃ p ys, xs = [.ref p] ∧ (SqL X.K H p ys ∨ SqT X.K H p ys) ∧ Q (.int ys.length) H) := by
  intro pins s σ H xs us Q I r h
  obtain ⟨p, ys, rfl, hq, q⟩ := h
  obtain ⟨u, rfl, rx⟩ := vals1 r
  cases rx
  have hn := line63
  rcases hq with hq | hq
  · obtain ⟨its, r', pl, hz⟩ := I.list hq
    have hlen := r'.length
    exact Calls.call_len_list pl.isList (by simp only [List.size_toArray] <;> omega) ⟨.int ys.length, H, I.tok _, ⟨s.toks + 1, by rw [List.size_toArray, hlen]⟩, q⟩
  · obtain ⟨its, r', pl, hz⟩ := I.tuple hq
    have hlen := r'.length
    exact len_tuple pl (by simp only [List.size_toArray] <;> omega) ⟨.int ys.length, H, I.tok _, ⟨s.toks + 1, by rw [List.size_toArray, hlen]⟩, q⟩
theorem call_len_str : CallR X (.builtin "len") (fun xs H Q => ∃ z, xs = [.str z] ∧ z.length ≤ sizeLine ∧ Q (.int z.length) H) := by
  intro pins s σ H xs us Q I r h
  obtain ⟨z, rfl, hz, q⟩ := h
  obtain ⟨u, rfl, t, rfl⟩ := vals1 r
  have hn := line63
  exact len_str (by omega) ⟨.int z.length, H, I.tok _, ⟨_, rfl⟩, q⟩
theorem CallR.or {f : Value} {r r' : List V → Hp → VK → Prop} (h : CallR X f r) (h' : CallR X f r') : CallR X f (fun xs H Q => r xs H Q ∨ r' xs H Q) := by
  intro pins s σ H xs us Q I rs q
  rcases q with q | q
  · exact h pins s σ H xs us Q I rs q
  · exact h' pins s σ H xs us Q I rs q
noncomputable def tyV (K : PySem.W.Frag) (T : String) (x : V) (H : Hp) : Prop := match x with
  | .str _ => T = "str"
  | .int _ => T = "int"
  | .ref p => (T = "list" ∧ ∃ xs, SqL K H p xs) ∨ (T = "tuple" ∧ ∃ o, K.lookup p = some o ∧ o.cls = .type "tuple" ∧ o.dict = none) ∨
      (T = "dict" ∧ ((∃ kvs, H p = some (.dK kvs)) ∨ ∃ kvs, H p = some (.dT kvs))) ∨ (T = "set" ∧ ∃ S n, H p = some (.set S n))
  | _ => False
theorem tyV_is {pins : List (Addr × Obj)} {σ : St} {H : Hp} {s : Shared} {T : String} {x : V} {v : Value} (I : Inv X pins σ H s) (r : RelV x v) (ty : tyV X.K T x H) :
    s.TypeIs v T ∧ ∀ a, v = .ref a → ∃ ob, s.heap.get? a = some ob ∧ ob.dict = none := by
  cases x with
  | str z =>
    obtain ⟨t, rfl⟩ := r
    cases (show T = "str" from ty)
    exact ⟨typeIs_str s z t, fun _ e => nomatch e⟩
  | int i =>
    obtain ⟨t, rfl⟩ := r
    cases (show T = "int" from ty)
    exact ⟨typeIs_int s i t, fun _ e => nomatch e⟩
  | ref p =>
    cases r
    rcases ty with ⟨rfl, xs, hq⟩ | ⟨rfl, o, hk, hc, hd⟩ | ⟨rfl, hk⟩ | ⟨rfl, S, n, hk⟩
    · obtain ⟨its, _, pl, _⟩ := I.list hq
      refine ⟨pl.isList.typeIs, fun a e => ?_⟩
      cases e
      obtain ⟨o, n, e, c, hd, _⟩ := pl
      exact ⟨o, e, hd⟩
    · refine ⟨⟨o, I.kIn p o hk, hc⟩, fun a e => ?_⟩
      cases e
      exact ⟨o, I.kIn _ o hk, hd⟩
    · have z : ∃ o, s.heap.get? p = some o ∧ o.ExactDict := by
        rcases hk with ⟨kvs, hk⟩ | ⟨kvs, hk⟩
        · obtain ⟨_, _, _, _, o, _, _, e, ex, _⟩ := I.hok p _ hk
          exact ⟨o, e, ex⟩
        · obtain ⟨_, _, _, _, o, _, _, e, ex, _⟩ := I.hok p _ hk
          exact ⟨o, e, ex⟩
      obtain ⟨o, e, ex⟩ := z
      refine ⟨⟨o, e, ex.1⟩, fun a e2 => ?_⟩
      cases e2
      exact ⟨o, e, ex.2.1⟩
    · obtain ⟨o, _, _, _, e, ex, _⟩ := I.hok p _ hk
      refine ⟨⟨o, e, ex.1⟩, fun a e2 => ?_⟩
      cases e2
      exact ⟨o, e, ex.2.1⟩
  | _ => exact False.elim ty
noncomputable def tBM0 (K : PySem.W.Frag) (T : String) (r : V → List V → Hp → VK → Prop) (to : TE) : TE := fun σ H Q => to σ H fun x H1 => tyV K T x H1 ∧ r x [] H1 Q
noncomputable def tBM (K : PySem.W.Frag) (T : String) (r : V → List V → Hp → VK → Prop) (to : TE) (t : TA) : TE := fun σ H Q => to σ H fun x H1 => tyV K T x H1 ∧ t σ H1 fun xs H2 => r x xs H2 Q
variable {o e : Expr} {es : List Expr} {to : TE} {t : TA} {name : Str} {apos cpos : Pos} {T id : String} {r : V → List V → Hp → VK → Prop}
theorem pe_bm0 (pa : PlainAttrs T) (slot : Slot T name id) (hty : typeOf (.builtin id) = pure (.type "method_descriptor")) (hm : MtR X id r) (ho : PE X o to)
    (hbase : attributeBase o name X.env (eval o X.env) = eval o X.env := by rfl) (hline : (apos.endLine == cpos.line) = true := by rfl) : PE X (.Call (.Attribute o name apos) [] [] cpos) (tBM0 X.K T r to) := by
  intro pins s σ H Q I h
  refine wpAny_Call_method0_late hbase hline (thn (ho pins s σ H _ I h) fun v s1 ⟨x, H1, I1, r1, ty, q1⟩ => ?_)
  obtain ⟨h1, h2⟩ := tyV_is I1 r1 ty
  exact ⟨T, id, pa, slot, hty, h1, h2, Calls.callWith_builtin rfl (PySem.evalArgs_none (hm pins s1 σ H1 x [] v [] Q I1 r1 .nil q1))⟩
theorem pe_bm (pa : PlainAttrs T) (slot : Slot T name id) (hty : typeOf (.builtin id) = pure (.type "method_descriptor")) (hm : MtR X id r) (ho : PE X o to) (ha : PA X (e :: es) t)
    (hbase : attributeBase o name X.env (eval o X.env) = eval o X.env := by rfl)
    (hfew : ((backTo cpos (starEach (e :: es) X.env)).all (fun x => !x.1) && (backToKw cpos (keywordEach [] X.env)).all (fun x => x.1.isSome)
      && decide ((e :: es).length + ([] : List Keyword).length + (if ([] : List Keyword).isEmpty then 0 else 1) < 30)) = true := by rfl)
    (hline : (apos.endLine == cpos.line) = true := by rfl) (hs : starEach (e :: es) X.env = (false, eval e X.env) :: starEach es X.env := by rfl) (hplain : (backTo cpos (starEach es X.env)).any (·.1) = false := by rfl) :
    PE X (.Call (.Attribute o name apos) (e :: es) [] cpos) (tBM X.K T r to t) := by
  intro pins s σ H Q I h
  refine wpAny_Call_method_late hbase hfew hline rfl (thn (ho pins s σ H _ I h) fun v s1 ⟨x, H1, I1, r1, ty, q1⟩ => ?_)
  obtain ⟨h1, h2⟩ := tyV_is I1 r1 ty
  refine ⟨T, id, pa, slot, hty, h1, h2, ?_⟩
  have hA := ha cpos pins s1 σ H1 _ I1 q1
  rw [hs] at hA ⊢
  refine Calls.callWith_builtin (by show (false || (backTo cpos (starEach es X.env)).any (·.1)) = false; rw [hplain] <;> rfl) (Calls.evalArgs_plain ?_)
  exact thn hA fun us s2 ⟨vs, H2, I2, r2, q2⟩ => hm pins s2 σ H2 x vs v us Q I2 r1 r2 q2
/- xs.append(e), list.index on a module's tuple .. are MtR facts of 06m -/
end
end L2

namespace L2
open PySem PySem.Spec PyProof.Rows

noncomputable def MtM (X : Cx) (id : String) (r : V → List V → Hp → VK → Prop) : Prop :=
  ∀ (pins : List (Addr × Obj)) (s : Shared) (σ : St) (H : Hp) (x : V) (xs : List V) (v : Value) (us : List Value) (Q : VK), Inv X pins σ H s → RelV x v → Vals xs us → r x xs H Q →
    wpAny (model X.prog X.w) X.A (call (.builtin id) (v :: us)) (EP X pins σ Q) X.xe s

theorem Vals.one : ∀ {x : V} {us : List Value}, Vals [x] us → ∃ u, us = [u] ∧ RelV x u
  | _, _, .cons r .nil => ⟨_, rfl, r⟩
theorem Vals.two : ∀ {x y : V} {us : List Value}, Vals [x, y] us → ∃ u v, us = [u, v] ∧ RelV x u ∧ RelV y v
  | _, _, _, .cons r (.cons q .nil) => ⟨_, _, rfl, r, q⟩
theorem Vals.zero : ∀ {us : List Value}, Vals [] us → us = []
  | _, .nil => rfl
theorem Vals.reverse {xs : List V} {us : List Value} (h : Vals xs us) : Vals xs.reverse us.reverse := by
  induction h with
  | nil => exact .nil
  | cons r t ih => rw [List.reverse_cons, List.reverse_cons]; exact Vals.append ih (.cons r .nil)
section
variable {X : Cx} {pins : List (Addr × Obj)} {σ : St} {H : Hp} {s : Shared} {l b : Addr} {xs ys zs : List V}

theorem Inv.lset {its its' : List Value} {n : Nat} {f : Array Value → Array Value} {t' : Nat} (I : Inv X pins σ H s) (hH : H l = some (.lst xs))
    (e : s.heap.get? l = some { cls := .type "list", data := .seq its.toArray n }) (hf : f its.toArray = its'.toArray) (hv : Vals ys its') (hz : ys.length ≤ sizeLine) :
    Inv X pins σ (upd H l (.lst ys)) { s with heap := s.heap.update l (Obj.mapSeq f), toks := t' } := by
  have q := PySem.IsL.update e f
  rw [hf] at q
  refine I.write (x := l) (e := l) (by rw [hH]; exact trivial) (.inl rfl) (fun b' u hb hu => (Heap.get?_update_other s.heap (Obj.mapSeq f) (Ne.symm hb)).trans hu) ⟨_, q⟩ ?_
  exact ⟨hz, its', _, hv, q⟩
theorem Inv.lnew {its : List Value} {t' : Nat} (I : Inv X pins σ H s) (hv : Vals ys its) (hz : ys.length ≤ sizeLine) :
    Inv X pins σ (upd H s.heap.objs.size (.lst ys)) { s with heap := s.heap.push { cls := .type "list", data := .seq its.toArray }, toks := t' } :=
  I.laid (fun _ _ q => Heap.get?_push_of_some _ q) (Nat.le_refl _) ⟨hz, its, 0, hv, Heap.get?_push_size _ rfl⟩
theorem Inv.fresh (I : Inv X pins σ H s) : H s.heap.objs.size = none := I.hok.fresh (Nat.le_refl _)
theorem Inv.lstM (I : Inv X pins σ H s) (hH : H l = some (.lst xs)) : xs.length ≤ sizeLine ∧ ∃ (its : List Value) (n : Nat), Vals xs its ∧ xs.length = its.length ∧ s.heap.get? l = some { cls := .type "list", data := .seq its.toArray n } := by
  obtain ⟨z, its, n, r, e⟩ := I.hok l _ hH
  exact ⟨z, its, n, r, r.length, e⟩

end

section
variable {X : Cx}

noncomputable def rAppend : V → List V → Hp → VK → Prop := fun x vs H Q => ∃ l xs y, x = .ref l ∧ vs = [y] ∧ H l = some (.lst xs) ∧ xs.length < sizeLine ∧ Q .non (upd H l (.lst (xs ++ [y])))
theorem mt_append : MtM X "list.append" rAppend := by
  intro pins s σ H x vs v us Q I rx rv h
  obtain ⟨l, xs, y, rfl, rfl, hH, hz, q⟩ := h
  cases rx
  obtain ⟨u, rfl, ru⟩ := rv.one
  obtain ⟨z, its, n, r, hl, e⟩ := I.lstM hH
  refine call_meets F.slot_list_append ⟨_, e, rfl⟩ F.entry_list_append (F.args_list_append_2 _ _) (PySem.list_append l its.toArray n u (by rw [List.size_toArray]; omega)) ⟨e, ?_⟩
  refine ⟨.non, _, I.lset (its' := its ++ [u]) hH e (by simp) (r.append (.cons ru .nil)) ?_, rfl, q⟩
  rw [List.length_append, List.length_singleton]
  omega

noncomputable def rCat : R2 := fun x y H Q => ∃ l b xs zs, x = .ref l ∧ y = .ref b ∧ H l = some (.lst xs) ∧ H b = some (.lst zs) ∧ xs.length + zs.length ≤ sizeLine ∧ ∀ p, H p = none → Q (.ref p) (upd H p (.lst (xs ++ zs)))
theorem op_cat : OpR X (binaryOp .Add) rCat := by
  intro pins s σ H x y v u Q I rx ry h
  obtain ⟨l, b, xs, zs, rfl, rfl, hH, hB, hz, q⟩ := h
  cases rx
  cases ry
  obtain ⟨z, its, n, r, hl, e⟩ := I.lstM hH
  obtain ⟨z2, its2, n2, r2, hl2, e2⟩ := I.lstM hB
  refine PySem.P.add_list e e2 ?_ (by rw [List.size_toArray, List.size_toArray]; omega)
  have ea : its.toArray ++ its2.toArray = (its ++ its2).toArray := by simp
  rw [ea]
  exact ⟨.ref _, _, I.lnew (t' := s.toks) (r.append r2) (by rw [List.length_append]; omega), rfl, q _ I.fresh⟩
end

section
variable {prog : Program} {w : World} {A : Around} {E : Value → Shared → Prop} {s : Shared}
end

section
variable {X : Cx}
end
end L2

namespace Att
open PySem PySem.W PySem.Calls PyProof.Rows

theorem ints_of_wellAll {P : Params} {h : Heap} : ∀ (ns : List Int) (vs : List Value), WellAll P h vs (ns.map WData.int) → IntsAre vs ns := by
  intro ns
  induction ns with
  | nil =>
    intro vs w
    rw [List.map_nil] at w
    cases w
    exact .nil
  | cons n ns ih =>
    intro vs w
    rw [List.map_cons] at w
    cases w with
    | cons a b =>
      cases a
      exact .cons _ _ (ih _ b)

theorem script_of {l : OpenLaw} {n : Nat} (hn : l.most = some n) {P : Params} {h : Heap} {args : List WData} {vals : List Value}
    (hpre : l.row.toRowW.claim.pre args = true) (hwl : WellAll P h vals args) :
    ∃ a vs ns, vals = [Value.ref a] ∧ args = [WData.list (ns.map WData.int)] ∧ h.get? a = some { cls := .type "list", data := .seq vs.toArray } ∧ IntsAre vs ns ∧ ns.length ≤ n := by
  have hsh : WShape.hasAll [] args [.list .int] = true := (pre_splitW hpre).1
  have hc : l.pre.holds [] { args := args } = true := (pre_splitW hpre).2
  obtain ⟨d, r, rfl, h1, h2⟩ := hasAllW_cons hsh
  obtain rfl := hasAllW_nil h2
  obtain ⟨xs, rfl, h3⟩ := hasW_list h1
  obtain ⟨ns, rfl⟩ := items_int h3
  have hlen : ns.length ≤ n := by
    unfold OpenLaw.pre at hc
    have h4 : (WTm.not (.lt (.lit (.int (n : Int))) (.len (.arg 0)))).holds [] { args := [.list (ns.map .int)] } = true := by
      have h4 := (holds_andW hc).1
      rw [hn] at h4
      exact h4
    have h5 := condW_of h4 (w_not (w_lt w_lit (w_len_list (w_arg rfl))))
    rw [List.length_map] at h5
    refine Nat.le_of_not_lt fun q => ?_
    have q' : (n : Int) < ((ns.length : Nat) : Int) := by omega
    first
      | (rw [decide_eq_true q'] at h5; exact absurd h5 (by decide))
      | (simp at h5; omega)
  cases hwl with
  | cons w1 w2 =>
    cases w2
    cases w1 with
    | list ho hall => exact ⟨_, _, ns, rfl, rfl, ho, ints_of_wellAll ns _ hall, hlen⟩

theorem post_true (l : OpenLaw) (args : List WData) : l.row.toRowW.claim.post args (.bool true) args = true :=
  postW_of (r := l.row.toRowW) (X := (true == true))
    (show WShape.has [] (.bool true) .bool = true by first | rfl | decide | simp [WShape.has, WShape.arms, WShape.armsAll])
    (show (WTm.eq .res (.lit (.bool true))).value [] { args := args, res := some (.bool true), after := args } = some (.bool (true == true)) from w_eq_bool (w_res rfl) w_lit) rfl

theorem attach_call {l : OpenLaw} {n : Nat} {q : Program} {loose : List Str} {XP : (Str → Option Value) → Heap → Prop} {YP : World → Heap → Prop} {d : DefRec}
    (hn : l.most = some n) (hdf : d.params.defaults = [])
    (call : ∀ (w : World) (s₀ s₁ : Shared) (mg mb : Str → Option Value) (fa : Addr) (o : Obj) (pm cd doc : Value) (a : Addr) (vs : List Value) (ns : List Int),
      Ground q loose [] XP w s₀ mg mb s₁.heap → YP w s₁.heap →
      s₁.heap.get? fa = some o → o.data = .func (docDef d.name d.params d.body d.scope pm cd doc) → s₁.heap.CodeRec cd d.name → mg d.name = some (.ref fa) →
      s₁.heap.get? a = some { cls := .type "list", data := .seq vs.toArray } → IntsAre vs ns → ns.length ≤ n → s₁.gens = #[] →
      codeAny (model l.prog w) callerA (.call (.ref fa) ⟨[.ref a], []⟩) (fun r s' => r = .ok (.ret (.bool true)) ∧ OldK s₁.heap s'.heap ∧ s'.os = s₁.os ∧ AllBare s'.gens) s₁) :
    WalkO q loose XP YP l.row.toRowW d [] (fun f vs => PySem.call f vs) := by
  intro w s₀ s₁ mg mb G Y fa o pm cd doc dV kV ho hd hcd hD hmg hg args vals as hpre hlay hrd hwl hlo
  obtain rfl : dV = .none := Dflts.none hD hdf
  obtain rfl : kV = .none := Dflts.noKw hD
  obtain ⟨a, vs, ns, rfl, rfl, hobj, hints, hlen⟩ := script_of hn hpre hwl
  refine enter_call (codeAny_mono (call w s₀ s₁ mg mb fa o pm cd doc a vs ns G Y ho (fd_plain hd) hcd hmg hobj hints hlen hg) fun r s' hq => ?_)
  obtain ⟨rfl, h2, h3, h4⟩ := hq
  exact ⟨.inl ⟨.bool true, .bool true, [], rfl, fun _ => rfl, .bool true, post_true l _, fun _ => ⟨List.Pairwise.nil, fun _ hm => (nomatch hm)⟩⟩, h2, h3, h4⟩

section
variable {prog : Program} {w : World} {A : Around} {E : Value → Shared → Prop} {s : Shared} {K : Frag}

end
end Att

namespace L2
open PySem PySem.Spec PyProof.Rows

theorem vals_ints : ∀ {vs : List Value} {ns : List Int}, IntsAre vs ns → Vals (ns.map V.int) vs
  | _, _, .nil => .nil
  | _, _, .cons n t h => .cons ⟨t, rfl⟩ (vals_ints h)

noncomputable def Only (H : Hp) : Prop := ∀ b, H b = none ∨ ∃ o xs, H b = some (.frz o (.lst xs))

theorem law_call {P : Program} {w : World} {K : PySem.W.Frag} {mg mb : Str → Option Value} {CX : CXT} {k : Nat} {fa a : Addr} {fd : FuncData} {x : Str} {sp : Sp} {s₁ : Shared} {vs : List Value} {ns : List Int}
    (KX : K.In s₁.heap) (hns : s₁.heap.Ns mainGlobals mg) (hb : s₁.heap.Ns builtinsNs mb) (hbb : ∀ x : Str, x ≠ "__name__" → mb x = bootBuiltins x) (hlim : s₁.heap.NoLimit) (hg : s₁.gens = #[])
    (ha : s₁.heap.get? a = some { cls := .type "list", data := .seq vs.toArray }) (hi : IntsAre vs ns) (hl : ns.length ≤ sizeLine) (hr : Room k callerA)
    (F : ∀ base : Heap, K.In base → base.Ns mainGlobals mg → FnOk P w K mg base CX k fa fd [x] sp) (hbind : ∀ (s : Shared) (u : Value), BindsTo s fd ⟨[u], []⟩ [(x, u)])
    (hsp : ∀ H : Hp, Only H → SqL K H a (ns.map V.int) → sp [.ref a] H (fun v _ => v = .bl true) fun _ _ _ => False)
    (hCX : ∀ H e s', CX [] H s₁ (fun _ _ _ => False) e s' → False) :
    codeAny (model P w) callerA (.call (.ref fa) ⟨[.ref a], []⟩) (fun r s' => r = .ok (.ret (.bool true)) ∧ OldK s₁.heap s'.heap ∧ s'.os = s₁.os ∧ AllBare s'.gens) s₁ := by
  have rv := vals_ints hi
  have lenV := hi.length
  -- from an abstract heap in which nothing but the script may be tracked
  have core : ∀ H : Hp, Only H → SqL K H a (ns.map V.int) → HOk P w H s₁.heap → (∀ b, H b ≠ none → b = a) → (H a ≠ none → K.lookup a = none) →
      codeAny (model P w) callerA (.call (.ref fa) ⟨[.ref a], []⟩) (fun r s' => r = .ok (.ret (.bool true)) ∧ OldK s₁.heap s'.heap ∧ s'.os = s₁.os ∧ AllBare s'.gens) s₁ := by
    intro H hO hS hok hA hK
    have base_of : ∀ {b : Addr} {o : Obj}, s₁.heap.get? b = some o → H b = none → (hidT s₁.heap H).get? b = some o := fun e n => hidT_get e n
    have noA : ∀ {b : Addr} {o : Obj} {es : Array DictEntry} {ep : Nat}, s₁.heap.get? b = some o → o.data = .dict es ep → H b = none := fun {b o es ep} e d => by
      cases q : H b with
      | none => rfl
      | some u =>
        have e' : b = a := hA b (by rw [q]; simp)
        subst e'
        rw [ha] at e; cases e
        have d' : Data.seq vs.toArray _ = Data.dict es ep := d
        cases d'
    have nsK : ∀ {b : Addr} {m : Str → Option Value}, s₁.heap.Ns b m → (hidT s₁.heap H).Ns b m := fun {b m} ⟨o, es, ep, e, d, r⟩ => ⟨o, es, ep, base_of e (noA e d), d, r⟩
    have hKb : K.In (hidT s₁.heap H) := fun b o e => base_of (KX b o e) (by
      cases q : H b with
      | none => rfl
      | some u =>
        have e' : b = a := hA b (by rw [q]; simp)
        subst e'
        rw [hK (by rw [q]; simp)] at e; cases e)
    have hM : Mod K mg (hidT s₁.heap H) := ⟨hKb, nsK hns, ⟨mb, nsK hb, hbb⟩, let ⟨mc, h1, h2⟩ := hlim; ⟨mc, nsK h1, h2⟩⟩
    have e0 : Env0 P w K mg (hidT s₁.heap H) callerA [] s₁ H := ⟨rfl, hM, fun b o e => of_hidT e, Nat.le_of_eq (hidT_size _ _), trivial, fun b hb => absurd (show b ∈ ([] : List Addr) from hb) (by simp), hok, .of_eq hg⟩
    refine codeAny_mono ((F _ hKb (nsK hns)).run callerA [] s₁ H ⟨[.ref a], []⟩ [.ref a] [.ref a] _ _ hr e0 (hbind s₁ (.ref a)) (.cons rfl .nil) (hsp H hO hS)) fun r s' h => ?_
    cases r with
    | error e => exact (hCX H e s' h).elim
    | ok fl =>
      cases fl with
      | next => exact False.elim h
      | brk => exact False.elim h
      | cont => exact False.elim h
      | ret u =>
        obtain ⟨v, H', os, bare, un, hok', r', q⟩ := h
        have q' : v = .bl true := q
        subst q'
        obtain rfl : u = Value.bool true := r'
        refine ⟨rfl, OldK.of_keep fun b o e => ?_, os, bare⟩
        cases q : H b with
        | none => exact un.keep b o e q (by intro z; exact absurd (show b ∈ ([] : List Addr) from z) (by simp)) (by simp)
        | some u =>
          rcases hO b with z | ⟨ob, xs, z⟩
          · rw [q] at z; cases z
          · have z2 := un.frzs b ob _ z
            obtain ⟨e1, _⟩ := hok b _ z
            obtain ⟨e2, _⟩ := hok' b _ z2
            rw [e] at e1; cases e1
            exact e2
  cases hk : K.lookup a with
  | some o =>
    -- the script is one of the module's own objects
    have e := KX a o hk
    rw [ha] at e
    cases e
    refine core (fun _ => none) (fun _ => .inl rfl) (.inr ⟨_, vs.toArray, _, hk, rfl, rfl, rfl, by rw [List.size_toArray, lenV]; exact hl, by simpa using rv⟩) (fun b u z => by have z' : (none : Option HO) = some u := z; cases z') (fun b z => absurd rfl z) fun z => absurd rfl z
  | none =>
    refine core (fun b => if b = a then some (.frz { cls := .type "list", data := .seq vs.toArray } (.lst (ns.map V.int))) else none) (fun b => ?_) (.inl (.inr ⟨{ cls := .type "list", data := .seq vs.toArray }, if_pos rfl⟩)) (fun b u z => ?_) (fun b z => ?_) fun _ => hk
    · by_cases hb : b = a
      · exact .inr ⟨_, _, if_pos hb⟩
      · exact .inl (if_neg hb)
    · by_cases hb : b = a
      · have z' := (if_pos hb).symm.trans z
        cases z'
        subst hb
        exact ⟨ha, by rw [List.length_map]; exact hl, vs, _, rv, ha⟩
      · have z' := (if_neg hb).symm.trans z
        cases z'
    · by_cases hb : b = a
      · exact hb
      · exact absurd (if_neg hb) z
end L2

namespace L2
open PySem PySem.Spec PyProof.Rows

theorem walk_of {l : PySem.W.OpenLaw} {n k : Nat} {q : Program} {loose : List Str} {XP : (Str → Option Value) → Heap → Prop} {YP : World → Heap → Prop} {d : DefRec} {K : Params → PySem.W.Frag} {CX : World → CXT} {sp : World → Sp} {x : Str}
    (hn : l.most = some n) (hn2 : n ≤ sizeLine) (hdf : d.params.defaults = []) (hr : Room k callerA)
    (hY : ∀ (w : World) (h : Heap), YP w h → (K w.params).In h)
    (F : ∀ (w : World) (mg : Str → Option Value) (fa : Addr) (h : Heap), (K w.params).In h → h.Ns mainGlobals mg → mg d.name = some (.ref fa) →
      ∃ fd : FuncData, (∀ (s : Shared) (u : Value), BindsTo s fd ⟨[u], []⟩ [(x, u)]) ∧
        ∀ base : Heap, (K w.params).In base → base.Ns mainGlobals mg → FnOk l.prog w (K w.params) mg base (CX w) k fa fd [x] (sp w))
    (hsp : ∀ (w : World) (H : Hp) (a : Addr) (ns : List Int), ns.length ≤ n → Only H → SqL (K w.params) H a (ns.map V.int) → sp w [.ref a] H (fun v _ => v = .bl true) fun _ _ _ => False)
    (hCX : ∀ (w : World) (H : Hp) (s : Shared) (e : Value) (s' : Shared), CX w [] H s (fun _ _ _ => False) e s' → False) :
    PySem.W.WalkO q loose XP YP l.row.toRowW d [] (fun f vs => PySem.call f vs) := by
  refine Att.attach_call hn hdf fun w s₀ s₁ mg mb fa o pm cd doc a vs ns G Y ho hd hcd hmg hobj hints hlen hg => ?_
  have KX := hY w _ Y
  obtain ⟨fd, hb, hF⟩ := F w mg fa _ KX G.T.g hmg
  exact law_call KX G.T.g G.T.b G.T.builtins G.T.nolimit hg hobj hints (Nat.le_trans hlen hn2) hr hF hb (fun H hO hS => hsp w H a ns hlen hO hS) fun H e s' => hCX w H s₁ e s'
end L2

/- THE LAST THEOREM (shape; LID, My.* are yours):
   My.Adr: a structure of the addresses that your layer names (classes, functions); My.Txt K t: a structure (Prop) of the equations over K;
   My.txt_mk : {K} {implicit addresses ..} (e1 : nsIn K mainGlobals "law" = some (some (.ref f))) (e2 : K.lookup f = some ⟨oc, od, .func (fnOf "law" "law" params body scope dV kV doc pm an cdv ct), sl⟩) (e3 : codeIn K cdv "law" = true) .. : ∃ t, My.Txt K t

set_option maxRecDepth 100000 in
set_option maxHeartbeats 0 in
theorem PySem.Challenge.cw_LID_holds : PySem.Challenge.rw_LID.Holds := by
  w_on; o_law; k_head; (case hw => w_witness2)
  k_fill
  refine L2.walk_of (l := PySem.Challenge.rw_LID) (n := 63) (k := 40) (x := "script") (CX := fun w => ..) (sp := fun _ => My.sp_law) rfl (by decide) rfl ⟨rfl, by decide, by decide⟩ (fun w h Y => PySem.W.kIn_of Y) ?F ?S ?C
  case F =>
    intro w mg fa h KX G hmg
    have T : ∃ t, My.Txt (L2.KOf KX) t := by
      dsimp only [L2.KOf]                          -- K must stand as «<heap const> w.params» for k_is
      refine' My.txt_mk ?e1 ?e2 ?e3 ..
      (case e1 => PySem.W.k_is)                    -- in the order: a name -> its address -> its object -> its parts
      (case e2 => PySem.W.k_is)
      ..
    obtain ⟨t, T⟩ := T
    have e0 := hmg.symm.trans (PySem.W.mg_of KX G T.law)
    cases e0                                       -- fa is the law's own address
    exact ⟨_, fun s u => .of_eq rfl, fun base kb nb => My.law_fn T kb nb⟩     -- if «.of_eq rfl» comes too early: refine' ⟨_, ?b, fun base kb nb => My.law_fn T kb nb⟩; exact fun s u => .of_eq rfl
  case S => exact fun w H a ns hl hO hS => ..
  case C => exact ..
(the tactic k_is has no namespace: write k_is) -/

namespace L2
open PySem PySem.Spec PyProof.Rows

noncomputable def defArgs (s : Stmt) : Arguments := match s with
  | .FunctionDef _ a _ _ _ _ _ _ _ _ => a
  | _ => { posonlyargs := [], args := [], vararg := none, kwonlyargs := [], kw_defaults := [], kwarg := none, defaults := [] }
noncomputable def defBody (s : Stmt) : List Stmt := match s with
  | .FunctionDef _ _ b _ _ _ _ _ _ _ => b
  | _ => []
noncomputable def defScope (s : Stmt) : Scope := match s with
  | .FunctionDef _ _ _ _ _ _ sc _ _ _ => sc
  | _ => { kind := .function, names := [], isGenerator := false, isCoroutine := false }

noncomputable abbrev CX0 : CXT := fun _ _ _ _ _ _ => False
noncomputable abbrev E0 : XK := fun _ _ _ => False
theorem pass0 {X : Cx} : Passes CX0 X E0 := fun _ _ _ _ _ _ _ h => h.elim

structure Fun (K : PySem.W.Frag) (x qual : Str) (st : Stmt) (f : Addr) (fd : FuncData) : Prop where
  ex : ∃ (oc : Value) (od : Option Addr) (kV doc pm : Value) (an : Option Addr) (cdv ct : Value) (osl : Array (Option Value)),
    fd = PySem.W.fnOf x qual (defArgs st) (defBody st) (defScope st) .none kV doc pm an cdv ct ∧ K.lookup f = some ⟨oc, od, .func fd, osl⟩ ∧ PySem.W.codeIn K cdv qual = true
  kp : PySem.W.keepIn K (.ref f) = true
section
variable {P : Program} {w : World} {K : PySem.W.Frag} {mg : Str → Option Value} {base : Heap}
theorem Fun.ok {x qual : Str} {st : Stmt} {f : Addr} {fd : FuncData} {N ps : List Str} {k : Nat} {sp : Sp} (F : Fun K x qual st f fd) (S : FnScope N ps (defScope st)) (len : ∀ vs H Q E, sp vs H Q E → vs.length = ps.length)
    (hbody : ∀ (cdv : Value) (A : Around) (outer : List Env) (s : Shared) (H : Hp) (vs : List V) (Q : VK) (E : XK), Room k (A.deeper (envOfC qual (defScope st) s.heap.objs.size f cdv)) → sp vs H Q E →
      ∃ t, PSs (cxOf CX0 P w K mg base N qual (defScope st) f cdv A outer s H E).nox (defBody st) t ∧ t { nx := fun _ H' => Q .non H', rt := Q } (start N vs) H) : FnOk P w K mg base CX0 (k + 1) f fd ps sp := by
  obtain ⟨oc, od, kV, doc, pm, an, cdv, ct, osl, rfl, lk, hcd⟩ := F.ex
  refine fn_of lk hcd S len fun A outer s H vs Q E hr hsp => ?_
  obtain ⟨t, h, q⟩ := hbody cdv A outer s H vs Q E hr hsp
  exact ⟨t, h.nox, q⟩
theorem Fun.binds {x qual : Str} {st : Stmt} {f : Addr} {fd : FuncData} {ps : List Str} (F : Fun K x qual st f fd)
    (h : ∀ (kV doc pm : Value) (an : Option Addr) (cdv ct : Value) (us : List Value), us.length = ps.length → bindArgs (PySem.W.fnOf x qual (defArgs st) (defBody st) (defScope st) .none kV doc pm an cdv ct) ⟨us, []⟩ = pure (ps.zip us)) : Binds K fd ps [] := by
  obtain ⟨oc, od, kV, doc, pm, an, cdv, ct, osl, rfl, lk, hcd⟩ := F.ex
  exact .all (h kV doc pm an cdv ct)
theorem fun_mk {x qual : Str} {st : Stmt} {f : Addr} {oc : Value} {od an : Option Addr} {osl : Array (Option Value)} {kV doc pm cdv ct : Value} (l : K.lookup f = some ⟨oc, od, .func (PySem.W.fnOf x qual (defArgs st) (defBody st) (defScope st) .none kV doc pm an cdv ct), osl⟩)
    (c : PySem.W.codeIn K cdv qual = true) (k : PySem.W.keepIn K (.ref f) = true) : Fun K x qual st f (PySem.W.fnOf x qual (defArgs st) (defBody st) (defScope st) .none kV doc pm an cdv ct) := ⟨⟨oc, od, kV, doc, pm, an, cdv, ct, osl, rfl, l, c⟩, k⟩
end
theorem small1000 {n : Nat} (h : n ≤ 1000) : n < sizeLine := Nat.lt_of_le_of_lt h (by decide)

section
variable {X : Cx}
theorem pv (i : Nat) {x : Str} {pos : Pos} (hN : X.N[i]? = some x := by rfl) (hv : Vis X.env.scope x := by first | exact Or.inl rfl | exact Or.inr (Or.inl rfl) | exact Or.inr (Or.inr rfl)) (hd : (x == ("__debug__" : Str)) = false := by decide)
    (hcd : (x == ("__classdict__" : Str)) = false := by decide) : PE X (.Name x pos) (tVar i) := pe_var hN hv hd hcd
end

noncomputable def Same (H H' : Hp) : Prop := ∀ b o, H b = some o → H' b = some o
theorem Same.refl (H : Hp) : Same H H := fun _ _ h => h
theorem Same.trans {H H1 H2 : Hp} (a : Same H H1) (b : Same H1 H2) : Same H H2 := fun c o h => b c o (a c o h)
theorem Same.free {H H' : Hp} (e : Same H H') {l : Addr} (h : H' l = Option.none) : H l = Option.none := by
  cases q : H l with
  | none => rfl
  | some o =>
    rw [e l o q] at h
    cases h
theorem Same.seq {K : PySem.W.Frag} {H H' : Hp} {a : Addr} {xs : List V} (e : Same H H') (h : SqL K H a xs) : SqL K H' a xs := by
  rcases h with (h | ⟨o, h⟩) | h
  · exact .inl (.inl (e _ _ h))
  · exact .inl (.inr ⟨o, e _ _ h⟩)
  · exact .inr h

end L2

namespace L2
open PySem PySem.Spec PyProof.Rows
theorem mapF_dict (o : Obj) (f : Array Value → Array Value) : (o.mapFields f).dict = o.dict := by
  obtain ⟨c, d, t, l⟩ := o
  cases t <;> rfl
noncomputable def KD (g g' : Heap) (e : Addr) : Prop := ∀ o, g.get? e = some o → ∃ o', g'.get? e = some o' ∧ o'.dict = o.dict
theorem KD.trans (x : KD g1 g2 e) (y : KD g2 g3 e) : KD g1 g3 e := fun o q => by
  obtain ⟨o1, q1, d1⟩ := x o q
  obtain ⟨o2, q2, d2⟩ := y o1 q1
  exact ⟨o2, q2, d2.trans d1⟩
section
variable {M : Model} {A : Around} {E : Value → Shared → Prop} {s : Shared} {bs : Heap} {env : Env} {out : List Env} {L e : Addr} {a0 fl : Value} {oe : Obj} {vs : Array Value} {Q : Unit → Shared → Prop}
theorem entryD {nx : Bool} (hfr : A.frames = some (env :: out)) (hl : s.heap.FunFrames bs (env :: out)) (hf : env.frame = some L) (he : s.heap.get? e = some oe) (hk : bs.StaysIn s.heap) (hn : bs.get? e = none)
    (hd : oe.data = .fields vs) (hz : 1 < vs.size) (h0 : vs[0]? = some a0)
    (hq : ∀ g', Heap.NotedW bs (env :: out) e oe.cls a0 (rawInt L) s.heap g' → KD s.heap g' e → Q () { s with heap := g' }) :
    wpAny M A (do let a ← frameOf env; let pl ← entryPlaceOf L nx; let b ← EntryCells.newEntry hd0 a .none (rawInt L) .none pl; setField (.ref e) 1 b) Q E s := by
  have hin : e ∉ (env :: out).filterMap (·.frame) := fun m => by
    obtain ⟨_, o, q, nf⟩ := hl.mem m
    rw [he] at q
    cases q
    exact nf vs hd
  refine wpAny_bind (wpAny_frameOf_fun hfr hl hf fun g1 t1 => wpAny_bind (wpAny_entryPlaceOf fun pl hpl => ?_))
  unfold EntryCells.newEntry newFields
  refine wpAny_bind (wpAny_newObj_type ?_ (hpl.sizeOk5 _ _ _ _ _))
  have e1 : g1.get? e = some oe := (t1.2.1 e hin).trans he
  have k1 : bs.StaysIn g1 := fun b o q => (t1.2.1 b fun m => by rw [(hl.mem m).1] at q; cases q).trans (hk b o q)
  obtain ⟨ob, hob⟩ : ∃ ob : Obj, ob = { cls := .type "traceback", dict := none, data := .fields ([hd0, .ref L, .none, rawInt L, .none] ++ (if pl.isEmpty then List.replicate 6 Value.none else pl)).toArray } := ⟨_, rfl⟩
  have hobd : ob.data = .fields ([hd0, .ref L, .none, rawInt L, .none] ++ (if pl.isEmpty then List.replicate 6 Value.none else pl)).toArray := by rw [hob]
  rw [← hob]
  have e2 := Heap.get?_push_of_some (h := g1) ob e1
  have nT : g1.objs.size ≠ e := Nat.ne_of_gt (Heap.lt_size e1)
  obtain ⟨fn, hfn⟩ : ∃ fn : Array Value → Array Value, fn = (·.setIfInBounds 1 (Value.ref g1.objs.size)) := ⟨_, rfl⟩
  have d3 := Obj.data_mapFields hd fn
  have e3 := Heap.get?_update_self (Obj.mapFields fn) e2 (Obj.isFreed_of_fields d3)
  have T3 := (Heap.get?_update_other (g1.push ob) (Obj.mapFields fn) (Ne.symm nT)).trans (Heap.get?_push_size g1 (by rw [hob]; rfl))
  have kp : ∀ b o, b ≠ e → g1.get? b = some o → ((g1.push ob).update e (Obj.mapFields fn)).get? b = some o := fun b o nb q => by
    rw [Heap.get?_update_other _ _ (Ne.symm nb)]
    exact Heap.get?_push_of_some _ q
  have nr : ∀ b o, s.heap.get? b = some o → (∀ ws, o.data ≠ .fields ws) → b ≠ e := fun b o q nf z => by
    rw [z, he] at q
    cases q
    exact nf vs hd
  have dd : KD s.heap ((g1.push ob).update e (Obj.mapFields fn)) e := fun o q => by
    rw [he] at q
    cases q
    exact ⟨_, e3, mapF_dict _ _⟩
  refine wpAny_setField e2 hd hz (hfn ▸ hq _ ⟨fun b o q => kp b o (fun z => by rw [z, hn] at q; cases q) (k1 b o q), hl.of_keeps fun b o q nf => ?_, ?_, fun b o q nf => ?_⟩ dd)
  · obtain ⟨sl, z⟩ := t1.2.2 b o q
    exact ⟨_, kp b _ (nr b o q nf) z, rfl⟩
  · refine ⟨_, _, g1.objs.size, _, _, e3, ⟨Obj.cls_mapFields _ _, ?_⟩, d3, ?_, k1.fresh, nT, T3, hobd, ?_⟩
    · rw [hfn, Array.getElem?_setIfInBounds_ne (by decide)]; exact h0
    · rw [hfn]; simp [hz]
    · first | (simp; done) | (rcases hpl with rfl | ⟨_, _, _, _, _, _, _, rfl⟩ <;> simp)
  · obtain ⟨sl, z⟩ := t1.2.2 b o q
    exact ⟨sl, kp b _ (nr b o q nf) z⟩
theorem noteD1 (hfr : A.frames = some (env :: out)) (hl : s.heap.FunFrames bs (env :: out)) (hf : env.frame = some L) (he : s.heap.get? e = some oe) (hk : bs.StaysIn s.heap) (hn : bs.get? e = none)
    (hd : oe.data = .fields vs) (h1 : vs[1]? = some .none) (h0 : vs[0]? = some a0)
    (hq : ∀ g', Heap.NotedW bs (env :: out) e oe.cls a0 (rawInt L) s.heap g' → KD s.heap g' e → Q () { s with heap := g' }) : wpAny M A (noteFrame (.ref e) env) Q E s := by
  unfold noteFrame
  simp only [hf]
  refine wpAny_bind (wpAny_field he hd h1 ?_)
  rw [if_neg (by decide)]
  exact entryD hfr hl hf he hk hn hd (Array.getElem?_eq_some_iff.mp h1).1 h0 hq
theorem noteD2 (hfr : A.frames = some (env :: out)) (hl : s.heap.FunFrames bs (env :: out)) (hf : env.frame = some L) (ht : s.heap.TracedW bs e cls a0) (hk : bs.StaysIn s.heap) (hn : bs.get? e = none)
    (hq : ∀ g', Heap.NotedW bs (env :: out) e cls a0 (rawInt L) s.heap g' → KD s.heap g' e → Q () { s with heap := g' }) : wpAny M A (noteFrame (.ref e) env) Q E s := by
  obtain ⟨ox, ws, T, oT, ts, x1, ⟨rfl, x2⟩, x3, x4, x5, x6, x7, x8, x9⟩ := ht
  unfold noteFrame
  simp only [hf]
  refine wpAny_bind (wpAny_field x1 x3 x4 ?_)
  rw [if_pos (show (Value.ref T != Value.none) = true from by simp)]
  refine wpAny_bind (wpAny_field x7 x8 x9 ?_)
  rw [if_neg (show ¬ ((Value.none == rawInt L) = true) from by simp [rawInt])]
  refine wpAny_bind (wpAny_setField x7 x8 (Array.getElem?_eq_some_iff.mp x9).1 ?_)
  have ot : ∀ b, b ≠ T → (s.heap.update T (Obj.mapFields (·.setIfInBounds 3 Value.none))).get? b = s.heap.get? b := fun b nb => Heap.get?_update_other _ _ (Ne.symm nb)
  have nr : ∀ b o, s.heap.get? b = some o → (∀ us, o.data ≠ .fields us) → b ≠ T := fun b o q nf z => by
    rw [z, x7] at q
    cases q
    exact nf ts x8
  refine entryD hfr (hl.of_keeps fun b o q nf => ⟨o, (ot b (nr b o q nf)).trans q, rfl⟩) hf ((ot e (Ne.symm x6)).trans x1) (fun b o q => (ot b fun z => by rw [z, x5] at q; cases q).trans (hk b o q)) hn x3 (Array.getElem?_eq_some_iff.mp x4).1 x2 fun g' y k => ?_
  obtain ⟨y1, y2, y3, y4⟩ := y
  refine hq g' ⟨y1, y2, y3, fun b o q nf => y4 b o ((ot b (nr b o q nf)).trans q) nf⟩ fun o q => k o ((ot e (Ne.symm x6)).trans q)
theorem flightD (hk : bs.StaysIn s.heap) (hl : s.heap.FunFrames bs l) (ht : s.heap.TracedAtW bs e cls a0 fl) (hn : bs.get? e = none)
    (hq : ∀ g', Heap.FlyingW bs l e cls a0 g' → s.heap.UpToSlots g' → KD s.heap g' e → Q () { s with heap := g' }) : wpAny M A (setFlight (.ref e) none) Q E s := by
  obtain ⟨ox, ws, T, oT, ts, x1, x2, x3, x4, x5, x6, x7, x8, x9⟩ := ht
  have z3 : 3 < ts.size := (Array.getElem?_eq_some_iff.mp x9).1
  obtain ⟨fn, hfn⟩ : ∃ fn : Array Value → Array Value, fn = (·.setIfInBounds 3 ((none : Option Addr).elim Value.none fun f => rawInt f)) := ⟨_, rfl⟩
  have ot : ∀ b, b ≠ T → (s.heap.update T (Obj.mapFields fn)).get? b = s.heap.get? b := fun b nb => Heap.get?_update_other _ _ (Ne.symm nb)
  have nr : ∀ b o, s.heap.get? b = some o → (∀ us, o.data ≠ .fields us) → b ≠ T := fun b o q nf z => by
    rw [z, x7] at q
    cases q
    exact nf ts x8
  unfold setFlight
  refine wpAny_bind (wpAny_field x1 x3 x4 ?_)
  rw [if_pos (show (Value.ref T != Value.none) = true from by simp)]
  refine wpAny_setField x7 x8 z3 (hfn ▸ hq _ ⟨fun b o q => (ot b fun z => by rw [z, x5] at q; cases q).trans (hk b o q), hn, hl.of_keeps fun b o q nf => ⟨o, (ot b (nr b o q nf)).trans q, rfl⟩, ?_⟩ (fun b o q nf => ⟨o.slots, (ot b (nr b o q nf)).trans q⟩) fun o q => ⟨o, (ot e (Ne.symm x6)).trans q, rfl⟩)
  exact ⟨ox, ws, T, _, _, (ot e (Ne.symm x6)).trans x1, x2, x3, x4, x5, x6, Heap.get?_update_self _ x7 (Obj.isFreed_of_fields (Obj.data_mapFields x8 _)), Obj.data_mapFields x8 _, by rw [hfn]; simp [z3]⟩
theorem leavesD1 (hfr : A.frames = some (env :: out)) (hf : env.frame = some L) (hl : s.heap.FunFrames bs (env :: out)) (he : s.heap.get? e = some oe) (hk : bs.StaysIn s.heap) (hn : bs.get? e = none)
    (hd : oe.data = .fields vs) (h1 : vs[1]? = some .none) (h0 : vs[0]? = some a0)
    (hq : ∀ g', Heap.FlyingW bs out e oe.cls a0 g' → s.heap.UpToSlots g' → KD s.heap g' e → Q () { s with heap := g' }) : wpAny M A (leaving env (.ref e)) Q E s := by
  unfold leaving
  refine wpAny_bind (noteD1 hfr hl hf he hk hn hd h1 h0 fun g1 y k1 => ?_)
  obtain ⟨y1, y2, y3, y4⟩ := y
  refine flightD (s := { s with heap := g1 }) y1 y2 y3 hn fun g2 f u k2 => hq g2 ?_ (Heap.UpToSlots.trans (fun b o q nf => y4 b o q nf) u) (k1.trans k2)
  obtain ⟨f1, f2, ⟨_, _, f3⟩, f4⟩ := f
  exact ⟨f1, f2, f3, f4⟩
theorem leavesD2 (hfr : A.frames = some (env :: out)) (hf : env.frame = some L) (hy : Heap.FlyingW bs (env :: out) e cls a0 s.heap)
    (hq : ∀ g', Heap.FlyingW bs out e cls a0 g' → s.heap.UpToSlots g' → KD s.heap g' e → Q () { s with heap := g' }) : wpAny M A (leaving env (.ref e)) Q E s := by
  obtain ⟨w1, w2, w3, w4⟩ := hy
  unfold leaving
  refine wpAny_bind (noteD2 hfr w3 hf w4 w1 w2 fun g1 y k1 => ?_)
  obtain ⟨y1, y2, y3, y4⟩ := y
  refine flightD (s := { s with heap := g1 }) y1 y2 y3 w2 fun g2 f u k2 => hq g2 ?_ (Heap.UpToSlots.trans (fun b o q nf => y4 b o q nf) u) (k1.trans k2)
  obtain ⟨f1, f2, ⟨_, _, f3⟩, f4⟩ := f
  exact ⟨f1, f2, f3, f4⟩
end
end L2

namespace L2
open PySem PySem.Spec PyProof.Rows
noncomputable abbrev vE : List Value := [.type "ValueError", .type "Exception", .type "BaseException", .type "object"]
structure ClsX (K : PySem.W.Frag) (C : Addr) (bm : List Value) (ini : Option Value) : Prop where
  ex : ∃ N nm q bs hdct sn sub ab col dd k0 k1 k2 k3 k5 od es ep, K.lookup C = some (excClassObj nm q C N bs bm hdct sn sub ab col dd k0 k1 k2 k3 k5 "ValueError.__new__") ∧ K.lookup N = some od ∧ od.data = .dict es ep ∧ es.all (fun e => match e.key with | .str _ _ => true | _ => false) = true ∧ nsFind es "__init__" = ini
theorem ClsX.at {K : PySem.W.Frag} {C : Addr} {bm : List Value} {ini : Option Value} (x : ClsX K C bm ini) : ∃ N nm q bs hdct sn sub ab col dd k0 k1 k2 k3 k5 mN, (∀ h, K.In h → h.get? C = some (excClassObj nm q C N bs bm hdct sn sub ab col dd k0 k1 k2 k3 k5 "ValueError.__new__") ∧ h.Ns N mN) ∧ mN "__init__" = ini := by
  obtain ⟨N, nm, q, bs, hdct, sn, sub, ab, col, dd, k0, k1, k2, k3, k5, od, es, ep, e1, e2, e3, e4, e5⟩ := x.ex
  refine ⟨N, nm, q, bs, hdct, sn, sub, ab, col, dd, k0, k1, k2, k3, k5, nsFind es, fun h k => ⟨k _ _ e1, ?_⟩, e5⟩
  have hN : h.isNs N = true := by
    unfold Heap.isNs
    rw [k _ _ e2]
    dsimp only
    rw [e3]
    exact e4
  obtain ⟨o, es', ep', f1, f2, f3, f4⟩ := Heap.Ns.of_isNs hN
  rw [k _ _ e2] at f1
  cases f1
  rw [e3] at f2
  cases f2
  exact ⟨_, es, ep, k _ _ e2, e3, f3, fun _ => rfl⟩
structure ErrK (K : PySem.W.Frag) (C : Addr) (up : List Addr) (ini : Option Value) : Prop where
  cls : ClsX K C (up.map Value.ref ++ vE) ini
  ups : ∀ A ∈ up, ∃ bm, ClsX K A bm none
theorem tail_of {K : PySem.W.Frag} (k : K.In h) : ∀ up : List Addr, (∀ A ∈ up, ∃ bm, ClsX K A bm none) → OwnTail h vE (up.map Value.ref ++ vE)
  | [], _ => .base
  | A :: up, x => by
    obtain ⟨bm, z⟩ := x A List.mem_cons_self
    obtain ⟨N, nm, q, bs, hdct, sn, sub, ab, col, dd, k0, k1, k2, k3, k5, mN, e1, e3⟩ := z.at
    exact .own (e1 h k).1 (e1 h k).2 e3 (tail_of k up fun B hB => x B (List.mem_cons_of_mem _ hB))
section
variable {X : Cx} {pins : List (Addr × Obj)} {σ : St} {H : Hp} {s : Shared} {C : Addr} {up : List Addr} {x : Str} {np cpos pos : Pos} {e : Expr} {t : TA}
theorem px_raise (hc : X.calm = true) (hx : ∀ e s, X.xe e s → False) (E : ErrK X.K C up none) (hg : Gl X x) (hm : X.mg x = some (.ref C)) (ha : PA X [e] t) {P : Value → Shared → Prop} (I : Inv X pins σ H s)
    (ht : t σ H fun vs H1 => vs.length ≤ sizeLine ∧ ∀ h' a s1 args, Inv X pins σ H1 s1 → Heap.MadeExcOf s1.heap h' a (.ref C) args → P (.ref a) { s1 with heap := h' })
    (hdb : (x == ("__debug__" : Str)) = false := by decide) (he : starEach [e] X.env = (false, eval e X.env) :: starEach [] X.env := by rfl) :
    wpAny (model X.prog X.w) X.A (exec (.Raise (some (.Call (.Name x np) [e] [] cpos)) none pos) X.env) (fun _ _ => False) P s := by
  obtain ⟨N, nm, q, bs, hdct, sn, sub, ab, col, dd, k0, k1, k2, k3, k5, mN, e1, e3⟩ := E.cls.at
  refine wpAny_Raise_call_subU (C := C) (N := N) (nm := nm) (q := q) (bs := bs) (bm := up.map Value.ref ++ vE) (hdct := hdct) (sn := sn) (sub := sub) (ab := ab) (col := col) (dd := dd) (k0 := k0) (k1 := k1) (k2 := k2) (k3 := k3) (k5 := k5) (mN := mN) (bmB := vE) PySem.F.excBase_ValueError (by decide +kernel) PySem.F.excBase_ValueError ((tail_of I.kIn up E.ups).hasType (by decide +kernel)) (I.ok.hd hc) (by rw [he]; rfl) e3 ?_
  refine ld_glob I hg hm ⟨rfl, ?_⟩ hdb
  have hs := ha cpos pins s σ H _ I ht
  rw [he] at hs ⊢
  refine Calls.evalArgs_plain (wpAny_mono hs (fun us s1 z => ?_) fun e s z => False.elim (hx e s z))
  obtain ⟨vs, H1, I1, r, hl, q1⟩ := z
  exact ⟨rfl, by rw [← r.length]; exact hl, (e1 _ I1.kIn).1, (e1 _ I1.kIn).2, tail_of I1.kIn up E.ups, fun h' a hm => q1 h' a s1 us I1 hm⟩
end
theorem ObjOk.has (x : ObjOk P w H h a o) : ∃ ob, h.get? a = some ob := by
  cases o with
  | lst xs => obtain ⟨_, _, _, _, e⟩ := x; exact ⟨_, e⟩
  | tup xs => obtain ⟨_, _, _, o, e, _⟩ := x; exact ⟨_, e⟩
  | dK kvs => obtain ⟨_, _, _, _, o, _, _, e, _⟩ := x; exact ⟨_, e⟩
  | dT kvs => obtain ⟨_, _, _, _, o, _, _, e, _⟩ := x; exact ⟨_, e⟩
  | set S n => obtain ⟨o, _, _, _, e, _⟩ := x; exact ⟨_, e⟩
  | ins C dx fs => obtain ⟨_, _, _, e, _⟩ := x; exact ⟨_, e⟩
  | own y => exact x
  | xd fs => obtain ⟨_, ⟨_, _, _, e, _⟩, _⟩ := x; exact ⟨_, e⟩
  | rng lo hi => obtain ⟨_, _, _, e⟩ := x; exact ⟨_, e⟩
  | frz ob u => obtain ⟨e, _⟩ := x; exact ⟨_, e⟩
  | tbl ps => exact ⟨_, x⟩
  | met f y => exact ⟨_, x⟩
  | ext φ => exact x.2.1
noncomputable def DOf (od : Option Addr) (a : Addr) (h : Heap) : Prop := ∃ oe, h.get? a = some oe ∧ oe.dict = od
theorem DOf.kd (x : DOf od a h) (k : KD h h' a) : DOf od a h' := by
  obtain ⟨oe, q, e1⟩ := x
  obtain ⟨o', q', e2⟩ := k oe q
  exact ⟨o', q', e2.trans e1⟩
structure Fly (P : Program) (w : World) (outer : List Env) (H : Hp) (s : Shared) (C a : Addr) (od : Option Addr) (H' : Hp) (s' : Shared) : Prop where
  os : s'.os = s.os
  bare : AllBare s'.gens
  un : Un (frs outer) [] H H' s.heap s'.heap
  hok : HOk P w H' s'.heap
  new : s.heap.get? a = none
  nH : H' a = none
  fl : ∃ B a0, Heap.FlyingW B outer a (.ref C) a0 s'.heap ∧ ∀ b o, s'.heap.get? b = some o → (H' b ≠ none ∨ ((∃ o', s.heap.get? b = some o') ∧ b ∉ frs outer)) → B.get? b = some o
  dc : DOf od a s'.heap
noncomputable def oV (od : Option Addr) : Value := match od with
  | none => .none
  | some d => .ref d
theorem oV_inj : ∀ {a b : Option Addr}, oV a = oV b → a = b
  | none, none, _ => rfl
  | some _, some _, h => by injection h with h; rw [h]
  | none, some _, h => by cases h
  | some _, none, h => by cases h
noncomputable def CX1 (P : Program) (w : World) : CXT := fun outer H s E e s' => ∃ a C od H', e = .ref a ∧ Fly P w outer H s C a od H' s' ∧ E (oV od) (some C) H'
noncomputable def Made (X : Cx) (pins : List (Addr × Obj)) (σ : St) (H : Hp) (C : Addr) (od : Option Addr) (e : Value) (s' : Shared) : Prop :=
  ∃ a oe vs a0, e = .ref a ∧ Inv X pins σ H s' ∧ H a = none ∧ X.s₀.heap.get? a = none ∧ s'.heap.get? a = some oe ∧ oe.cls = .ref C ∧ oe.data = .fields vs ∧ vs[0]? = some a0 ∧ vs[1]? = some .none ∧ oe.dict = od
noncomputable def Came (X : Cx) (pins : List (Addr × Obj)) (σ : St) (H : Hp) (C : Addr) (od : Option Addr) (e : Value) (s' : Shared) : Prop := ∃ a s H0, e = .ref a ∧ Inv X pins σ H0 s ∧ Fly X.prog X.w X.stack H0 s C a od H s'
section
variable {X : Cx} {pins : List (Addr × Obj)} {σ : St} {H H0 : Hp} {s s' : Shared} {C a : Addr} {od : Option Addr} {h1 h' B : Heap}
theorem Inv.offStack (I : Inv X pins σ H s) {b : Addr} (e : X.s₀.heap.get? b = some o) (hb : b ∉ X.fs) : b ∉ frs X.stack := fun z => by
  rcases List.mem_cons.mp (I.stkSub b z) with z | z
  · exact absurd (Nat.lt_of_lt_of_le (Heap.lt_size e) I.ok.above) (by rw [z]; exact Nat.lt_irrefl _)
  · exact hb z
theorem fly_out (hex : X.ex = []) (I : Inv X pins σ H { s' with heap := h1 }) (hB : B.StaysIn h') (cov : ∀ b o, h1.get? b = some o → (H b ≠ none ∨ ((∃ o', X.s₀.heap.get? b = some o') ∧ b ∉ frs X.stack)) → B.get? b = some o)
    (up : h1.UpToSlots h') (na : h1.get? a = none ∨ (X.s₀.heap.get? a = none ∧ H a = none)) (fl : Heap.FlyingW B X.outer a (.ref C) a0 h') (dc : DOf od a h') :
    Fly X.prog X.w X.outer X.H₀ X.s₀ C a od H { s' with heap := h' } := by
  have un0 := I.base
  rw [hex] at un0
  have kept : ∀ b o, X.s₀.heap.get? b = some o → b ∉ X.fs → ∀ o1, h1.get? b = some o1 → h'.get? b = some o1 := fun b o e hb o1 e1 => hB _ _ (cov b o1 e1 (.inr ⟨⟨o, e⟩, I.offStack e hb⟩))
  have trk : ∀ b u o, H b = some u → h1.get? b = some o → h'.get? b = some o := fun b u o e e1 => hB _ _ (cov b o e1 (.inl (by rw [e]; simp)))
  refine ⟨I.os, I.bare, ⟨fun b o e n hb hx => ?_, fun b o e n hb hx => ?_, fun b o e n hx => un0.free b o e n hx, fun b o e hx => ?_, un0.tups, un0.frzs, un0.tbls⟩, fun b u e => ?_, ?_, ?_, ⟨B, a0, fl, fun b o e z => ?_⟩, dc⟩
  · exact kept b o e hb o (un0.keep b o e n hb hx)
  · obtain ⟨sl, e1⟩ := un0.slot b o e n hb hx
    obtain ⟨_, o2, e2, d2⟩ := I.ok.funs.mem hb
    rw [e] at e2
    cases e2
    obtain ⟨sl2, e3⟩ := up b _ e1 d2
    exact ⟨sl2, e3⟩
  · obtain ⟨o1, e1⟩ := un0.there b o e hx
    by_cases hb : b ∈ X.fs
    · cases q : X.H₀ b with
      | none =>
        obtain ⟨sl, e1⟩ := un0.slot b o e q hb hx
        obtain ⟨_, o2, e2, d2⟩ := I.ok.funs.mem hb
        rw [e] at e2
        cases e2
        obtain ⟨sl2, e3⟩ := up b _ e1 d2
        exact ⟨_, e3⟩
      | some u => rw [I.ok.frf b hb] at q; cases q
    · exact ⟨o1, kept b o e hb o1 e1⟩
  · exact (I.hok b u e).stay (fun c v hc q => by
      rcases hc with rfl | hc
      · exact trk _ u v e q
      · exact trk _ _ v hc q) (fun _ q => q) fun _ _ q => q
  · rcases na with na | na
    · cases q : X.s₀.heap.get? a with
      | none => rfl
      | some o =>
        obtain ⟨o1, e1⟩ := un0.there a o q (by simp)
        have e2 : h1.get? a = some o1 := e1
        rw [na] at e2; cases e2
    · exact na.1
  · rcases na with na | na
    · cases q : H a with
      | none => rfl
      | some u =>
        obtain ⟨ob, e1⟩ := (I.hok a u q).has
        have e2 : h1.get? a = some ob := e1
        rw [na] at e2; cases e2
    · exact na.2
  · rcases z with z | ⟨⟨o', e'⟩, hb⟩
    · cases q : H b with
      | none => exact absurd q z
      | some u =>
        obtain ⟨ob, e1⟩ := (I.hok b u q).has
        have e2 := trk b u ob q e1
        have e3 : h'.get? b = some o := e
        rw [e2] at e3; cases e3
        exact cov b _ e1 (.inl z)
    · obtain ⟨o1, e1⟩ := un0.there b o' e' (by simp)
      have e2 := kept b o' e' hb o1 e1
      have e3 : h'.get? b = some o := e
      rw [e2] at e3; cases e3
      exact cov b _ e1 (.inr ⟨⟨o', e'⟩, I.offStack e' hb⟩)
theorem frs_in {l : List Env} : ∀ env ∈ l, ∀ b, env.frame = some b → b ∈ frs l := fun env he b hb => List.mem_filterMap.mpr ⟨env, he, hb⟩
theorem leave_made (hex : X.ex = []) (hst : X.stack = X.env :: X.outer) (hf : X.env.frame = some X.env.locals) (z : Made X pins σ H C od e s') :
    wpAny (model X.prog X.w) X.A (leaving X.env e) (fun _ s'' => ∃ a, e = .ref a ∧ Fly X.prog X.w X.outer X.H₀ X.s₀ C a od H s'') E s' := by
  obtain ⟨a, oe, vs, a0, rfl, I, nH, n0, he, hc, hd, h0, h1, hdc⟩ := z
  have hfr := I.ok.frames
  have fun1 : s'.heap.FunFrames X.base X.stack := I.stack
  have fr0 := I.stkFree
  have fsub := frs_in (l := X.stack)
  rw [hst] at hfr
  have hB : (PySem.W.hideAll s'.heap (a :: frs X.stack)).StaysIn s'.heap := fun b o q => PySem.W.of_hideAll _ q
  have hBn : (PySem.W.hideAll s'.heap (a :: frs X.stack)).get? a = none := PySem.W.hideAll_none _ List.mem_cons_self
  have hl : s'.heap.FunFrames (PySem.W.hideAll s'.heap (a :: frs X.stack)) (X.env :: X.outer) := by
    rw [← hst]
    exact PySem.W.funFrames_hide fun1 fun env he b hb => List.mem_cons_of_mem _ (fsub env he b hb)
  refine leavesD1 (bs := PySem.W.hideAll s'.heap (a :: frs X.stack)) hfr hf hl he hB hBn hd h1 h0 fun g' f u k => ⟨a, rfl, ?_⟩
  rw [hc] at f
  refine fly_out (h1 := s'.heap) (B := PySem.W.hideAll s'.heap (a :: frs X.stack)) hex I f.1 (fun b o e1 z => PySem.W.hideAll_get _ e1 fun hb => ?_) u (.inr ⟨n0, nH⟩) f (DOf.kd ⟨oe, he, hdc⟩ k)
  rcases List.mem_cons.mp hb with rfl | hb
  · rcases z with z | ⟨⟨o', z⟩, _⟩
    · exact z nH
    · rw [n0] at z; cases z
  · rcases z with z | z
    · exact z (fr0 b hb)
    · exact z.2 hb
theorem leave_came (hex : X.ex = []) (hst : X.stack = X.env :: X.outer) (hf : X.env.frame = some X.env.locals) (z : Came X pins σ H C od e s') :
    wpAny (model X.prog X.w) X.A (leaving X.env e) (fun _ s'' => ∃ a, e = .ref a ∧ Fly X.prog X.w X.outer X.H₀ X.s₀ C a od H s'') E s' := by
  obtain ⟨a, s, H0, rfl, I0, F⟩ := z
  obtain ⟨B, a0, fl, cov⟩ := F.fl
  have hfr := I0.ok.frames
  rw [hst] at hfr fl
  have I := I0.call' F.os F.un F.hok F.bare (fun b hb => absurd hb (by simp))
  refine leavesD2 hfr hf fl fun h' x1 x2 kd => ⟨a, rfl, ?_⟩
  refine fly_out (h1 := s'.heap) (B := B) hex I x1.1 (fun b o e1 z => cov b o e1 ?_) x2 (.inr ⟨?_, F.nH⟩) x1 (F.dc.kd kd)
  · rcases z with z | ⟨⟨o', e'⟩, hb⟩
    · exact .inl z
    · obtain ⟨o2, e2⟩ := I0.base.there b o' e' (by rw [hex]; simp)
      exact .inr ⟨⟨o2, e2⟩, hb⟩
  · cases q : X.s₀.heap.get? a with
    | none => rfl
    | some o =>
      obtain ⟨o2, e2⟩ := I0.base.there a o q (by rw [hex]; simp)
      rw [F.new] at e2; cases e2
end
end L2

namespace L2
open PySem PySem.Spec PyProof.Rows
noncomputable abbrev Cx.inS (X : Cx) (e : Value) : Cx := { X with A := X.A.mark (some e), calm := false, xe := fun _ _ => False }
section
variable {X : Cx} {pins : List (Addr × Obj)} {σ : St} {H H0 : Hp} {s s' : Shared} {C D a : Addr} {od : Option Addr} {h1 h' B : Heap}
theorem Inv.inS (I : Inv X pins σ H s) (e : Value) : Inv (X.inS e) pins σ H s :=
  ⟨⟨I.ok.mod, I.ok.kind, I.ok.glob, I.ok.blt, I.ok.above, I.ok.inj, I.ok.has, I.ok.cab, (fun z => nomatch z), I.ok.frames, I.ok.stk, I.ok.exf, I.ok.bs, I.ok.bsz, I.ok.noex, I.ok.exfs, I.ok.funs, I.ok.frf⟩, I.os, I.bare, I.base, I.loc, I.cell, I.free, I.freeC, I.pin, I.hok, I.len⟩
theorem Inv.outS (ok : X.Ok) (I : Inv (X.inS e) pins σ H s) : Inv X pins σ H s := ⟨ok, I.os, I.bare, I.base, I.loc, I.cell, I.free, I.freeC, I.pin, I.hok, I.len⟩
theorem inv_del {i : Nat} {tk : Nat} (I : Inv X pins σ H s) (hN : X.N.Nodup) (hi : X.N[i]? = some n)
    (hl : ∀ (j : Nat) (x : Str) (w : V), X.N[j]? = some x → σ[j]? = some (some w) → Vis X.env.scope x → ∃ u, RelV w u ∧ Look X.env s.heap m x u)
    (hn : h'.Ns X.env.locals (fun x => if x = n then v else m x)) (sb : Heap.SameBut X.env.locals s.heap h') : Inv X pins (σ.set i none) H { s with heap := h', toks := tk } := by
  have neL : ∀ b o, X.s₀.heap.get? b = some o → b ≠ X.env.locals := fun b o e => Nat.ne_of_lt (Nat.lt_of_lt_of_le (Heap.lt_size e) I.ok.above)
  have oth : ∀ b, b ≠ X.env.locals → h'.get? b = s.heap.get? b := fun b hb => sb.2 b hb
  refine ⟨I.ok, I.os, I.bare, ⟨fun b o e n' hb hx => ?_, fun b o e n' hb hx => ?_, fun b o e n' hx => I.base.free b o e n' hx, fun b o e hx => ?_, I.base.tups, I.base.frzs, I.base.tbls⟩, ⟨_, hn, fun j x w e1 e2 e3 => ?_⟩, fun x c e => ?_, I.free, I.freeC, fun p hp => ?_, fun b u e => ?_, by rw [List.length_set]; exact I.len⟩
  · rw [oth b (neL b o e)]; exact I.base.keep b o e n' hb hx
  · rw [oth b (neL b o e)]; exact I.base.slot b o e n' hb hx
  · rw [oth b (neL b o e)]; exact I.base.there b o e hx
  · have hj : j ≠ i := fun z => by
      rw [z] at e2
      by_cases hil : i < σ.length
      · rw [List.getElem?_set_self hil] at e2; cases e2
      · rw [List.getElem?_eq_none (by rw [List.length_set]; omega)] at e2; cases e2
    rw [List.getElem?_set_ne (Ne.symm hj)] at e2
    obtain ⟨u, r, l⟩ := hl j x w e1 e2 e3
    refine ⟨u, r, ?_⟩
    have hxn : x ≠ n := fun z => by
      rw [z, ← hi] at e1
      exact hj (((List.getElem?_inj (List.getElem?_eq_some_iff.mp hi).1 hN).mp e1.symm).symm)
    rcases l with ⟨k, l⟩ | ⟨k, c, e, ob, z⟩
    · exact .inl ⟨k, by dsimp only; rw [if_neg hxn]; exact l⟩
    · exact .inr ⟨k, c, e, ob, by rw [oth c (I.cne x c e)]; exact z.1, z.2⟩
  · obtain ⟨w, ob, z⟩ := I.cell x c e
    exact ⟨w, ob, by rw [oth c (I.cne x c e)]; exact z.1, z.2⟩
  · obtain ⟨e, n', ne, nf, d⟩ := I.pin p hp
    exact ⟨by rw [oth p.1 ne]; exact e, n', ne, nf, d⟩
  · refine (I.hok b u e).stay (fun c w hc q => ?_) (fun _ q => q) fun _ _ q => q
    have hcl : c ≠ X.env.locals := fun z => by
      have f := I.free
      rw [← z] at f
      rcases hc with rfl | hc
      · rw [e] at f; cases f
      · rw [hc] at f; cases f
    rw [oth c hcl]; exact q
noncomputable def ExcIs (a C : Addr) (od : Option Addr) : Heap → Prop := fun h => ∃ oe vs, h.get? a = some oe ∧ oe.cls = .ref C ∧ oe.data = .fields vs ∧ oe.dict = od
theorem inv_caught (I0 : Inv X pins σ H0 s) (F : Fly X.prog X.w X.stack H0 s C a od H s') (hB : B.StaysIn h') (cov : ∀ b o, s'.heap.get? b = some o → (H b ≠ none ∨ ((∃ o', s.heap.get? b = some o') ∧ b ∉ frs X.stack)) → B.get? b = some o)
    (up : s'.heap.UpToSlots h') (he : ExcIs a C od h') {tk : Nat} : Inv X pins σ (upd H a (.ext (ExcIs a C od))) { s' with heap := h', toks := tk } := by
  have un0 := F.un
  have ne : ∀ b u, H b = some u → b ≠ a := fun b u e z => by rw [z, F.nH] at e; cases e
  have ne' : ∀ b o, s.heap.get? b = some o → b ≠ a := fun b o e z => by rw [z, F.new] at e; cases e
  have trk : ∀ b u o, H b = some u → s'.heap.get? b = some o → h'.get? b = some o := fun b u o e e1 => hB _ _ (cov b o e1 (.inl (by rw [e]; simp)))
  have kept : ∀ b o, s.heap.get? b = some o → b ∉ frs X.stack → ∀ o1, s'.heap.get? b = some o1 → h'.get? b = some o1 := fun b o e hb o1 e1 => hB _ _ (cov b o1 e1 (.inr ⟨⟨o, e⟩, hb⟩))
  have slot : ∀ b o, s.heap.get? b = some o → H0 b = none → b ∈ frs X.stack → ∃ sl, h'.get? b = some { o with slots := sl } := fun b o e n hb => by
    obtain ⟨sl, e1⟩ := un0.slot b o e n hb (by simp)
    obtain ⟨_, o2, e2, d2⟩ := I0.stack.mem hb
    rw [e] at e2
    cases e2
    obtain ⟨sl2, e3⟩ := up b _ e1 d2
    exact ⟨sl2, e3⟩
  refine I0.call' (s' := { s' with heap := h', toks := tk }) (ch := []) F.os ⟨fun b o e n hb hx => ?_, fun b o e n hb hx => slot b o e n hb, fun b o e n hx => ?_, fun b o e hx => ?_, fun b xs e => ?_, fun b o u e => ?_, fun b ps e => ?_⟩ (fun b u e => ?_) F.bare fun b hb => absurd hb (by simp)
  · exact kept b o e hb o (un0.keep b o e n hb hx)
  · rw [upd_ne (ne' b o e)]; exact un0.free b o e n hx
  · obtain ⟨o1, e1⟩ := un0.there b o e hx
    by_cases hb : b ∈ frs X.stack
    · obtain ⟨sl, q⟩ := slot b o e (I0.stkFree b hb) hb
      exact ⟨_, q⟩
    · exact ⟨o1, kept b o e hb o1 e1⟩
  · have := un0.tups b xs e
    rw [upd_ne (ne b _ this)]; exact this
  · have := un0.frzs b o u e
    rw [upd_ne (ne b _ this)]; exact this
  · obtain ⟨more, this⟩ := un0.tbls b ps e
    exact ⟨more, by rw [upd_ne (ne b _ this)]; exact this⟩
  · by_cases hb : b = a
    · subst hb
      rw [upd_same] at e
      cases e
      obtain ⟨oe, vs, q⟩ := id he
      exact ⟨he, ⟨oe, q.1⟩, fun g1 g2 ⟨o1, v1, q1⟩ k => ⟨o1, v1, k _ q1.1, q1.2⟩⟩
    · rw [upd_ne hb] at e
      refine (F.hok b u e).stay (fun c w hc q => ?_) (fun c q => ?_) fun c xs q => ?_
      · rcases hc with rfl | hc
        · exact trk _ u w e q
        · exact trk _ _ w hc q
      · rw [upd_ne (ne c _ q)]; exact q
      · rw [upd_ne (ne c _ q)]; exact q
theorem exc_asked {K : PySem.W.Frag} {b : Bool} (k : K.In s.heap) (cC : ClsX K C bC iC) (cD : ClsX K D bD iD) (hbD : bD.contains (.type "BaseException") = true) (hb : (Value.ref C :: bC).contains (.ref D) = b) (he : ExcIs a C od s.heap)
    {Q : Bool → Shared → Prop} (hq : Q b s) : wpAny M A (excMatches (.ref a) (.ref D)) Q E s := by
  obtain ⟨N, nm, q, bs, hdct, sn, sub, ab, col, dd, k0, k1, k2, k3, k5, mN, e1, _⟩ := cC.at
  obtain ⟨N', nm', q', bs', hdct', sn', sub', ab', col', dd', j0, j1, j2, j3, j5, mN', e1', _⟩ := cD.at
  have hC := (e1 _ k).1
  have hDc := (e1' _ k).1
  obtain ⟨oe, vs, g1, g2, g3, g4⟩ := he
  have hcB : (Value.ref D :: bD).contains (.type "BaseException") = true := by rw [List.contains_cons, hbD, Bool.or_true]
  have f := PySem.tc_notTuple
  obtain ⟨hp, g, d, tk, os⟩ := s
  unfold excMatches
  cases b with
  | true =>
    repeat (first
      | (with_reducible refine wpAny_loadPart_at g1 ?_; rw [g2])
      | (with_reducible refine wpAny_loadPart_at hDc ?_)
      | (with_reducible refine PySem.wpAny_isSubtype_exc hDc ?_; rw [hcB])
      | (with_reducible refine PySem.wpAny_isSubtype_exc hC ?_; rw [hb])
      | wp_step)
    exact hq
  | false =>
    repeat (first
      | (with_reducible refine wpAny_loadPart_at g1 ?_; rw [g2])
      | (with_reducible refine wpAny_loadPart_at hDc ?_)
      | (with_reducible refine PySem.wpAny_isSubtype_exc hDc ?_; rw [hcB])
      | (with_reducible refine PySem.wpAny_isSubtype_exc hC ?_; rw [hb])
      | wp_step)
    exact hq
end
end L2

namespace L2
open PySem PySem.Spec PyProof.Rows
theorem flying_is (x : Heap.FlyingW B l a (.ref C) a0 h) (dc : DOf od a h) : ExcIs a C od h := by
  obtain ⟨_, _, _, oe, vs, T, oT, ts, e1, e2, e3, _⟩ := x
  obtain ⟨o', q, e'⟩ := dc
  rw [e1] at q
  cases q
  exact ⟨oe, vs, e1, e2.1, e3, e'⟩
noncomputable def Ends.gone (D : Ends) (i : Nat) : Ends := { nx := fun σ H => D.nx (σ.set i none) H, bk := fun σ H => D.bk (σ.set i none) H, ct := fun σ H => D.ct (σ.set i none) H, rt := D.rt }
noncomputable def Landed (X : Cx) (pins : List (Addr × Obj)) (σ : St) (H : Hp) (C : Addr) (od : Option Addr) (a : Addr) (s5 : Shared) : Prop :=
  ∃ s s' H0 B a0, Inv X pins σ H0 s ∧ Fly X.prog X.w X.stack H0 s C a od H s' ∧ Heap.FlyingW B X.stack a (.ref C) a0 s5.heap ∧ (∀ b o, s'.heap.get? b = some o → (H b ≠ none ∨ ((∃ o', s.heap.get? b = some o') ∧ b ∉ frs X.stack)) → B.get? b = some o) ∧
    s'.heap.UpToSlots s5.heap ∧ KD s'.heap s5.heap a ∧ s5 = { s' with heap := s5.heap }
section
variable {X : Cx} {pins : List (Addr × Obj)} {σ : St} {H : Hp} {s' s5 : Shared} {C D a : Addr} {od : Option Addr} {bC bD : List Value} {iC iD : Option Value} {e : Value} {i : Nat} {n x : Str} {b₀ : Stmt} {suite : List Stmt} {np pos : Pos} {Dn : Ends} {E : Value → Shared → Prop} {hs : List ExceptHandler}
theorem Landed.inv (z : Landed X pins σ H C od a s5) : H a = none ∧ Inv X pins σ (upd H a (.ext (ExcIs a C od))) s5 ∧ ExcIs a C od s5.heap := by
  obtain ⟨s, s', H0, B, a0, I0, F, x5, cov, u, kd, e5⟩ := z
  have he := flying_is x5 (F.dc.kd kd)
  have I5 := inv_caught (tk := s'.toks) I0 F x5.1 cov u he
  exact ⟨F.nH, by rw [e5]; exact I5, he⟩
theorem catch_came (hst : X.stack = X.env :: X.outer) (hf : X.env.frame = some X.env.locals) (z : Came X pins σ H C od e s')
    (hh : ∀ a s5, e = .ref a → Landed X pins σ H C od a s5 → wpAny (model X.prog X.w) X.A (handleBy (.ref a) X.env hs) (SP X pins Dn) E s5) :
    wpAny (model X.prog X.w) X.A (noteFrame e X.env) (fun _ s₂ => wpAny (model X.prog X.w) X.A (setFlight e none) (fun _ s₃ => wpAny (model X.prog X.w) X.A (handleBy e X.env hs) (SP X pins Dn) E s₃) E s₂) E s' := by
  obtain ⟨a, s, H0, rfl, I0, F⟩ := z
  obtain ⟨B, a0, fl, cov⟩ := F.fl
  have hfr := I0.ok.frames
  have fl0 := fl
  rw [hst] at fl hfr
  obtain ⟨f1, f2, f3, f4⟩ := fl
  refine noteD2 hfr f3 hf f4 f1 f2 fun g1 y k1 => ?_
  obtain ⟨y1, y2, y3, y4⟩ := y
  refine flightD (s := { s' with heap := g1 }) y1 y2 y3 f2 fun g2 f u k2 => ?_
  refine hh a _ rfl ⟨s, s', H0, B, a0, I0, F, ?_, cov, Heap.UpToSlots.trans (fun b o q nf => y4 b o q nf) u, k1.trans k2, rfl⟩
  rw [hst]
  exact f
theorem hand_skip (z : Landed X pins σ H C od a s5) (cC : ClsX X.K C bC iC) (cD : ClsX X.K D bD iD) (hbD : bD.contains (.type "BaseException") = true) (hD : (Value.ref C :: bC).contains (.ref D) = false)
    (hg : Gl X x) (hm : X.mg x = some (.ref D)) (hr : wpAny (model X.prog X.w) X.A (handleBy (.ref a) X.env hs) (SP X pins Dn) E s5) (hdb : (x == ("__debug__" : Str)) = false := by decide) :
    wpAny (model X.prog X.w) X.A (handleBy (.ref a) X.env (.ExceptHandler (some (.Name x np)) nm bdy pos :: hs)) (SP X pins Dn) E s5 := by
  obtain ⟨nH, I5, he⟩ := z.inv
  refine wpAny_handleBy_cons (codeAny_handlers_test ?_) (by intro q; cases q)
  refine ld_glob (I5.inS (.ref a)) hg hm ?_ hdb
  exact exc_asked I5.kIn cC cD hbD hD he hr
theorem hand_as (z : Landed X pins σ H C od a s5) (cC : ClsX X.K C bC iC) (cD : ClsX X.K D bD iD) (hbD : bD.contains (.type "BaseException") = true) (hD : (Value.ref C :: bC).contains (.ref D) = true)
    (hg : Gl X x) (hm : X.mg x = some (.ref D)) (hN : X.N.Nodup) (hi : X.N[i]? = some n) (hl : X.env.scope.names.lookup n = some .local) (hlo : X.env.kindOf n = some .local)
    (hs' : ∀ s2, H a = none → Inv (X.inS (.ref a)) pins (σ.set i (some (.ref a))) (upd H a (.ext (ExcIs a C od))) s2 → wpAny (model X.prog X.w) (X.A.mark (some (.ref a))) (execs (b₀ :: suite) X.env) (SP (X.inS (.ref a)) pins (Dn.gone i)) (fun _ _ => False) s2)
    (hdb : (x == ("__debug__" : Str)) = false := by decide) :
    wpAny (model X.prog X.w) X.A (handleBy (.ref a) X.env (.ExceptHandler (some (.Name x np)) (some n) (b₀ :: suite) pos :: hs)) (SP X pins Dn) E s5 := by
  obtain ⟨nH, I5, he⟩ := z.inv
  obtain ⟨s, s', H0, B, a0, I0, F, x5, cov, u, kd, e5⟩ := z
  have hp : (X.env.scope.kind == .class || (X.env.scope.kind == .module && X.env.locals != X.env.globals)) = false := by rw [I0.ok.kind]; rfl
  refine wpAny_handleBy_cons (codeAny_handlers_test ?_) (by intro q; cases q)
  refine ld_glob (I5.inS (.ref a)) hg hm ?_ hdb
  refine exc_asked I5.kIn cC cD hbD hD he ?_
  show codeAny _ _ _ _ _
  refine codeAny_handlers_suite_as ?_
  obtain ⟨f1, f2, f3, f4⟩ := x5
  refine flightD f1 f3 f4.at f2 fun h₆ x6 u6 k6 => ?_
  have I6 := inv_caught (tk := s'.toks) I0 F x6.1 cov (u.trans u6) (flying_is x6 (F.dc.kd (kd.trans k6)))
  rw [e5]
  refine store_ok (i := i) (v := .ref a) I6 hN hi (.inl hl) rfl (fun s7 I7 => ?_) (.inr hl)
  refine wpAny_mono (hs' s7 F.nH (I7.inS (.ref a))) (fun f s8 h8 => ?_) fun _ _ q => False.elim q
  cases f with
  | next =>
    obtain ⟨σ', H', I8, q⟩ := h8
    have I9 := I8.outS I0.ok
    obtain ⟨m, hn, hll⟩ := id I9.loc
    exact wpAny_nameGoes_keeps hlo hn hp fun h' v hn' sb => ⟨σ'.set i none, H', inv_del I9 hN hi hll hn' sb, q⟩
  | brk =>
    obtain ⟨σ', H', I8, q⟩ := h8
    have I9 := I8.outS I0.ok
    obtain ⟨m, hn, hll⟩ := id I9.loc
    exact wpAny_nameGoes_keeps hlo hn hp fun h' v hn' sb => ⟨σ'.set i none, H', inv_del I9 hN hi hll hn' sb, q⟩
  | cont =>
    obtain ⟨σ', H', I8, q⟩ := h8
    have I9 := I8.outS I0.ok
    obtain ⟨m, hn, hll⟩ := id I9.loc
    exact wpAny_nameGoes_keeps hlo hn hp fun h' v hn' sb => ⟨σ'.set i none, H', inv_del I9 hN hi hll hn' sb, q⟩
  | ret u =>
    obtain ⟨w, σ', H', I8, r, q⟩ := h8
    have I9 := I8.outS I0.ok
    obtain ⟨m, hn, hll⟩ := id I9.loc
    exact wpAny_nameGoes_keeps hlo hn hp fun h' v hn' sb => ⟨w, σ'.set i none, H', inv_del I9 hN hi hll hn' sb, r, q⟩
end
end L2

namespace L2
open PySem PySem.Spec PyProof.Rows
structure AskX (K : PySem.W.Frag) (C : Addr) (bm : List Value) : Prop where
  cls : ∃ ini, ClsX K C bm ini
  fc : PySem.W.findIn K (.ref C) "__class__" = some (some (.builtin "object.__class__"))
  fg : PySem.W.findIn K (.ref C) "__getattribute__" = some (some (.builtin "BaseException.__getattribute__"))
  fn : PySem.W.findIn K (.ref C) "__getattr__" = some none
  ob : bm.contains (.type "object") = true
  be : bm.contains (.type "BaseException") = true
section
variable {prog : Program} {w : World} {A : Around} {E : Value → Shared → Prop} {h : Heap} {g : Array GenState} {d : Drawn} {t : Nat} {os : OsState} {a C : Addr} {o : Obj} {K : PySem.W.Frag} {bm : List Value}
theorem cg_exc {R : Result → Shared → Prop} (X : AskX K C bm) (k : K.In h) (hx : h.get? a = some o) (hc : o.cls = .ref C) (hq : R (.ok (.ret (.ref C))) ⟨h, g, d, t, os⟩) :
    codeAny (model prog w) A (.call (.builtin "getset_descriptor.__get__") ⟨[.builtin "object.__class__", .ref a, .ref C], []⟩) R ⟨h, g, d, t, os⟩ := by
  obtain ⟨ini, cls⟩ := X.cls
  obtain ⟨N, nm, q, bs, hdct, sn, sub, ab, col, dd, k0, k1, k2, k3, k5, mN, e1, _⟩ := cls.at
  have hC := (e1 _ k).1
  have tD : (⟨h, g, d, t, os⟩ : Shared).TypeIs (.builtin "object.__class__") "getset_descriptor" := F.typeOf_object_class
  have hcO : (Value.ref C :: bm).contains (.type (".".intercalate ("object.__class__".cutAt '.').dropLast)) = true := by
    rw [F.owner_object_class, List.contains_cons, X.ob, Bool.or_true]
  refine codeAny_call_builtin F.slot_gs_get.plain F.entry_gs_get (F.slot_gs_get.check _ _ _ _ _ _ _ _ tD (F.args_gs_get _ _ _) ?_)
  repeat (any_goals (first
    | assumption
    | (with_reducible refine wpAny_loadPart_at hx ?_; rw [hc])
    | (with_reducible refine PySem.wpAny_isSubtype_exc hC ?_; rw [hcO])
    | wp_step))
  refine ⟨Code.quiet_builtin _ (by decide +kernel), codeAny_builtin F.entry_object_class ?_⟩
  repeat (any_goals (first
    | assumption
    | (with_reducible refine wpAny_loadPart_at hx ?_; rw [hc])
    | wp_step))
theorem ce_exc {Q : Fin → Shared → Prop} (X : AskX K C bm) (k : K.In h) (hx : h.get? a = some o) (hc : o.cls = .ref C) (hq : Q (.done (.ret (.ref C))) ⟨h, g, d, t, os⟩) :
    wpAny (model prog w) A (Builtin.«object.__getattribute__» ⟨[.ref a, .str "__class__" tk], []⟩) Q E ⟨h, g, d, t, os⟩ := by
  have tD : (⟨h, g, d, t, os⟩ : Shared).TypeIs (.builtin "object.__class__") "getset_descriptor" := F.typeOf_object_class
  have g5 := F.typeOf_object_class
  have g6 := F.slot_gs_get.lookup
  have g7 := F.slot_gs_set.lookup
  have lk := fun M => PySem.W.looks_findIn (M := M) k X.fc
  repeat (any_goals (first
    | assumption
    | (with_reducible refine wpAny_loadPart_at hx ?_; rw [hc])
    | (with_reducible refine (lk _).here ?_)
    | wp_step))
  refine cg_exc X k hx hc ?_
  repeat (any_goals (first
    | assumption
    | wp_step))
theorem cc_exc {nameV : Value} {Q : Unit → Shared → Prop} (X : AskX K C bm) (k : K.In h) (hx : h.get? a = some o) (hc : o.cls = .ref C) (hq : Q () ⟨h, g, d, t, os⟩) :
    wpAny M A (checkBuiltinCall "BaseException.__getattribute__" ⟨[.ref a, nameV], []⟩) Q E ⟨h, g, d, t, os⟩ := by
  obtain ⟨ini, cls⟩ := X.cls
  obtain ⟨N, nm, q, bs, hdct, sn, sub, ab, col, dd, k0, k1, k2, k3, k5, mN, e1, _⟩ := cls.at
  have hC := (e1 _ k).1
  have y1 : builtinKind "BaseException.__getattribute__" = some .slot := by decide +kernel
  have y2 : splitId "BaseException.__getattribute__" = some ("BaseException", "__getattribute__") := by decide +kernel
  have hcE : (Value.ref C :: bm).contains (.type "BaseException") = true := by rw [List.contains_cons, X.be, Bool.or_true]
  have y3 := F.args_bexc_ga (.ref a) nameV
  simp only [checkBuiltinCall, y1, y2]
  refine wpAny_bind ?_
  unfold isInstance
  repeat (first
    | (with_reducible refine wpAny_loadPart_at hx ?_; rw [hc])
    | (with_reducible refine PySem.wpAny_isSubtype_exc hC ?_; rw [hcE])
    | wp_step)
  exact hq
theorem cb_exc {Q : Value → Shared → Prop} (X : AskX K C bm) (k : K.In h) (hx : h.get? a = some o) (hc : o.cls = .ref C) (hq : Q (.ref C) ⟨h, g, d, t, os⟩) :
    wpAny (model prog w) A (getAttrBy (.ref a) (.str "__class__" tk) false) Q E ⟨h, g, d, t, os⟩ := by
  have lg := fun M => PySem.W.looks_findIn (M := M) k X.fg
  have ln := fun M => PySem.W.looks_findIn (M := M) k X.fn
  have z1 := F.attr_ValueError.ga.bind (.ref a)
  have z2 : (Value.builtin "BaseException.__getattribute__" == Value.builtin "object.__getattribute__") = false := by decide +kernel
  have z3 : (onTheHeap (Value.ref C) && Value.builtin "BaseException.__getattribute__" == Value.builtin "object.__getattribute__") = false := by rw [z2]; rfl
  repeat (any_goals (first
    | assumption
    | (with_reducible refine wpAny_loadPart_at hx ?_; rw [hc])
    | (with_reducible refine (lg _).here ?_)
    | (with_reducible refine (ln _).here ?_)
    | wp_step))
  refine codeAny_call_builtin F.attr_ValueError.ga.plain F.entry_bexc_ga (cc_exc X k hx hc (ce_exc X k hx hc ?_))
  repeat (any_goals (first
    | assumption
    | wp_step))
theorem ca_exc {Q : Option Value → Shared → Prop} (X : AskX K C bm) (k : K.In h) (hx : h.get? a = some o) (hc : o.cls = .ref C) (hq : Q (some (.ref C)) ⟨h, g, d, t + 1, os⟩) :
    wpAny (model prog w) A (getAttr? (.ref a) "__class__") Q E ⟨h, g, d, t, os⟩ := by
  unfold getAttr? getAttrBy?
  repeat (any_goals (first
    | assumption
    | (with_reducible apply cb_exc X k hx hc)
    | wp_step))
theorem kitx_exc (X : AskX K C bm) : PySem.W.KitX K (.ref a) (.ref C) (ExcIs a C od) := by
  obtain ⟨ini, cls⟩ := X.cls
  obtain ⟨N, nm, q, bs, hdct, sn, sub, ab, col, dd, k0, k1, k2, k3, k5, mN, e1, _⟩ := cls.at
  refine ⟨fun M h k he => ?_, fun M h k he => ?_, fun h tp dd' its n sl k htp => ?_, fun {prog w A E Q s} k he hq => ?_⟩
  · obtain ⟨oe, vs, g1, g2, g3, _⟩ := he
    intro A' Q' E' s' kk hq
    obtain ⟨hp, gg, dd, tk, os⟩ := s'
    have g1' := kk _ _ g1
    repeat (first
      | (with_reducible refine wpAny_loadPart_at g1' ?_; rw [g2])
      | wp_step)
    exact hq
  · intro A' Q' E' s' kk hq
    unfold isType loadHead
    exact wpAny_bind (wpAny_loadPart (kk _ _ (e1 _ k).1) (wpAny_pure hq))
  · refine Bool.eq_false_iff.mpr fun z => ?_
    have e : C = tp := Value.ref.inj (beq_iff_eq.mp z)
    subst e
    have z2 := (e1 _ k).1.symm.trans htp
    injection z2 with z2
    have z3 := congrArg Obj.cls z2
    injection z3 with z3
    exact absurd z3 (by decide)
  · obtain ⟨oe, vs, g1, g2, g3, _⟩ := he
    obtain ⟨hp, gg, dd, tk, os⟩ := s
    exact ca_exc X k g1 g2 hq
end
end L2

namespace L2
open PySem PySem.Spec PyProof.Rows
open Builtin Builtin.ObjectAttr
section
variable {prog : Program} {w : World} {A : Around} {E : Value → Shared → Prop} {s : Shared} {K : PySem.W.Frag} {x C : Addr} {ox : Obj} {od : Option Obj} {name : Str} {tk : Tok} {v : Value} {R : Result → Shared → Prop}
end
section
variable {X : Cx} {pins : List (Addr × Obj)} {σ : St} {H : Hp} {s : Shared} {a C : Addr} {f : Str}
end
end L2

namespace TM
open PySem PySem.Spec PyProof.Rows L2

inductive T where
  | non | bl (b : Bool) | int (i : Int) | str (x : Str) | ty (n : String) | tup (ts : List T) | lst (ts : List T) | scr (ts : List T) | dic | obj (C : Addr) (ns : List Str) (ts : List T) | ptr (a : Addr) | exc (C : Addr) (ns : List Str) (ts : List T)

mutual
noncomputable def Rep (K : PySem.W.Frag) (F : Hp) : T → V → Prop
  | .non, v => v = .non
  | .bl b, v => v = .bl b
  | .int i, v => v = .int i
  | .str x, v => v = .str x
  | .ty n, v => v = .ty n
  | .tup ts, v => ∃ a xs, v = .ref a ∧ SqT K F a xs ∧ Reps K F ts xs
  | .lst ts, v => ∃ a xs, v = .ref a ∧ F a = some (.lst xs) ∧ Reps K F ts xs
  | .scr ts, v => ∃ a xs, v = .ref a ∧ SqL K F a xs ∧ Reps K F ts xs
  | .dic, v => ∃ a, v = .ref a ∧ F a = some (.dK [])
  | .obj C ns ts, v => ∃ a dx vs, v = .ref a ∧ F a = some (.ins C dx (ns.zip vs)) ∧ vs.length = ns.length ∧ Reps K F ts vs
  | .ptr a, v => v = .ref a
  | .exc C ns ts, v => ∃ a od, v = .ref a ∧ F a = some (.ext (ExcIs a C od)) ∧ ((ns = [] ∧ ts = [] ∧ od = none) ∨ ∃ d us, od = some d ∧ F d = some (.xd (ns.zip us)) ∧ us.length = ns.length ∧ Reps K F ts us)
noncomputable def Reps (K : PySem.W.Frag) (F : Hp) : List T → List V → Prop
  | [], xs => xs = []
  | t :: ts, xs => ∃ v r, xs = v :: r ∧ Rep K F t v ∧ Reps K F ts r
end

theorem same_sqT {K : PySem.W.Frag} {H H' : Hp} {a : Addr} {xs : List V} (e : Same H H') (h : SqT K H a xs) : SqT K H' a xs := by
  rcases h with (h | ⟨o, h⟩) | h
  · exact .inl (.inl (e _ _ h))
  · exact .inl (.inr ⟨o, e _ _ h⟩)
  · exact .inr h

mutual
theorem Rep.mono {K : PySem.W.Frag} {F F' : Hp} (e : Same F F') : ∀ {t : T} {v : V}, Rep K F t v → Rep K F' t v
  | .non, _, h => h
  | .bl _, _, h => h
  | .int _, _, h => h
  | .str _, _, h => h
  | .ty _, _, h => h
  | .tup ts, _, h => by
    obtain ⟨a, xs, h1, h2, h3⟩ := h
    exact ⟨a, xs, h1, same_sqT e h2, Reps.mono e h3⟩
  | .lst ts, _, h => by
    obtain ⟨a, xs, h1, h2, h3⟩ := h
    exact ⟨a, xs, h1, e _ _ h2, Reps.mono e h3⟩
  | .scr ts, _, h => by
    obtain ⟨a, xs, h1, h2, h3⟩ := h
    exact ⟨a, xs, h1, e.seq h2, Reps.mono e h3⟩
  | .dic, _, h => by
    obtain ⟨a, h1, h2⟩ := h
    exact ⟨a, h1, e _ _ h2⟩
  | .obj C ns ts, _, h => by
    obtain ⟨a, dx, vs, h1, h2, h3, h4⟩ := h
    exact ⟨a, dx, vs, h1, e _ _ h2, h3, Reps.mono e h4⟩
  | .ptr _, _, h => h
  | .exc _ _ ts, _, h => by
    obtain ⟨a, od, h1, h2, h3⟩ := h
    refine ⟨a, od, h1, e _ _ h2, h3.imp id fun ⟨d, us, k1, k2, k3, k4⟩ => ⟨d, us, k1, e _ _ k2, k3, Reps.mono e k4⟩⟩
theorem Reps.mono {K : PySem.W.Frag} {F F' : Hp} (e : Same F F') : ∀ {ts : List T} {vs : List V}, Reps K F ts vs → Reps K F' ts vs
  | [], _, h => h
  | t :: ts, _, h => by
    obtain ⟨v, r, h1, h2, h3⟩ := h
    exact ⟨v, r, h1, Rep.mono e h2, Reps.mono e h3⟩
end

section
variable {K : PySem.W.Frag} {F : Hp}
theorem Reps.length : ∀ {ts : List T} {vs : List V}, Reps K F ts vs → vs.length = ts.length
  | [], _, h => by cases h; rfl
  | t :: ts, _, h => by
    obtain ⟨v, r, rfl, h2, h3⟩ := h
    simp [Reps.length h3]
theorem Reps.get : ∀ {ts : List T} {vs : List V} {i : Nat} {t : T}, Reps K F ts vs → ts[i]? = some t → ∃ v, vs[i]? = some v ∧ Rep K F t v
  | [], _, _, _, h, e => by simp at e
  | t :: ts, _, 0, _, h, e => by
    obtain ⟨v, r, rfl, h2, h3⟩ := h
    simp at e; subst e
    exact ⟨v, rfl, h2⟩
  | t :: ts, _, i + 1, u, h, e => by
    obtain ⟨v, r, rfl, h2, h3⟩ := h
    obtain ⟨w, h4, h5⟩ := Reps.get (i := i) (t := u) h3 (by simpa using e)
    exact ⟨w, by simpa using h4, h5⟩
theorem Reps.append : ∀ {ts us : List T} {vs ws : List V}, Reps K F ts vs → Reps K F us ws → Reps K F (ts ++ us) (vs ++ ws)
  | [], _, _, _, h, h' => by cases h; exact h'
  | t :: ts, _, _, _, h, h' => by
    obtain ⟨v, r, rfl, h2, h3⟩ := h
    exact ⟨v, r ++ _, rfl, h2, Reps.append h3 h'⟩
theorem Reps.one (h : Rep K F t v) : Reps K F [t] [v] := ⟨v, [], rfl, h, rfl⟩
theorem Reps.rev : ∀ {ts : List T} {vs : List V}, Reps K F ts vs → Reps K F ts.reverse vs.reverse
  | [], _, h => by cases h; rfl
  | t :: ts, _, h => by
    obtain ⟨v, r, rfl, h2, h3⟩ := h
    rw [List.reverse_cons, List.reverse_cons]
    exact (Reps.rev h3).append (.one h2)
theorem reps_ints : ∀ ns : List Int, Reps K F (ns.map T.int) (ns.map V.int)
  | [] => rfl
  | n :: ns => ⟨.int n, ns.map V.int, rfl, rfl, reps_ints ns⟩
end

structure Grow (F H F' H' : Hp) : Prop where
  sF : Same F F'
  sH : Same H H'
  fh : Same F' H'
  nw : ∀ a o, F' a = some o → F a = some o ∨ H a = none
theorem Grow.refl (h : Same F H) : Grow F H F H := ⟨Same.refl _, Same.refl _, h, fun _ _ e => .inl e⟩
theorem Grow.trans (a : Grow F H F1 H1) (b : Grow F1 H1 F2 H2) : Grow F H F2 H2 :=
  ⟨a.sF.trans b.sF, a.sH.trans b.sH, b.fh, fun x o e => by
    rcases b.nw x o e with e | e
    · exact a.nw x o e
    · exact .inr (a.sH.free e)⟩
theorem same_updN {H : Hp} (h : H p = none) : Same H (upd H p o) := fun b u q => by rw [upd_ne (ne_of_none q h)]; exact q
theorem Grow.new (o : HO) (h : Same F H) (n : H p = none) : Grow F H (upd F p o) (upd H p o) := by
  refine ⟨same_updN (h.free n), same_updN n, fun b u q => ?_, fun a u q => ?_⟩
  · by_cases e : b = p
    · subst e; rw [upd_same] at q ⊢; exact q
    · rw [upd_ne e] at q ⊢; exact h _ _ q
  · by_cases e : a = p
    · subst e; exact .inr n
    · rw [upd_ne e] at q; exact .inl q

inductive Sl where
  | sh (t : T) | own (ts : List T)
noncomputable abbrev TEnv := List (Option Sl)
noncomputable def SlOk (K : PySem.W.Frag) (H₀ F H : Hp) : Sl → V → Prop
  | .sh t, v => Rep K F t v
  | .own ts, v => ∃ p vs, v = .ref p ∧ H p = some (.lst vs) ∧ F p = none ∧ H₀ p = none ∧ Reps K F ts vs
structure EnvOk (K : PySem.W.Frag) (F₀ H₀ F H : Hp) (σ : L2.St) (τ : TEnv) : Prop where
  g : Grow F₀ H₀ F H
  len : σ.length = τ.length
  sl : ∀ (i : Nat) (s : Sl), τ[i]? = some (some s) → ∃ v, σ[i]? = some (some v) ∧ SlOk K H₀ F H s v
  dj : ∀ (i j : Nat) (ts us : List T) (p : Addr), i ≠ j → τ[i]? = some (some (.own ts)) → τ[j]? = some (some (.own us)) → σ[i]? = some (some (.ref p)) → σ[j]? ≠ some (some (.ref p))
section
variable {K : PySem.W.Frag} {F₀ H₀ F H F' H' : Hp} {σ : L2.St} {τ : TEnv}
theorem SlOk.grow (g : Grow F H F' H') (h : SlOk K H₀ F H s v) : SlOk K H₀ F' H' s v := by
  cases s with
  | sh t => exact Rep.mono g.sF h
  | own ts =>
    obtain ⟨p, vs, h1, h2, h3, h4, h5⟩ := h
    refine ⟨p, vs, h1, g.sH _ _ h2, ?_, h4, Reps.mono g.sF h5⟩
    cases e : F' p with
    | none => rfl
    | some o =>
      rcases g.nw p o e with q | q
      · rw [q] at h3; cases h3
      · rw [q] at h2; cases h2
theorem EnvOk.grow (E : EnvOk K F₀ H₀ F H σ τ) (g : Grow F H F' H') : EnvOk K F₀ H₀ F' H' σ τ := by
  refine ⟨E.g.trans g, E.len, fun i s e => ?_, E.dj⟩
  obtain ⟨v, h1, h2⟩ := E.sl i s e
  exact ⟨v, h1, h2.grow g⟩
theorem EnvOk.set {i : Nat} (E : EnvOk K F₀ H₀ F H σ τ) (r : Rep K F t v) : EnvOk K F₀ H₀ F H (σ.set i (some v)) (τ.set i (some (.sh t))) := by
  refine ⟨E.g, by simp [E.len], fun j s e => ?_, fun j k ts us p hjk e1 e2 e3 => ?_⟩
  · by_cases hj : i = j
    · subst hj
      by_cases hl : i < τ.length
      · rw [List.getElem?_set_self hl] at e
        cases e
        exact ⟨v, List.getElem?_set_self (by rw [E.len]; exact hl), r⟩
      · rw [List.getElem?_eq_none (by simp; omega)] at e; cases e
    · rw [List.getElem?_set_ne hj] at e
      rw [List.getElem?_set_ne hj]
      exact E.sl j s e
  · have n1 : i ≠ j := fun z => by
      subst z
      by_cases hl : i < τ.length
      · rw [List.getElem?_set_self hl] at e1; cases e1
      · rw [List.getElem?_eq_none (by simp; omega)] at e1; cases e1
    have n2 : i ≠ k := fun z => by
      subst z
      by_cases hl : i < τ.length
      · rw [List.getElem?_set_self hl] at e2; cases e2
      · rw [List.getElem?_eq_none (by simp; omega)] at e2; cases e2
    rw [List.getElem?_set_ne n1] at e1 e3
    rw [List.getElem?_set_ne n2] at e2 ⊢
    exact E.dj j k ts us p hjk e1 e2 e3
theorem EnvOk.freeze {i : Nat} (E : EnvOk K F₀ H₀ F H σ τ) (e : τ[i]? = some (some (.own ts))) :
    ∃ F' v, σ[i]? = some (some v) ∧ EnvOk K F₀ H₀ F' H σ (τ.set i (some (.sh (.lst ts)))) ∧ Same F F' ∧ Rep K F' (.lst ts) v := by
  obtain ⟨v, h1, p, vs, rfl, h2, h3, h4, h5⟩ := E.sl i _ e
  have sF : Same F (upd F p (.lst vs)) := same_updN h3
  have rp : Rep K (upd F p (.lst vs)) (.lst ts) (.ref p) := ⟨p, vs, rfl, upd_same, Reps.mono sF h5⟩
  refine ⟨upd F p (.lst vs), .ref p, h1, ⟨⟨E.g.sF.trans sF, E.g.sH, fun b o q => ?_, fun b o q => ?_⟩, by simp [E.len], fun j s q => ?_, fun j k us ws r hjk e1 e2 e3 => ?_⟩, sF, rp⟩
  · by_cases z : b = p
    · subst z; rw [upd_same] at q; cases q; exact h2
    · rw [upd_ne z] at q; exact E.g.fh _ _ q
  · by_cases z : b = p
    · subst z; exact .inr h4
    · rw [upd_ne z] at q; exact E.g.nw _ _ q
  · by_cases hj : i = j
    · subst hj
      have hl : i < τ.length := by
        have := (List.getElem?_eq_some_iff.mp e).1
        exact this
      rw [List.getElem?_set_self hl] at q
      cases q
      exact ⟨_, h1, rp⟩
    · rw [List.getElem?_set_ne hj] at q
      obtain ⟨v, g1, g2⟩ := E.sl j s q
      refine ⟨v, g1, ?_⟩
      cases s with
      | sh t => exact Rep.mono sF g2
      | own us =>
        obtain ⟨r, ws, rfl, k2, k3, k4, k5⟩ := g2
        have hne : r ≠ p := fun z => by
          subst z
          exact E.dj i j ts us r hj e q h1 g1
        exact ⟨r, ws, rfl, k2, by rw [upd_ne hne]; exact k3, k4, Reps.mono sF k5⟩
  · have hl : i < τ.length := (List.getElem?_eq_some_iff.mp e).1
    have n1 : i ≠ j := fun z => by subst z; rw [List.getElem?_set_self hl] at e1; cases e1
    have n2 : i ≠ k := fun z => by subst z; rw [List.getElem?_set_self hl] at e2; cases e2
    rw [List.getElem?_set_ne n1] at e1
    rw [List.getElem?_set_ne n2] at e2
    exact E.dj j k us ws r hjk e1 e2 e3
theorem EnvOk.setOwn {i : Nat} (E : EnvOk K F₀ H₀ F H σ τ) (n : H p = none) (r : Reps K F ts vs) : EnvOk K F₀ H₀ F (upd H p (.lst vs)) (σ.set i (some (.ref p))) (τ.set i (some (.own ts))) := by
  have sH : Same H (upd H p (.lst vs)) := same_updN n
  have fp : F p = none := E.g.fh.free n
  have old : ∀ {j : Nat} {s : Sl}, i ≠ j → τ[j]? = some (some s) → ∃ v, σ[j]? = some (some v) ∧ SlOk K H₀ F (upd H p (.lst vs)) s v := fun {j s} hj q => by
    obtain ⟨v, g1, g2⟩ := E.sl j s q
    refine ⟨v, g1, ?_⟩
    cases s with
    | sh t => exact g2
    | own us =>
      obtain ⟨r, ws, rfl, k2, k3, k4, k5⟩ := g2
      exact ⟨r, ws, rfl, sH _ _ k2, k3, k4, k5⟩
  refine ⟨⟨E.g.sF, E.g.sH.trans sH, E.g.fh.trans sH, E.g.nw⟩, by simp [E.len], fun j s e => ?_, fun j k ts' us q hjk e1 e2 e3 e4 => ?_⟩
  · by_cases hj : i = j
    · subst hj
      by_cases hl : i < τ.length
      · rw [List.getElem?_set_self hl] at e
        cases e
        exact ⟨.ref p, List.getElem?_set_self (by rw [E.len]; exact hl), p, vs, rfl, upd_same, fp, E.g.sH.free n, r⟩
      · rw [List.getElem?_eq_none (by simp; omega)] at e; cases e
    · rw [List.getElem?_set_ne hj] at e
      rw [List.getElem?_set_ne hj]
      exact old hj e
  · by_cases hj : i = j
    · subst hj
      have n2 : i ≠ k := hjk
      rw [List.getElem?_set_ne n2] at e2 e4
      by_cases hl : i < τ.length
      · rw [List.getElem?_set_self (by rw [E.len]; exact hl)] at e3
        cases e3
        obtain ⟨v, g1, r', ws, rfl, k2, _⟩ := E.sl k _ e2
        rw [g1] at e4; cases e4
        rw [n] at k2; cases k2
      · rw [List.getElem?_eq_none (by simp; omega)] at e1; cases e1
    · rw [List.getElem?_set_ne hj] at e1 e3
      by_cases hk : i = k
      · subst hk
        by_cases hl : i < τ.length
        · rw [List.getElem?_set_self (by rw [E.len]; exact hl)] at e4
          cases e4
          obtain ⟨v, g1, r', ws, rfl, k2, _⟩ := E.sl j _ e1
          rw [g1] at e3; cases e3
          rw [n] at k2; cases k2
        · rw [List.getElem?_eq_none (by simp; omega)] at e2; cases e2
      · rw [List.getElem?_set_ne hk] at e2 e4
        exact E.dj j k ts' us q hjk e1 e2 e3 e4
theorem EnvOk.turnOwn {i : Nat} (E : EnvOk K F₀ H₀ F H σ τ) (e : τ[i]? = some (some (.own ts))) (hp : σ[i]? = some (some (.ref p))) (r : Reps K F us vs) :
    EnvOk K F₀ H₀ F (upd H p (.lst vs)) σ (τ.set i (some (.own us))) := by
  obtain ⟨v, h1, p', vs', rfl, h2, h3, h4, h5⟩ := E.sl i _ e
  rw [hp] at h1; cases h1
  have hl : i < τ.length := (List.getElem?_eq_some_iff.mp e).1
  refine ⟨⟨E.g.sF, fun b o q => ?_, fun b o q => ?_, E.g.nw⟩, by simp [E.len], fun j s q => ?_, fun j k ts' us' q hjk e1 e2 e3 => ?_⟩
  · rw [upd_ne (fun z => by subst z; rw [h4] at q; cases q)]; exact E.g.sH _ _ q
  · rw [upd_ne (fun z => by subst z; rw [h3] at q; cases q)]; exact E.g.fh _ _ q
  · by_cases hj : i = j
    · subst hj
      rw [List.getElem?_set_self hl] at q; cases q
      exact ⟨_, hp, p, vs, rfl, upd_same, h3, h4, r⟩
    · rw [List.getElem?_set_ne hj] at q
      obtain ⟨v, g1, g2⟩ := E.sl j s q
      refine ⟨v, g1, ?_⟩
      cases s with
      | sh t => exact g2
      | own us' =>
        obtain ⟨r', ws, rfl, k2, k3, k4, k5⟩ := g2
        have hne : r' ≠ p := fun z => by subst z; exact E.dj i j ts us' r' hj e q hp g1
        exact ⟨r', ws, rfl, by rw [upd_ne hne]; exact k2, k3, k4, k5⟩
  · have q1 : ∃ zs, τ[j]? = some (some (.own zs)) := by
      by_cases hj : i = j
      · subst hj; exact ⟨_, e⟩
      · rw [List.getElem?_set_ne hj] at e1; exact ⟨_, e1⟩
    have q2 : ∃ zs, τ[k]? = some (some (.own zs)) := by
      by_cases hj : i = k
      · subst hj; exact ⟨_, e⟩
      · rw [List.getElem?_set_ne hj] at e2; exact ⟨_, e2⟩
    obtain ⟨z1, q1⟩ := q1
    obtain ⟨z2, q2⟩ := q2
    exact E.dj j k z1 z2 q hjk q1 q2 e3
end
end TM

namespace TM
open PySem PySem.Spec PyProof.Rows L2

noncomputable abbrev FE := TEnv → Option (T × TEnv)
noncomputable abbrev FA := TEnv → Option (List T × TEnv)
noncomputable abbrev FT := TEnv → Option (Bool × TEnv)
inductive R where
  | nx (τ : TEnv) | rt (t : T) | bk (τ : TEnv) | ct (τ : TEnv)
noncomputable abbrev FS := TEnv → Option R
noncomputable abbrev FG := T → TEnv → Option TEnv

section
variable (K : PySem.W.Frag) (F₀ H₀ : Hp)
noncomputable def tE (f : FE) : TE := fun σ H Q => ∃ F τ t τ', EnvOk K F₀ H₀ F H σ τ ∧ f τ = some (t, τ') ∧ ∀ F' H' v, EnvOk K F₀ H₀ F' H' σ τ' → Same F F' → Rep K F' t v → Q v H'
noncomputable def tA (f : FA) : TA := fun σ H Q => ∃ F τ ts τ', EnvOk K F₀ H₀ F H σ τ ∧ f τ = some (ts, τ') ∧ ∀ F' H' vs, EnvOk K F₀ H₀ F' H' σ τ' → Same F F' → Reps K F' ts vs → Q vs H'
noncomputable def tT (f : FT) : TT := fun σ H Q => ∃ F τ b τ', EnvOk K F₀ H₀ F H σ τ ∧ f τ = some (b, τ') ∧ ∀ F' H', EnvOk K F₀ H₀ F' H' σ τ' → Same F F' → Q b H'
noncomputable def FlowOk (F : Hp) (D : Ends) : R → Prop
  | .nx τ' => ∀ F' H' σ', EnvOk K F₀ H₀ F' H' σ' τ' → Same F F' → D.nx σ' H'
  | .rt t => ∀ F' H' v, Grow F₀ H₀ F' H' → Rep K F' t v → D.rt v H'
  | .bk τ' => ∀ F' H' σ', EnvOk K F₀ H₀ F' H' σ' τ' → Same F F' → D.bk σ' H'
  | .ct τ' => ∀ F' H' σ', EnvOk K F₀ H₀ F' H' σ' τ' → Same F F' → D.ct σ' H'
noncomputable def tS (f : FS) : TS := fun D σ H => ∃ F τ r, EnvOk K F₀ H₀ F H σ τ ∧ f τ = some r ∧ FlowOk K F₀ H₀ F D r
end
noncomputable def SE (X : Cx) (e : Expr) (f : FE) : Prop := ∀ F₀ H₀, PE X e (tE X.K F₀ H₀ f)
noncomputable def SA (X : Cx) (es : List Expr) (f : FA) : Prop := ∀ F₀ H₀, PA X es (tA X.K F₀ H₀ f)
noncomputable def ST (X : Cx) (e : Expr) (f : FT) : Prop := ∀ F₀ H₀, PT X e (tT X.K F₀ H₀ f)
noncomputable def SW (X : Cx) (e : Expr) (f : FT) : Prop := ∀ F₀ H₀, PW X e (tT X.K F₀ H₀ f)
noncomputable def SS (X : Cx) (st : Stmt) (f : FS) : Prop := ∀ F₀ H₀, PS X st (tS X.K F₀ H₀ f)
noncomputable def SSs (X : Cx) (st : List Stmt) (f : FS) : Prop := ∀ F₀ H₀, PSs X st (tS X.K F₀ H₀ f)

section
variable {X : Cx} {e a b : Expr} {pos : Pos} {f fa fb : FE}
theorem PE.weak {t t' : TE} (h : PE X e t) (i : ∀ σ H Q, t' σ H Q → t σ H Q) : PE X e t' := fun pins s σ H Q I q => h pins s σ H Q I (i σ H Q q)
theorem PT.weak {t t' : TT} (h : PT X e t) (i : ∀ σ H Q, t' σ H Q → t σ H Q) : PT X e t' := fun pins s σ H Q I q => h pins s σ H Q I (i σ H Q q)
theorem PW.weak {t t' : TT} (h : PW X e t) (i : ∀ σ H Q, t' σ H Q → t σ H Q) : PW X e t' := fun wh pins s σ H Q I q => h wh pins s σ H Q I (i σ H Q q)
theorem PA.weak {t t' : TA} (h : PA X es t) (i : ∀ σ H Q, t' σ H Q → t σ H Q) : PA X es t' := fun p pins s σ H Q I q => h p pins s σ H Q I (i σ H Q q)
theorem PS.weak {st : Stmt} {t t' : TS} (h : PS X st t) (i : ∀ D σ H, t' D σ H → t D σ H) : PS X st t' := fun pins s σ H D I q => h pins s σ H D I (i D σ H q)
theorem PSs.weak {st : List Stmt} {t t' : TS} (h : PSs X st t) (i : ∀ D σ H, t' D σ H → t D σ H) : PSs X st t' := fun pins s σ H D I q => h pins s σ H D I (i D σ H q)

noncomputable def fC (t : T) : FE := fun τ => some (t, τ)
noncomputable def fVar (i : Nat) : FE := fun τ => match τ[i]? with
  | some (some (.sh t)) => some (t, τ)
  | some (some (.own ts)) => some (.lst ts, τ.set i (some (.sh (.lst ts))))
  | _ => none
theorem se_const (h : PE X e (tC v)) (r : ∀ F, Rep X.K F t v) : SE X e (fC t) := fun F₀ H₀ => PE.weak h fun σ H Q hq__ => by
  obtain ⟨F, τ, t', τ', E, e1, q⟩ := hq__
  cases e1
  exact q F H v E (Same.refl _) (r F)
theorem se_int {i : Int} {j} : SE X (.Constant (.int i) j pos) (fC (.int i)) := se_const pe_int fun _ => rfl
theorem se_bl {c : Bool} {j} : SE X (.Constant (.bool c) j pos) (fC (.bl c)) := se_const pe_bl fun _ => rfl
theorem se_non {j} : SE X (.Constant .none j pos) (fC .non) := se_const pe_non fun _ => rfl
theorem se_str {j} : SE X (.Constant (.str x) j pos) (fC (.str x)) := se_const pe_str fun _ => rfl
theorem se_var (i : Nat) (h : PE X (.Name x pos) (tVar i)) : SE X (.Name x pos) (fVar i) := fun F₀ H₀ => PE.weak h fun σ H Q hq__ => by
  obtain ⟨F, τ, t, τ', E, e1, q⟩ := hq__
  unfold fVar at e1
  split at e1
  · next t' e2 =>
    cases e1
    obtain ⟨v, h1, h2⟩ := E.sl i _ e2
    exact ⟨v, h1, q F H v E (Same.refl _) h2⟩
  · next ts e2 =>
    cases e1
    obtain ⟨F', v, h1, E', sF, r⟩ := E.freeze e2
    exact ⟨v, h1, q F' H v E' sF r⟩
  · cases e1
theorem se_ty (hg : Gl X x) (hm : X.mg x = none) (hv : bootBuiltins x = some (.type n)) (hn : x ≠ "__name__" := by decide) (hd : (x == ("__debug__" : Str)) = false := by decide) : SE X (.Name x pos) (fC (.ty n)) :=
  se_const (pe_bltn (v := .ty n) hg hm hv rfl hn hd) fun _ => rfl

noncomputable def rT2 (K : PySem.W.Frag) (g : T → T → Option T) : R2 := fun x y H Q => ∃ F a b t, Same F H ∧ Rep K F a x ∧ Rep K F b y ∧ g a b = some t ∧ ∀ F' H' v, Grow F H F' H' → Rep K F' t v → Q v H'
noncomputable def rT1 (K : PySem.W.Frag) (g : T → Option T) : V → Hp → VK → Prop := fun x H Q => ∃ F a t, Same F H ∧ Rep K F a x ∧ g a = some t ∧ ∀ F' H' v, Grow F H F' H' → Rep K F' t v → Q v H'
noncomputable def rTs (K : PySem.W.Frag) (g : List T → Option T) : List V → Hp → VK → Prop := fun xs H Q => ∃ F ts t, Same F H ∧ Reps K F ts xs ∧ g ts = some t ∧ ∀ F' H' v, Grow F H F' H' → Rep K F' t v → Q v H'
noncomputable abbrev OpT (X : Cx) (f : Value → Value → Sem Value) (g : T → T → Option T) : Prop := OpR X f (rT2 X.K g)
noncomputable abbrev UnT (X : Cx) (f : Value → Sem Value) (g : T → Option T) : Prop := UnR X f (rT1 X.K g)
noncomputable abbrev CallT (X : Cx) (f : Value) (g : List T → Option T) : Prop := CallR X f (rTs X.K g)

noncomputable def fOp (g : T → T → Option T) (fa fb : FE) : FE := fun τ => (fa τ).bind fun p => (fb p.2).bind fun q => (g p.1 q.1).bind fun t => some (t, q.2)
noncomputable def fUn (g : T → Option T) (fa : FE) : FE := fun τ => (fa τ).bind fun p => (g p.1).bind fun t => some (t, p.2)
theorem bind_some {α β : Type} {o : Option α} {f : α → Option β} {z : β} (h : o.bind f = some z) : ∃ x, o = some x ∧ f x = some z := by
  cases o with
  | none => cases h
  | some x => exact ⟨x, rfl, h⟩
theorem op_core {g : T → T → Option T} {F₀ H₀ : Hp} {σ : L2.St} {H : Hp} {Q : VK} (h : tE X.K F₀ H₀ (fOp g fa fb) σ H Q) : tOp (rT2 X.K g) (tE X.K F₀ H₀ fa) (tE X.K F₀ H₀ fb) σ H Q := by
  obtain ⟨F, τ, t, τ', E, e1, q⟩ := h
  obtain ⟨⟨x, τ1⟩, e2, e1⟩ := bind_some e1
  obtain ⟨⟨y, τ2⟩, e3, e1⟩ := bind_some e1
  obtain ⟨z, e4, e1⟩ := bind_some e1
  cases e1
  refine ⟨F, τ, x, τ1, E, e2, fun F1 H1 v1 E1 s1 r1 => ⟨F1, τ1, y, _, E1, e3, fun F2 H2 v2 E2 s2 r2 => ?_⟩⟩
  exact ⟨F2, x, y, t, E2.g.fh, Rep.mono s2 r1, r2, e4, fun F3 H3 v3 g3 r3 => q F3 H3 v3 (E2.grow g3) ((s1.trans s2).trans g3.sF) r3⟩
theorem se_op (ho : OpT X (binaryOp op) g) (ha : SE X a fa) (hb : SE X b fb) : SE X (.BinOp a op b pos) (fOp g fa fb) :=
  fun F₀ H₀ => PE.weak (pe_op ho (ha F₀ H₀) (hb F₀ H₀)) fun _ _ _ => op_core
theorem se_un {op : UnaryOp} {g : T → Option T} (ho : UnT X (unaryOp op) g) (ha : SE X a fa) : SE X (.UnaryOp op a pos) (fUn g fa) :=
  fun F₀ H₀ => PE.weak (pe_un ho (ha F₀ H₀)) fun σ H Q hq__ => by
    obtain ⟨F, τ, t, τ', E, e1, q⟩ := hq__
    obtain ⟨⟨x, τ1⟩, e2, e1⟩ := bind_some e1
    obtain ⟨z, e4, e1⟩ := bind_some e1
    cases e1
    exact ⟨F, τ, x, _, E, e2, fun F1 H1 v1 E1 s1 r1 => ⟨F1, x, t, E1.g.fh, r1, e4, fun F3 H3 v3 g3 r3 => q F3 H3 v3 (E1.grow g3) (s1.trans g3.sF) r3⟩⟩
theorem se_cmp (ho : OpT X (compareOp op) g) (ha : SE X a fa) (hb : SE X b fb) (hm : behindInMarks op b = false) : SE X (.Compare a [op] [b] pos) (fOp g fa fb) :=
  fun F₀ H₀ => PE.weak (pe_cmpR ho (ha F₀ H₀) (hb F₀ H₀) hm) fun _ _ _ => op_core
theorem se_ix (ho : IxR X (rT2 X.K g)) (ha : SE X a fa) (hb : SE X b fb) (hs : PlainIx b) : SE X (.Subscript a b pos) (fOp g fa fb) :=
  fun F₀ H₀ => PE.weak (pe_ix ho (ha F₀ H₀) (hb F₀ H₀) hs) fun _ _ _ => op_core

noncomputable def fTB (f : FE) : FT := fun τ => (f τ).bind fun p => match p.1 with | .bl c => some (c, p.2) | _ => none
noncomputable def tru : T → Option Bool
  | .non => some false
  | .bl c => some c
  | .int i => some (i != 0)
  | .str x => if x.length ≤ sizeLine then some ((x.length : Int) != 0) else none
  | .tup ts => some (!ts.isEmpty)
  | .lst ts => some (!ts.isEmpty)
  | .scr ts => some (!ts.isEmpty)
  | .dic => some false
  | .obj _ _ _ => none
  | .ptr _ => none
  | .exc _ _ _ => none
  | .ty _ => none
noncomputable def fTru (f : FE) : FT := fun τ => (f τ).bind fun p => (tru p.1).bind fun c => some (c, p.2)
theorem st_cmp {op : CmpOp} {g : T → T → Option T} (ho : OpT X (compareOp op) g) (ha : SE X a fa) (hb : SE X b fb) (hm : behindInMarks op b = false) : ST X (.Compare a [op] [b] pos) (fTB (fOp g fa fb)) :=
  fun F₀ H₀ => PT.weak (pt_cmpR ho (ha F₀ H₀) (hb F₀ H₀) hm) fun σ H Q hq__ => by
    obtain ⟨F, τ, c, τ', E, e1, q⟩ := hq__
    obtain ⟨⟨x, τ1⟩, e2, e1⟩ := bind_some e1
    dsimp only at e1
    split at e1
    · cases e1
      refine op_core (Q := fun x H' => ∃ k, x = V.bl k ∧ Q k H') ⟨F, τ, _, _, E, e2, fun F' H' v E' s' r' => ?_⟩
      exact ⟨c, r', q F' H' E' s'⟩
    · cases e1
theorem isEmpty_reps {K : PySem.W.Frag} {F : Hp} {ts : List T} {vs : List V} (h : Reps K F ts vs) : vs.isEmpty = ts.isEmpty := by
  cases ts with
  | nil => cases h; rfl
  | cons t ts => obtain ⟨v, r, rfl, _⟩ := h; rfl
theorem tru_rep {K : PySem.W.Frag} {F H : Hp} {t : T} {v : V} {c : Bool} (s : Same F H) (r : Rep K F t v) (e : tru t = some c) : TruV K v H c := by
  cases t with
  | non => cases r; cases e; exact rfl
  | bl _ => cases r; cases e; exact rfl
  | int _ => cases r; cases e; exact rfl
  | str x =>
    cases r
    simp only [tru] at e
    split at e
    · next h => cases e; exact ⟨h, rfl⟩
    · cases e
  | ty _ => cases e
  | tup ts =>
    obtain ⟨p, xs, rfl, h1, h2⟩ := r
    cases e
    exact .inr (.inl ⟨xs, same_sqT s h1, by rw [isEmpty_reps h2]⟩)
  | lst ts =>
    obtain ⟨p, xs, rfl, h1, h2⟩ := r
    cases e
    exact .inl ⟨xs, SqL.of (s _ _ h1), by rw [isEmpty_reps h2]⟩
  | scr ts =>
    obtain ⟨p, xs, rfl, h1, h2⟩ := r
    cases e
    exact .inl ⟨xs, s.seq h1, by rw [isEmpty_reps h2]⟩
  | dic =>
    obtain ⟨p, rfl, h1⟩ := r
    cases e
    exact .inr (.inr ⟨[], s _ _ h1, rfl⟩)
  | obj _ _ _ => cases e
  | ptr _ => cases e
  | exc _ _ _ => cases e
theorem st_val (h : SE X e f) (he : ∀ whole, isTrue e X.env whole = (do let v ← whole; standAt e.pos; holding [v] (truthy v)) := by intro _; rfl) : ST X e (fTru f) :=
  fun F₀ H₀ => PT.weak (pt_truth (h F₀ H₀) he) fun σ H Q hq__ => by
    obtain ⟨F, τ, c, τ', E, e1, q⟩ := hq__
    obtain ⟨⟨x, τ1⟩, e2, e1⟩ := bind_some e1
    obtain ⟨z, e4, e1⟩ := bind_some e1
    cases e1
    exact ⟨F, τ, x, _, E, e2, fun F1 H1 v1 E1 s1 r1 => ⟨c, tru_rep E1.g.fh r1 e4, q F1 H1 E1 s1⟩⟩
variable {ta tb : FT} {rest : List Expr}
noncomputable def fAnd (ta tb : FT) : FT := fun τ => (ta τ).bind fun p => if p.1 = true then tb p.2 else some (false, p.2)
noncomputable def fOr (ta tb : FT) : FT := fun τ => (ta τ).bind fun p => if p.1 = true then some (true, p.2) else tb p.2
noncomputable def fNot (ta : FT) : FT := fun τ => (ta τ).bind fun p => some (!p.1, p.2)
theorem st_not (h : ST X a ta) : ST X (.UnaryOp .Not a pos) (fNot ta) := fun F₀ H₀ => PT.weak (pt_not (h F₀ H₀)) fun σ H Q hq__ => by
  obtain ⟨F, τ, c, τ', E, e1, q⟩ := hq__
  obtain ⟨⟨x, τ1⟩, e2, e1⟩ := bind_some e1
  cases e1
  exact ⟨F, τ, x, _, E, e2, fun F1 H1 E1 s1 => q F1 H1 E1 s1⟩
theorem sw_and1 (h : ST X a ta) : SW X (.BoolOp .And [a] pos) ta := fun F₀ H₀ => pw_and1 (h F₀ H₀)
theorem sw_or1 (h : ST X a ta) : SW X (.BoolOp .Or [a] pos) ta := fun F₀ H₀ => pw_or1 (h F₀ H₀)
theorem sw_and (ha : ST X a ta) (hb : SW X (.BoolOp .And (b :: rest) pos) tb) : SW X (.BoolOp .And (a :: b :: rest) pos) (fAnd ta tb) := fun F₀ H₀ => PW.weak (pw_and (ha F₀ H₀) (hb F₀ H₀)) fun σ H Q hq__ => by
  obtain ⟨F, τ, c, τ', E, e1, q⟩ := hq__
  obtain ⟨⟨x, τ1⟩, e2, e1⟩ := bind_some e1
  refine ⟨F, τ, x, τ1, E, e2, fun F1 H1 E1 s1 => ?_⟩
  dsimp only at e1
  split at e1
  · next h => rw [if_pos h]; exact ⟨F1, τ1, c, τ', E1, e1, fun F2 H2 E2 s2 => q F2 H2 E2 (s1.trans s2)⟩
  · next h => rw [if_neg h]; cases e1; exact q F1 H1 E1 s1
theorem sw_or (ha : ST X a ta) (hb : SW X (.BoolOp .Or (b :: rest) pos) tb) : SW X (.BoolOp .Or (a :: b :: rest) pos) (fOr ta tb) := fun F₀ H₀ => PW.weak (pw_or (ha F₀ H₀) (hb F₀ H₀)) fun σ H Q hq__ => by
  obtain ⟨F, τ, c, τ', E, e1, q⟩ := hq__
  obtain ⟨⟨x, τ1⟩, e2, e1⟩ := bind_some e1
  refine ⟨F, τ, x, τ1, E, e2, fun F1 H1 E1 s1 => ?_⟩
  dsimp only at e1
  split at e1
  · next h => rw [if_pos h]; cases e1; exact q F1 H1 E1 s1
  · next h => rw [if_neg h]; exact ⟨F1, τ1, c, τ', E1, e1, fun F2 H2 E2 s2 => q F2 H2 E2 (s1.trans s2)⟩
theorem SW.st (h : SW X e ta) : ST X e ta := fun F₀ H₀ => (h F₀ H₀).pt
noncomputable def fAndV (fa fb : FE) : FE := fun τ => (fa τ).bind fun p => match p.1 with | .bl true => fb p.2 | .bl false => some (.bl false, p.2) | _ => none
noncomputable def fOrV (fa fb : FE) : FE := fun τ => (fa τ).bind fun p => match p.1 with | .bl true => some (.bl true, p.2) | .bl false => fb p.2 | _ => none
noncomputable def gNot : T → Option T
  | .bl c => some (.bl (!c))
  | _ => none
theorem se_one {op} (h : SE X a fa) : SE X (.BoolOp op [a] pos) fa := fun F₀ H₀ => pe_one (h F₀ H₀)
theorem se_and (ha : SE X a fa) (hb : SE X (.BoolOp .And (b :: rest) pos) fb) : SE X (.BoolOp .And (a :: b :: rest) pos) (fAndV fa fb) := fun F₀ H₀ => PE.weak (pe_and (ha F₀ H₀) (hb F₀ H₀)) fun σ H Q hq__ => by
  obtain ⟨F, τ, c, τ', E, e1, q⟩ := hq__
  obtain ⟨⟨x, τ1⟩, e2, e1⟩ := bind_some e1
  dsimp only at e1
  refine ⟨F, τ, x, τ1, E, e2, fun F1 H1 v E1 s1 r1 => ?_⟩
  split at e1
  · cases r1; exact ⟨true, rfl, by rw [if_pos rfl]; exact ⟨F1, τ1, c, τ', E1, e1, fun F2 H2 v2 E2 s2 => q F2 H2 v2 E2 (s1.trans s2)⟩⟩
  · cases r1; cases e1; exact ⟨false, rfl, by rw [if_neg (by decide)]; exact q F1 H1 _ E1 s1 rfl⟩
  · cases e1
theorem se_not (ha : SE X a fa) : SE X (.UnaryOp .Not a pos) (fUn gNot fa) := fun F₀ H₀ => PE.weak (pe_not (ha F₀ H₀)) fun σ H Q hq__ => by
  obtain ⟨F, τ, c, τ', E, e1, q⟩ := hq__
  obtain ⟨⟨x, τ1⟩, e2, e1⟩ := bind_some e1
  obtain ⟨z, e4, e1⟩ := bind_some e1
  cases e1
  refine ⟨F, τ, x, _, E, e2, fun F1 H1 v E1 s1 r1 => ?_⟩
  dsimp only at e4
  unfold gNot at e4
  split at e4
  · cases r1; cases e4; exact ⟨_, rfl, q F1 H1 _ E1 s1 rfl⟩
  · cases e4
noncomputable def fIf (t : FT) (fa fb : FE) : FE := fun τ => (t τ).bind fun p => if p.1 = true then fa p.2 else fb p.2
theorem se_if {c : Expr} (hc : ST X c ta) (ha : SE X a fa) (hb : SE X b fb) : SE X (.IfExp c a b pos) (fIf ta fa fb) := fun F₀ H₀ => PE.weak (pe_ifExp (hc F₀ H₀) (ha F₀ H₀) (hb F₀ H₀)) fun σ H Q hq__ => by
  obtain ⟨F, τ, c, τ', E, e1, q⟩ := hq__
  obtain ⟨⟨x, τ1⟩, e2, e1⟩ := bind_some e1
  refine ⟨F, τ, x, τ1, E, e2, fun F1 H1 E1 s1 => ?_⟩
  dsimp only at e1
  split at e1
  · next h => rw [if_pos h]; exact ⟨F1, τ1, c, τ', E1, e1, fun F2 H2 v2 E2 s2 => q F2 H2 v2 E2 (s1.trans s2)⟩
  · next h => rw [if_neg h]; exact ⟨F1, τ1, c, τ', E1, e1, fun F2 H2 v2 E2 s2 => q F2 H2 v2 E2 (s1.trans s2)⟩

variable {es : List Expr} {g : FA}
noncomputable def fNil : FA := fun τ => some ([], τ)
noncomputable def fCons (f : FE) (g : FA) : FA := fun τ => (f τ).bind fun p => (g p.2).bind fun q => some (p.1 :: q.1, q.2)
theorem sa_nil : SA X [] fNil := fun F₀ H₀ => PA.weak pa_nil fun σ H Q hq__ => by
  obtain ⟨F, τ, c, τ', E, e1, q⟩ := hq__
  cases e1
  exact q F H [] E (Same.refl _) rfl
theorem sa_cons (ha : SE X e f) (hr : SA X es g) (hs : starEach (e :: es) X.env = (false, eval e X.env) :: starEach es X.env := by rfl) : SA X (e :: es) (fCons f g) := fun F₀ H₀ => PA.weak (pa_cons (ha F₀ H₀) (hr F₀ H₀) hs) fun σ H Q hq__ => by
  obtain ⟨F, τ, c, τ', E, e1, q⟩ := hq__
  obtain ⟨⟨x, τ1⟩, e2, e1⟩ := bind_some e1
  obtain ⟨⟨y, τ2⟩, e3, e1⟩ := bind_some e1
  cases e1
  exact ⟨F, τ, x, τ1, E, e2, fun F1 H1 v E1 s1 r1 => ⟨F1, τ1, y, _, E1, e3, fun F2 H2 vs E2 s2 r2 => q F2 H2 _ E2 (s1.trans s2) ⟨v, vs, rfl, Rep.mono s2 r1, r2⟩⟩⟩
noncomputable def fTup (g : FA) : FE := fun τ => (g τ).bind fun p => if p.1.length ≤ sizeLine then some (.tup p.1, p.2) else none
noncomputable def fLst (g : FA) : FE := fun τ => (g τ).bind fun p => if p.1.length ≤ sizeLine then some (.lst p.1, p.2) else none
theorem se_tup {k} (h : SA X es g) : SE X (.Tuple es k pos) (fTup g) := fun F₀ H₀ => PE.weak (pe_tup (h F₀ H₀)) fun σ H Q hq__ => by
  obtain ⟨F, τ, c, τ', E, e1, q⟩ := hq__
  obtain ⟨⟨x, τ1⟩, e2, e1⟩ := bind_some e1
  dsimp only at e1
  split at e1
  · next hl =>
    cases e1
    refine ⟨F, τ, x, _, E, e2, fun F1 H1 vs E1 s1 r1 => ⟨by rw [r1.length]; exact hl, fun p hp => ?_⟩⟩
    have gr := Grow.new (.tup vs) E1.g.fh hp
    exact q _ _ _ (E1.grow gr) (s1.trans gr.sF) ⟨p, vs, rfl, SqT.of upd_same, Reps.mono gr.sF r1⟩
  · cases e1
theorem se_lst (h : SA X es g) : SE X (.List es pos) (fLst g) := fun F₀ H₀ => PE.weak (pe_lst (h F₀ H₀)) fun σ H Q hq__ => by
  obtain ⟨F, τ, c, τ', E, e1, q⟩ := hq__
  obtain ⟨⟨x, τ1⟩, e2, e1⟩ := bind_some e1
  dsimp only at e1
  split at e1
  · next hl =>
    cases e1
    refine ⟨F, τ, x, _, E, e2, fun F1 H1 vs E1 s1 r1 => ⟨by rw [r1.length]; exact hl, fun p hp => ?_⟩⟩
    have gr := Grow.new (.lst vs) E1.g.fh hp
    exact q _ _ _ (E1.grow gr) (s1.trans gr.sF) ⟨p, vs, rfl, upd_same, Reps.mono gr.sF r1⟩
  · cases e1
noncomputable def fCall (d : List T → Option T) (g : FA) : FE := fun τ => (g τ).bind fun p => (d p.1).bind fun t => some (t, p.2)
theorem call_core {d : List T → Option T} {F₀ H₀ : Hp} {σ : L2.St} {H : Hp} {Q : VK} (h : tE X.K F₀ H₀ (fCall d g) σ H Q) : tA X.K F₀ H₀ g σ H fun vs H1 => rTs X.K d vs H1 Q := by
  obtain ⟨F, τ, c, τ', E, e1, q⟩ := h
  obtain ⟨⟨x, τ1⟩, e2, e1⟩ := bind_some e1
  obtain ⟨z, e4, e1⟩ := bind_some e1
  cases e1
  exact ⟨F, τ, x, _, E, e2, fun F1 H1 vs E1 s1 r1 => ⟨F1, x, c, E1.g.fh, r1, e4, fun F3 H3 v3 g3 r3 => q F3 H3 v3 (E1.grow g3) (s1.trans g3.sF) r3⟩⟩
theorem se_callB {d : List T → Option T} {id : String} {x : Str} {p : Pos} (hc : CallT X (.builtin id) d) (hg : Gl X x) (hm : X.mg x = none) (hv : bootBuiltins x = some (.builtin id)) (ha : SA X (e :: es) g) (hn : x ≠ "__name__" := by decide) (hdb : (x == ("__debug__" : Str)) = false := by decide)
    (he : starEach (e :: es) X.env = (false, eval e X.env) :: starEach es X.env := by rfl) (hpl : (backTo pos (starEach es X.env)).any (·.1) = false := by rfl) : SE X (.Call (.Name x p) (e :: es) [] pos) (fCall d g) :=
  fun F₀ H₀ => PE.weak (pe_callB hc hg hm hv (ha F₀ H₀) hn hdb he hpl) fun _ _ _ => call_core
theorem se_callTy {d : List T → Option T} {id : String} {x : Str} {p : Pos} (hc : CallT X (.type id) d) (hg : Gl X x) (hm : X.mg x = none) (hv : bootBuiltins x = some (.type id)) (ha : SA X (e :: es) g) (hn : x ≠ "__name__" := by decide) (hdb : (x == ("__debug__" : Str)) = false := by decide)
    (he : starEach (e :: es) X.env = (false, eval e X.env) :: starEach es X.env := by rfl) (hpl : (backTo pos (starEach es X.env)).any (·.1) = false := by rfl) : SE X (.Call (.Name x p) (e :: es) [] pos) (fCall d g) :=
  fun F₀ H₀ => PE.weak (pe_callTy hc hg hm hv (ha F₀ H₀) hn hdb he hpl) fun _ _ _ => call_core
end

noncomputable def spT (K : PySem.W.Frag) (n : Nat) (d : List T → Option T) : Sp := fun vs H Q _ => vs.length = n ∧ rTs K d vs H Q
structure Def (P : Program) (w : World) (K : PySem.W.Frag) (mg : Str → Option Value) (base : Heap) (k : Nat) (x : Str) (n : Nat) (d : List T → Option T) : Prop where
  ex : ∃ f fd ps, FnOk P w K mg base CX0 k f fd ps (spT K n d) ∧ Binds K fd ps [] ∧ PySem.W.keepIn K (.ref f) = true ∧ mg x = some (.ref f) ∧ ps.length = n
theorem Def.imp {P : Program} {w : World} {K : PySem.W.Frag} {mg : Str → Option Value} {base : Heap} {k n : Nat} {x : Str} {d d' : List T → Option T} (D : Def P w K mg base k x n d) (h : ∀ ts t, d' ts = some t → d ts = some t) : Def P w K mg base k x n d' := by
  obtain ⟨f, fd, ps, F, r⟩ := D.ex
  exact ⟨f, fd, ps, F.imp fun vs H Q E ⟨l, F, ts, t, a, b, c, q⟩ => ⟨l, F, ts, t, a, b, h _ _ c, q⟩, r⟩
theorem Def.mono {P : Program} {w : World} {K : PySem.W.Frag} {mg : Str → Option Value} {base : Heap} {j k n : Nat} {x : Str} {d : List T → Option T} (D : Def P w K mg base j x n d) (h : j ≤ k) : Def P w K mg base k x n d := by
  obtain ⟨f, fd, ps, F, r⟩ := D.ex
  exact ⟨f, fd, ps, F.mono h, r⟩
theorem Def.zero {P : Program} {w : World} {K : PySem.W.Frag} {mg : Str → Option Value} {base : Heap} {x qual : Str} {st : Stmt} {f : Addr} {fd : FuncData} {ps : List Str} (F : Fun K x qual st f fd) (hb : Binds K fd ps []) (hm : mg x = some (.ref f)) : Def P w K mg base 0 x ps.length (fun _ => none) :=
  ⟨f, fd, ps, ⟨fun vs H Q E h => h.1, fun A outer s H args us vs Q E _ _ _ _ h => by obtain ⟨_, F, ts, t, _, _, e, _⟩ := h; cases e⟩, hb, F.kp, hm, rfl⟩
section
variable {X : Cx} {e : Expr} {es : List Expr} {pos : Pos} {g : FA}
theorem se_call {k n : Nat} {x : Str} {p : Pos} {d : List T → Option T} (D : Def X.prog X.w X.K X.mg X.base k x n d) (hr : Room k X.A) (hg : Gl X x) (ha : SA X (e :: es) g) (hl : ∀ τ ts τ', g τ = some (ts, τ') → ts.length = n) (hdb : (x == ("__debug__" : Str)) = false := by decide)
    (he : starEach (e :: es) X.env = (false, eval e X.env) :: starEach es X.env := by rfl) (hpl : (backTo pos (starEach es X.env)).any (·.1) = false := by rfl) : SE X (.Call (.Name x p) (e :: es) [] pos) (fCall d g) := by
  obtain ⟨f, fd, ps, F, hb, hk, hm, hn⟩ := D.ex
  intro F₀ H₀
  refine PE.weak (pe_call (E := E0) (CX := CX0) F hr hg hm hk hb .nil pass0 (ha F₀ H₀) hdb he hpl) fun σ H Q h => ?_
  obtain ⟨F, τ, c, τ', E, e1, q⟩ := h
  obtain ⟨⟨z, τ1⟩, e2, e1⟩ := bind_some e1
  have hz := hl _ _ _ e2
  obtain ⟨u, e4, e1⟩ := bind_some e1
  cases e1
  refine ⟨F, τ, z, _, E, e2, fun F1 H1 vs E1 s1 r1 => ⟨by rw [List.append_nil, r1.length]; exact hz, F1, z, c, E1.g.fh, by rw [List.append_nil]; exact r1, e4, fun F3 H3 v3 g3 r3 => q F3 H3 v3 (E1.grow g3) (s1.trans g3.sF) r3⟩⟩
theorem len_nil : ∀ τ ts τ', fNil τ = some (ts, τ') → ts.length = 0 := fun _ _ _ h => by cases h; rfl
theorem len_cons {f : FE} {g : FA} {n : Nat} (h : ∀ τ ts τ', g τ = some (ts, τ') → ts.length = n) : ∀ τ ts τ', fCons f g τ = some (ts, τ') → ts.length = n + 1 := fun τ ts τ' e => by
  obtain ⟨⟨x, τ1⟩, e2, e1⟩ := bind_some e
  obtain ⟨⟨y, τ2⟩, e3, e1⟩ := bind_some e1
  cases e1
  simp [h _ _ _ e3]
end
end TM

namespace TM
open PySem PySem.Spec PyProof.Rows L2
section
variable {X : Cx} {e a b : Expr} {pos : Pos} {f fa fb : FE} {ga : FA} {es : List Expr}

noncomputable def fNever : FS := fun _ => none
noncomputable def fNext : FS := fun τ => some (.nx τ)
noncomputable def fRet (f : FE) : FS := fun τ => (f τ).bind fun p => some (.rt p.1)
noncomputable def fDrop (f : FE) : FS := fun τ => (f τ).bind fun p => some (.nx p.2)
noncomputable def fIfS (c : FT) (t u : FS) : FS := fun τ => (c τ).bind fun p => if p.1 = true then t p.2 else u p.2
noncomputable def fSeq (t u : FS) : FS := fun τ => (t τ).bind fun r => match r with | .nx τ' => u τ' | r => some r
theorem FlowOk.mono {K : PySem.W.Frag} {F₀ H₀ F F' : Hp} {D : Ends} {r : R} (s : Same F F') (h : FlowOk K F₀ H₀ F D r) : FlowOk K F₀ H₀ F' D r := by
  cases r with
  | nx τ => exact fun F1 H1 σ1 E1 s1 => h F1 H1 σ1 E1 (s.trans s1)
  | rt t => exact h
  | bk τ => exact fun F1 H1 σ1 E1 s1 => h F1 H1 σ1 E1 (s.trans s1)
  | ct τ => exact fun F1 H1 σ1 E1 s1 => h F1 H1 σ1 E1 (s.trans s1)
theorem ss_never {st : Stmt} : SS X st fNever := fun F₀ H₀ => PS.weak ps_never fun D σ H ⟨F, τ, r, E, e1, q⟩ => by cases e1
theorem ss_ret (h : SE X e f) : SS X (.Return (some e) pos) (fRet f) := fun F₀ H₀ => PS.weak (ps_ret (h F₀ H₀)) fun D σ H hq__ => by
  obtain ⟨F, τ, r, E, e1, q⟩ := hq__
  obtain ⟨⟨x, τ1⟩, e2, e1⟩ := bind_some e1
  cases e1
  exact ⟨F, τ, x, τ1, E, e2, fun F' H' v E' s' r' => q F' H' v E'.g r'⟩
theorem ss_if (hc : ST X c tc) (ha : SSs X ss t) (hb : SSs X us u) : SS X (.If c ss us pos) (fIfS tc t u) := fun F₀ H₀ => PS.weak (ps_if (hc F₀ H₀) (ha F₀ H₀) (hb F₀ H₀)) fun D σ H hq__ => by
  obtain ⟨F, τ, r, E, e1, q⟩ := hq__
  obtain ⟨⟨x, τ1⟩, e2, e1⟩ := bind_some e1
  refine ⟨F, τ, x, τ1, E, e2, fun F' H' E' s' => ?_⟩
  dsimp only at e1
  split at e1
  · next h => rw [if_pos h]; exact ⟨F', τ1, r, E', e1, q.mono s'⟩
  · next h => rw [if_neg h]; exact ⟨F', τ1, r, E', e1, q.mono s'⟩
theorem sss_nil : SSs X [] fNext := fun F₀ H₀ => PSs.weak pss_nil fun D σ H hq__ => by
  obtain ⟨F, τ, r, E, e1, q⟩ := hq__
  cases e1
  exact q F H σ E (Same.refl _)
theorem sss_cons {st : Stmt} {rest : List Stmt} {t u : FS} (h1 : SS X st t) (h2 : SSs X rest u) : SSs X (st :: rest) (fSeq t u) := fun F₀ H₀ => PSs.weak (pss_cons (h1 F₀ H₀) (h2 F₀ H₀)) fun D σ H hq__ => by
  obtain ⟨F, τ, r, E, e1, q⟩ := hq__
  obtain ⟨x, e2, e1⟩ := bind_some e1
  refine ⟨F, τ, x, E, e2, ?_⟩
  cases x with
  | nx τ1 => exact fun F1 H1 σ1 E1 s1 => ⟨F1, τ1, r, E1, e1, q.mono s1⟩
  | rt t => cases e1; exact q
  | bk t => cases e1; exact q
  | ct t => cases e1; exact q
theorem sss_one {st : Stmt} {t : FS} (h1 : SS X st t) : SSs X [st] t := fun F₀ H₀ => pss_one (h1 F₀ H₀)
noncomputable def fSet (i : Nat) (f : FE) : FS := fun τ => (f τ).bind fun p => some (.nx (p.2.set i (some (.sh p.1))))
noncomputable def fSetOwn (i : Nat) (g : FA) : FS := fun τ => (g τ).bind fun p => if p.1.length ≤ sizeLine then some (.nx (p.2.set i (some (.own p.1)))) else none
theorem ss_set (i : Nat) (hN : X.N.Nodup) (hi : X.N[i]? = some x) (hx : Loc X.env.scope x) (he : SE X e f) (hs : swapsWith e (some (.Name x pos')) pos.line X.env = pure false := by rfl)
    (hf : X.fn x = true ∨ X.env.scope.names.lookup x = some .local := by first | exact .inl rfl | exact .inr rfl | assumption) : SS X (.Assign [.Name x pos'] e pos) (fSet i f) := fun F₀ H₀ => PS.weak (ps_set hN hi hx (he F₀ H₀) hs hf) fun D σ H hq__ => by
  obtain ⟨F, τ, r, E, e1, q⟩ := hq__
  obtain ⟨⟨y, τ1⟩, e2, e1⟩ := bind_some e1
  cases e1
  exact ⟨F, τ, y, τ1, E, e2, fun F' H' v E' s' r' => q F' H' _ (E'.set r') s'⟩
theorem ss_setOwn (i : Nat) (hN : X.N.Nodup) (hi : X.N[i]? = some x) (hx : Loc X.env.scope x) (he : SA X es ga) (hs : swapsWith (.List es p2) (some (.Name x pos')) pos.line X.env = pure false := by rfl)
    (hf : X.fn x = true ∨ X.env.scope.names.lookup x = some .local := by first | exact .inl rfl | exact .inr rfl | assumption) : SS X (.Assign [.Name x pos'] (.List es p2) pos) (fSetOwn i ga) := fun F₀ H₀ => PS.weak (ps_set hN hi hx (pe_lst (he F₀ H₀)) hs hf) fun D σ H hq__ => by
  obtain ⟨F, τ, r, E, e1, q⟩ := hq__
  obtain ⟨⟨y, τ1⟩, e2, e1⟩ := bind_some e1
  dsimp only at e1
  split at e1
  · next hl =>
    cases e1
    exact ⟨F, τ, y, τ1, E, e2, fun F' H' vs E' s' r' => ⟨by rw [r'.length]; exact hl, fun p hp => q F' _ _ (E'.setOwn hp r') s'⟩⟩
  · cases e1
noncomputable def tG (K : PySem.W.Frag) (F₀ H₀ : Hp) (fg : FG) : TG := fun v σ H Q => ∃ F τ t τ', EnvOk K F₀ H₀ F H σ τ ∧ Rep K F t v ∧ fg t τ = some τ' ∧ ∀ F' H' σ', EnvOk K F₀ H₀ F' H' σ' τ' → Same F F' → Q σ' H'
noncomputable def tGs (K : PySem.W.Frag) (F₀ H₀ : Hp) (fg : List T → TEnv → Option TEnv) : TGs := fun vs σ H Q => ∃ F τ ts τ', EnvOk K F₀ H₀ F H σ τ ∧ Reps K F ts vs ∧ fg ts τ = some τ' ∧ ∀ F' H' σ', EnvOk K F₀ H₀ F' H' σ' τ' → Same F F' → Q σ' H'
noncomputable def SG (X : Cx) (tg : Expr) (fg : FG) : Prop := ∀ F₀ H₀, PG X tg (tG X.K F₀ H₀ fg)
noncomputable def SGs (X : Cx) (tg : List Expr) (fg : List T → TEnv → Option TEnv) : Prop := ∀ F₀ H₀, PGs X tg (tGs X.K F₀ H₀ fg)
noncomputable def gnName (i : Nat) : FG := fun t τ => some (τ.set i (some (.sh t)))
noncomputable def gnNil : List T → TEnv → Option TEnv
  | [], τ => some τ
  | _ :: _, _ => none
noncomputable def gnCons (g : FG) (gs : List T → TEnv → Option TEnv) : List T → TEnv → Option TEnv
  | [], _ => none
  | t :: ts, τ => (g t τ).bind fun τ1 => gs ts τ1
noncomputable def gnTup (gs : List T → TEnv → Option TEnv) : FG := fun t τ => match t with
  | .tup ts => gs ts τ
  | _ => none
theorem sg_name (i : Nat) (hN : X.N.Nodup) (hi : X.N[i]? = some x) (hx : Loc X.env.scope x) (hf : X.fn x = true ∨ X.env.scope.names.lookup x = some .local := by first | exact .inl rfl | exact .inr rfl | assumption) : SG X (.Name x pos) (gnName i) :=
  fun F₀ H₀ pins s σ H v u Q I r h => pg_name hN hi hx hf pins s σ H v u Q I r (by
    obtain ⟨F, τ, t, τ', E, rt, e1, q⟩ := h
    cases e1
    exact q F H _ (E.set rt) (Same.refl _))
theorem sgs_nil : SGs X [] gnNil := fun F₀ H₀ pins s σ H vs us Q I r h => pgs_nil pins s σ H vs us Q I r (by
  obtain ⟨F, τ, ts, τ', E, rt, e1, q⟩ := h
  cases ts with
  | nil => cases e1; cases rt; exact ⟨rfl, q F H σ E (Same.refl _)⟩
  | cons t ts => cases e1)
theorem sgs_cons (h1 : SG X e g) (h2 : SGs X es gs) (hs : (assignEach (e :: es) X.env).map (·.2) = assign e X.env :: (assignEach es X.env).map (·.2) := by rfl) : SGs X (e :: es) (gnCons g gs) :=
  fun F₀ H₀ pins s σ H vs us Q I r h => pgs_cons (h1 F₀ H₀) (h2 F₀ H₀) hs pins s σ H vs us Q I r (by
    obtain ⟨F, τ, ts, τ', E, rt, e1, q⟩ := h
    cases ts with
    | nil => cases e1
    | cons t ts =>
      obtain ⟨v, rr, rfl, r1, r2⟩ := rt
      obtain ⟨τ1, e2, e1⟩ := bind_some e1
      exact ⟨v, rr, rfl, F, τ, t, τ1, E, r1, e2, fun F' H' σ' E' s' => ⟨F', τ1, ts, τ', E', Reps.mono s' r2, e1, fun F2 H2 σ2 E2 s2 => q F2 H2 σ2 E2 (s'.trans s2)⟩⟩)
theorem gl_nil : ∀ ts τ τ', gnNil ts τ = some τ' → ts.length = 0 := fun ts τ τ' h => by cases ts <;> first | rfl | cases h
theorem gl_cons {gs : List T → TEnv → Option TEnv} {n : Nat} (h : ∀ ts τ τ', gs ts τ = some τ' → ts.length = n) : ∀ ts τ τ', gnCons g gs ts τ = some τ' → ts.length = n + 1 := fun ts τ τ' e => by
  cases ts with
  | nil => cases e
  | cons t ts =>
    obtain ⟨τ1, e2, e1⟩ := bind_some e
    simp [h _ _ _ e1]
theorem sg_tup {k : Nat} {n : Nat} (hc : X.calm = true) (h : SGs X es gs) (hl : ∀ ts τ τ', gs ts τ = some τ' → ts.length = n)
    (hn : (assignEach es X.env).length = n := by rfl) (hst : (assignEach es X.env).findIdx? (·.1) = none := by rfl) : SG X (.Tuple es k pos) (gnTup gs) :=
  fun F₀ H₀ pins s σ H v u Q I r h' => pg_tup hc (h F₀ H₀) hn hst pins s σ H v u Q I r (by
    obtain ⟨F, τ, t, τ', E, rt, e1, q⟩ := h'
    unfold gnTup at e1
    split at e1
    · next ts =>
      obtain ⟨p, xs, rfl, h1, h2⟩ := rt
      exact ⟨p, xs, rfl, same_sqT E.g.fh h1, by rw [h2.length]; exact hl _ _ _ e1, F, τ, ts, τ', E, h2, e1, q⟩
    · cases e1)
noncomputable def fAsg (f : FE) (g : FG) : FS := fun τ => (f τ).bind fun p => (g p.1 p.2).bind fun τ' => some (.nx τ')
theorem ss_asg (he : SE X e f) (hg : SG X tg g) (hs : swapsWithSole [tg] e pos.line X.env = pure false := by rfl) (hw : swappedStores [tg] e X.env = pure none := by rfl)
    (h1 : (assignEach [tg] X.env).map (·.2) = [assign tg X.env] := by rfl) : SS X (.Assign [tg] e pos) (fAsg f g) := fun F₀ H₀ => PS.weak (ps_asg (he F₀ H₀) (hg F₀ H₀) hs hw h1) fun D σ H hq__ => by
  obtain ⟨F, τ, r, E, e1, q⟩ := hq__
  obtain ⟨⟨y, τ1⟩, e2, e1⟩ := bind_some e1
  obtain ⟨τ2, e3, e1⟩ := bind_some e1
  cases e1
  exact ⟨F, τ, y, τ1, E, e2, fun F' H' v E' s' r' => ⟨F', τ1, y, τ2, E', r', e3, fun F2 H2 σ2 E2 s2 => q F2 H2 σ2 E2 (s'.trans s2)⟩⟩
noncomputable def fPar (i j : Nat) (g : FA) : FS := fun τ => (g τ).bind fun p => match p.1 with
  | [v, w] => some (.nx ((p.2.set i (some (.sh v))).set j (some (.sh w))))
  | _ => none
theorem ss_par {i j : Nat} {kt k2 pt2} (hc : X.calm = true) (hN : X.N.Nodup) (hi : X.N[i]? = some x) (hj : X.N[j]? = some y) (hij : i ≠ j)
    (hx : X.env.scope.names.lookup x = some .local) (hy : X.env.scope.names.lookup y = some .local) (ha : SA X [a, b] ga)
    (hw : swappedStores [.Tuple [.Name x px, .Name y py] kt pt] (.Tuple [a, b] k2 pt2) X.env = pure (some [x, y]))
    (hs : swapsWithSole [.Tuple [.Name x px, .Name y py] kt pt] (.Tuple [a, b] k2 pt2) pos.line X.env = pure false := by rfl) :
    SS X (.Assign [.Tuple [.Name x px, .Name y py] kt pt] (.Tuple [a, b] k2 pt2) pos) (fPar i j ga) := fun F₀ H₀ => PS.weak (ps_par hc hN hi hj hij hx hy (ha F₀ H₀) hw hs) fun D σ H hq__ => by
  obtain ⟨F, τ, r, E, e1, q⟩ := hq__
  obtain ⟨⟨ts, τ1⟩, e2, e1⟩ := bind_some e1
  dsimp only at e1
  split at e1
  · next v w =>
    cases e1
    refine ⟨F, τ, _, τ1, E, e2, fun F' H' vs E' s' r' => ?_⟩
    obtain ⟨v1, r1, rfl, q1, v2, r2, rfl, q2, rfl⟩ := r'
    exact ⟨v1, v2, rfl, q F' H' _ ((E'.set q1).set q2) s'⟩
  · cases e1

structure Walks (K : PySem.W.Frag) (F : Hp) (ts : List T) (J : It) : Prop where
  go : ∀ (i : Nat) t F1 H1, ts[i]? = some t → Same F F1 → Same F1 H1 → J.go i H1
  yld : ∀ (i : Nat) t F1 H1 x H2, ts[i]? = some t → Same F F1 → Same F1 H1 → J.yld i H1 x H2 → ∃ F2, Grow F1 H1 F2 H2 ∧ Rep K F2 t x
  stop : ∀ F1 H1, Same F F1 → Same F1 H1 → J.stop ts.length H1
noncomputable def tI (K : PySem.W.Frag) (F₀ H₀ : Hp) (fi : FA) : TI := fun σ H R => ∃ F τ ts τ', EnvOk K F₀ H₀ F H σ τ ∧ fi τ = some (ts, τ') ∧ ∀ F' H' J, EnvOk K F₀ H₀ F' H' σ τ' → Same F F' → Walks K F' ts J → R J H'
noncomputable def SI (X : Cx) (tg iter : Expr) (fi : FA) : Prop := ∀ F₀ H₀, PI X tg iter (tI X.K F₀ H₀ fi)
noncomputable def loopT (fg : FG) (fb : FS) : List T → FS
  | [], τ => some (.nx τ)
  | t :: ts, τ => (fg t τ).bind fun τ1 => (fb τ1).bind fun r => match r with
    | .nx τ2 => loopT fg fb ts τ2
    | .ct τ2 => loopT fg fb ts τ2
    | .bk τ2 => some (.nx τ2)
    | .rt v => some (.rt v)
noncomputable def fFor (fi : FA) (fg : FG) (fb : FS) : FS := fun τ => (fi τ).bind fun p => loopT fg fb p.1 p.2
theorem ss_for {tg iter : Expr} {body : List Stmt} {fi : FA} {fg : FG} {fb : FS} (hp : PassesOwn (model X.prog X.w) X.A X.env X.xe) (hc : X.calm = true) (hi : SI X tg iter fi) (hg : SG X tg fg) (hb : SSs X body fb)
    (hs : ∀ x, foldedSetIterable iter X.env x = pure x := by intro _; rfl) : SS X (.For tg iter body [] pos) (fFor fi fg fb) := fun F₀ H₀ => PS.weak (ps_for hp hc (hi F₀ H₀) (hg F₀ H₀) (hb F₀ H₀) hs) fun D σ H hq__ => by
  obtain ⟨F, τ, r, E, e1, q⟩ := hq__
  obtain ⟨⟨ts, τ1⟩, e2, e1⟩ := bind_some e1
  refine ⟨F, τ, ts, τ1, E, e2, fun F' H' J E' s' W => ?_⟩
  refine ⟨fun i m σ H => m = ts.length - i ∧ i ≤ ts.length ∧ ∃ F1 τ1, EnvOk X.K F₀ H₀ F1 H σ τ1 ∧ Same F' F1 ∧ loopT fg fb (ts.drop i) τ1 = some r, ⟨_, rfl, Nat.zero_le _, F', τ1, E', Same.refl _, e1⟩, ?_⟩
  rintro i m σ1 H1 ⟨rfl, hi, F1, τ2, E1, s1, e3⟩
  by_cases hlt : i < ts.length
  · have hd : ts.drop i = ts[i] :: ts.drop (i + 1) := List.drop_eq_getElem_cons hlt
    have hg : ts[i]? = some ts[i] := List.getElem?_eq_getElem hlt
    rw [hd] at e3
    obtain ⟨τ3, e4, e3⟩ := bind_some e3
    obtain ⟨r', e5, e3⟩ := bind_some e3
    refine .inr ⟨W.go i _ F1 H1 hg s1 E1.g.fh, fun σ H => ∃ F1 τ1, EnvOk X.K F₀ H₀ F1 H σ τ1 ∧ Same F' F1 ∧ loopT fg fb (ts.drop (i + 1)) τ1 = some r, fun σ' H' n => ⟨_, by omega, rfl, hlt, n⟩, fun x H2 y => ?_⟩
    obtain ⟨F2, gr, rx⟩ := W.yld i _ F1 H1 x H2 hg s1 E1.g.fh y
    refine ⟨F2, τ2, ts[i], τ3, E1.grow gr, rx, e4, fun F3 H3 σ3 E3 s3 => ⟨F3, τ3, r', E3, e5, ?_⟩⟩
    have s03 : Same F' F3 := s1.trans (gr.sF.trans s3)
    cases r' with
    | nx τ4 => exact fun F4 H4 σ4 E4 s4 => ⟨F4, τ4, E4, s03.trans s4, e3⟩
    | ct τ4 => exact fun F4 H4 σ4 E4 s4 => ⟨F4, τ4, E4, s03.trans s4, e3⟩
    | bk τ4 => cases e3; exact fun F4 H4 σ4 E4 s4 => q F4 H4 σ4 E4 (s'.trans (s03.trans s4))
    | rt v => cases e3; exact q
  · have he : i = ts.length := by omega
    subst he
    rw [List.drop_length] at e3
    cases e3
    exact .inl ⟨W.stop F1 H1 s1 E1.g.fh, q F1 H1 σ1 E1 (s'.trans s1)⟩
theorem PI.weak {t t' : TI} (h : PI X tg it t) (i : ∀ σ H R, t' σ H R → t σ H R) : PI X tg it t' := fun pins s σ H R I q => h pins s σ H R I (i σ H R q)
noncomputable def upTo (lo : Int) : Nat → List T
  | 0 => []
  | n + 1 => .int lo :: upTo (lo + 1) n
theorem upTo_length : ∀ (n : Nat) (lo : Int), (upTo lo n).length = n
  | 0, _ => rfl
  | n + 1, lo => by simp [upTo, upTo_length n]
theorem upTo_get : ∀ (n : Nat) (lo : Int) (i : Nat), i < n → (upTo lo n)[i]? = some (.int (lo + i))
  | 0, _, _, h => by omega
  | n + 1, lo, 0, _ => by simp [upTo]
  | n + 1, lo, i + 1, h => by
    simp only [upTo, List.getElem?_cons_succ]
    rw [upTo_get n (lo + 1) i (by omega)]
    congr 2
    push_cast
    omega
noncomputable def fiRng1 (g : FA) : FA := fun τ => (g τ).bind fun p => match p.1 with
  | [.int j] => if -(2 ^ 62) ≤ j ∧ j < 2 ^ 62 then some (upTo 0 j.toNat, p.2) else none
  | _ => none
theorem walks_rng {K : PySem.W.Frag} {F : Hp} (lo : Int) (n : Nat) : Walks K F (upTo lo n) (Itr lo n) := by
  have hl : ∀ {i : Nat} {t : T}, (upTo lo n)[i]? = some t → i < n := fun {i t} e => by
    have := (List.getElem?_eq_some_iff.mp e).1
    rwa [upTo_length] at this
  refine ⟨fun i t F1 H1 e s1 s2 => hl e, fun i t F1 H1 x H2 e s1 s2 y => ?_, fun F1 H1 s1 s2 => by show n ≤ _; rw [upTo_length]; exact Nat.le_refl _⟩
  obtain ⟨rfl, rfl⟩ := y
  rw [upTo_get n lo i (hl e)] at e
  cases e
  exact ⟨F1, Grow.refl s2, rfl⟩
theorem si_rng1 (hg : Gl X "range") (hm : X.mg "range" = none) (ha : SA X [a] ga) (hs : starEach [a] X.env = [(false, eval a X.env)] := by rfl) : SI X tg (.Call (.Name "range" p) [a] [] pos) (fiRng1 ga) :=
  fun F₀ H₀ => PI.weak (pi_range1 hg hm (ha F₀ H₀) hs) fun σ H R hq__ => by
    obtain ⟨F, τ, ts, τ', E, e1, q⟩ := hq__
    obtain ⟨⟨x, τ1⟩, e2, e1⟩ := bind_some e1
    dsimp only at e1
    split at e1
    · split at e1
      · next hb =>
        cases e1
        refine ⟨F, τ, _, τ', E, e2, fun F' H' vs E' s' r' => ?_⟩
        obtain ⟨v, r, rfl, q1, rfl⟩ := r'
        cases q1
        exact ⟨_, rfl, hb.1, hb.2, q F' H' _ E' s' (walks_rng 0 _)⟩
      · cases e1
    · cases e1
noncomputable def whileT (ft : FT) (fb : FS) : Nat → FS
  | 0, _ => none
  | n + 1, τ => (ft τ).bind fun p => if p.1 = true then (fb p.2).bind fun r => match r with
    | .nx τ2 => whileT ft fb n τ2
    | .ct τ2 => whileT ft fb n τ2
    | .bk τ2 => some (.nx τ2)
    | .rt v => some (.rt v) else some (.nx p.2)
theorem ss_while (n : Nat) {c : Expr} {body : List Stmt} {ft : FT} {fb : FS} (hp : PassesOwn (model X.prog X.w) X.A X.env X.xe) (hc : ST X c ft) (hb : SSs X body fb) : SS X (.While c body [] pos) (whileT ft fb n) := fun F₀ H₀ => PS.weak (ps_while hp (hc F₀ H₀) (hb F₀ H₀)) fun D σ H hq__ => by
  obtain ⟨F, τ, r, E, e1, q⟩ := hq__
  refine ⟨fun m σ H => ∃ F1 τ1, EnvOk X.K F₀ H₀ F1 H σ τ1 ∧ Same F F1 ∧ whileT ft fb m τ1 = some r, ⟨n, F, τ, E, Same.refl _, e1⟩, ?_⟩
  rintro m σ1 H1 ⟨F1, τ1, E1, s1, e2⟩
  cases m with
  | zero => cases e2
  | succ m =>
    obtain ⟨⟨x, τ2⟩, e3, e2⟩ := bind_some e2
    refine ⟨F1, τ1, x, τ2, E1, e3, fun F2 H2 E2 s2 => ?_⟩
    dsimp only at e2
    split at e2
    · next h =>
      rw [if_pos h]
      obtain ⟨r', e4, e2⟩ := bind_some e2
      refine ⟨fun σ H => ∃ F1 τ1, EnvOk X.K F₀ H₀ F1 H σ τ1 ∧ Same F F1 ∧ whileT ft fb m τ1 = some r, fun σ' H' n => ⟨m, Nat.lt_succ_self m, n⟩, F2, τ2, r', E2, e4, ?_⟩
      cases r' with
      | nx τ4 => exact fun F4 H4 σ4 E4 s4 => ⟨F4, τ4, E4, (s1.trans s2).trans s4, e2⟩
      | ct τ4 => exact fun F4 H4 σ4 E4 s4 => ⟨F4, τ4, E4, (s1.trans s2).trans s4, e2⟩
      | bk τ4 => cases e2; exact fun F4 H4 σ4 E4 s4 => q F4 H4 σ4 E4 ((s1.trans s2).trans s4)
      | rt v => cases e2; exact q
    · next h =>
      rw [if_neg h]
      cases e2
      exact q F2 H2 σ1 E2 (s1.trans s2)
noncomputable def fApp (i : Nat) (f : FE) : FS := fun τ => match τ[i]? with
  | some (some (.own _)) => (f τ).bind fun p => match p.2[i]? with
    | some (some (.own ts)) => if ts.length < sizeLine then some (.nx (p.2.set i (some (.own (ts ++ [p.1]))))) else none
    | _ => none
  | _ => none
end
noncomputable def dOf (m n : Nat) (fb : FS) : List T → Option T := fun ts => if ts.length = n then (fb (ts.map (fun t => some (Sl.sh t)) ++ List.replicate (m - n) none)).bind fun r => match r with
  | .rt t => some t
  | .nx _ => some .non
  | _ => none else none
theorem env_start {K : PySem.W.Frag} {F H : Hp} {N : List Str} {vs : List V} {ts : List T} (s : Same F H) (r : Reps K F ts vs) : EnvOk K F H F H (start N vs) (ts.map (fun t => some (Sl.sh t)) ++ List.replicate (N.length - ts.length) none) := by
  have hl := r.length
  have key : ∀ (i : Nat) (sl : Sl), (ts.map (fun t => some (Sl.sh t)) ++ List.replicate (N.length - ts.length) none)[i]? = some (some sl) → ∃ t, ts[i]? = some t ∧ sl = .sh t := fun i sl e => by
    by_cases h : i < ts.length
    · rw [List.getElem?_append_left (by simpa using h), List.getElem?_map, List.getElem?_eq_getElem h] at e
      simp at e
      exact ⟨ts[i], List.getElem?_eq_getElem h, e.symm⟩
    · rw [List.getElem?_append_right (by simp; omega), List.getElem?_replicate] at e
      split at e <;> cases e
  refine ⟨Grow.refl s, by simp [L2.start, hl], fun i sl e => ?_, fun i j us ws p _ e1 _ _ => ?_⟩
  · obtain ⟨t, e1, rfl⟩ := key i sl e
    obtain ⟨v, g1, g2⟩ := r.get e1
    refine ⟨v, ?_, g2⟩
    have hi : i < vs.length := (List.getElem?_eq_some_iff.mp g1).1
    unfold L2.start
    rw [List.getElem?_append_left (by simpa using hi), List.getElem?_map, g1]
    rfl
  · obtain ⟨t, _, e⟩ := key i _ e1
    cases e
section
variable {P : Program} {w : World} {K : PySem.W.Frag} {mg : Str → Option Value} {base : Heap}
theorem def_of {x qual : Str} {st : Stmt} {f : Addr} {fd : FuncData} {N ps : List Str} {k : Nat} {fb : FS} (F : Fun K x qual st f fd) (S : FnScope N ps (defScope st)) (hb : Binds K fd ps []) (hm : mg x = some (.ref f))
    (h : ∀ (cdv : Value) (A : Around) (outer : List Env) (s : Shared) (H : Hp) (E : XK), Room k (A.deeper (envOfC qual (defScope st) s.heap.objs.size f cdv)) → SSs (cxOf CX0 P w K mg base N qual (defScope st) f cdv A outer s H E).nox (defBody st) fb) :
    Def P w K mg base (k + 1) x ps.length (dOf N.length ps.length fb) := by
  refine ⟨f, fd, ps, F.ok S (fun vs H Q E z => z.1) (fun cdv A outer s H vs Q E hr z => ?_), hb, F.kp, hm, rfl⟩
  obtain ⟨hl, F1, ts, t, sm, r, e, q⟩ := z
  unfold dOf at e
  split at e
  · next hn =>
    obtain ⟨r', e1, e⟩ := bind_some e
    refine ⟨_, h cdv A outer s H E hr F1 H, F1, _, r', ?_, e1, ?_⟩
    · have := env_start (N := N) sm r
      rw [hn] at this
      exact this
    · cases r' with
      | rt u => cases e; exact fun F' H' v g r' => q F' H' v g r'
      | nx τ => cases e; exact fun F' H' σ' E' s' => q F' H' .non E'.g rfl
      | bk τ => cases e
      | ct τ => cases e
  · cases e
end
end TM

namespace TM
open PySem PySem.Spec PyProof.Rows L2
noncomputable def B : Nat := 2 ^ 4000
theorem B_log {n : Nat} (h : n < B) : n.log2 < 4000 := by
  rcases Nat.eq_zero_or_pos n with h0 | hp
  · rw [h0]; decide
  · exact (Nat.log2_lt (Nat.ne_of_gt hp)).mpr h
theorem bits_B {i : Int} (h : i.natAbs < B) : Builtin.Int.intBits i ≤ 4000 := by
  unfold Builtin.Int.intBits
  split
  · omega
  · have := B_log h
    omega
theorem mul_B {i j : Int} (hi : i.natAbs < B) (hj : j.natAbs < B) : IntMulOk i j := by
  have h1 := bits_B hi
  have h2 := bits_B hj
  unfold IntMulOk
  have h3 : Builtin.Int.intTooBig (Builtin.Int.intBits i + Builtin.Int.intBits j) = false := by
    unfold Builtin.Int.intTooBig
    have hb : ((bitsLine : Nat) : Int) = 134217728 := by decide
    rw [decide_eq_false]
    show ¬ ((Builtin.Int.intBits i : Int) + (Builtin.Int.intBits j : Int) > ((bitsLine : Nat) : Int))
    rw [hb]
    omega
  rw [h3]
  simp
section
variable {X : Cx}
noncomputable def gI (C : Int → Int → Prop) [∀ i j, Decidable (C i j)] (g : Int → Int → T) : T → T → Option T := fun a b => match a, b with
  | .int i, .int j => if C i j then some (g i j) else none
  | _, _ => none
theorem gI_int {C : Int → Int → Prop} [∀ i j, Decidable (C i j)] {i j : Int} : gI C g (.int i) (.int j) = if C i j then some (g i j) else none := rfl
theorem opT_I {C : Int → Int → Prop} [∀ i j, Decidable (C i j)] {g : Int → Int → T} (h : OpR X f (rI C gv)) (hg : ∀ K F i j, Rep K F (g i j) (gv i j)) : OpT X f (gI C g) := by
  intro pins s σ H x y v u Q I rx ry ⟨F, a, b, t, sm, ra, rb, e, q⟩
  unfold gI at e
  split at e
  · cases ra
    cases rb
    split at e
    · next hc =>
      cases e
      exact h pins s σ H _ _ v u Q I rx ry ⟨_, _, rfl, rfl, hc, q F H _ (Grow.refl sm) (hg _ _ _ _)⟩
    · cases e
  · cases e
theorem opT_I0 {g : Int → Int → T} (h : OpR X f (rI0 gv)) (hg : ∀ K F i j, Rep K F (g i j) (gv i j)) : OpT X f (gI (fun _ _ => True) g) :=
  opT_I (fun pins s σ H x y v u Q I rx ry ⟨i, j, e1, e2, _, q⟩ => h pins s σ H x y v u Q I rx ry ⟨i, j, e1, e2, q⟩) hg
noncomputable def gOr (g g' : T → T → Option T) : T → T → Option T := fun a b => match g a b with
  | some t => some t
  | none => g' a b
theorem OpT.or (h : OpT X f g) (h' : OpT X f g') : OpT X f (gOr g g') := by
  intro pins s σ H x y v u Q I rx ry ⟨F, a, b, t, sm, ra, rb, e, q⟩
  unfold gOr at e
  split at e
  · next t' e' => cases e; exact h pins s σ H x y v u Q I rx ry ⟨F, a, b, _, sm, ra, rb, e', q⟩
  · exact h' pins s σ H x y v u Q I rx ry ⟨F, a, b, t, sm, ra, rb, e, q⟩
noncomputable def CMulB (i j : Int) : Prop := i.natAbs < B ∧ j.natAbs < B
noncomputable instance (i j : Int) : Decidable (CMulB i j) := inferInstanceAs (Decidable (_ ∧ _))
noncomputable def CDivB (i j : Int) : Prop := j ≠ 0 ∧ j.natAbs < B
noncomputable instance (i j : Int) : Decidable (CDivB i j) := inferInstanceAs (Decidable (_ ∧ _))
noncomputable def CNz (i j : Int) : Prop := j ≠ 0
noncomputable instance (i j : Int) : Decidable (CNz i j) := inferInstanceAs (Decidable (_ ≠ _))
noncomputable instance (i j : Int) : Decidable (CPow i j) := inferInstanceAs (Decidable (_ ∧ _ ∧ _))
noncomputable abbrev gSub := gI (fun _ _ => True) fun i j => .int (i - j)
noncomputable abbrev gMulI := gI CMulB fun i j => .int (i * j)
noncomputable abbrev gDiv := gI CDivB fun i j => .int (i.fdiv j)
noncomputable abbrev gMod := gI CNz fun i j => .int (i.fmod j)
noncomputable abbrev gPow := gI CPow fun i j => .int (i ^ j.toNat)
noncomputable abbrev gLt := gI (fun _ _ => True) fun i j => .bl (decide (i < j))
noncomputable abbrev gLe := gI (fun _ _ => True) fun i j => .bl (decide (i ≤ j))
noncomputable abbrev gGt := gI (fun _ _ => True) fun i j => .bl (decide (j < i))
noncomputable abbrev gGe := gI (fun _ _ => True) fun i j => .bl (decide (j ≤ i))
theorem ot_sub : OpT X (binaryOp .Sub) gSub := opT_I0 op_sub fun _ _ _ _ => rfl
theorem ot_mulI : OpT X (binaryOp .Mult) gMulI := opT_I (C := CMulB) (gv := fun i j => .int (i * j)) (opI fun _ _ _ _ _ _ _ hc q => mul_int q (mul_B hc.1 hc.2)) fun _ _ _ _ => rfl
theorem ot_div : OpT X (binaryOp .FloorDiv) gDiv := opT_I (C := CDivB) (gv := fun i j => .int (i.fdiv j)) (opI fun _ _ _ _ _ _ _ hc q => floordiv_int hc.1 q (.inl (PyProof.noPylong_of_log2 (Nat.lt_trans (B_log hc.2) (by decide : 4000 < 9000))))) fun _ _ _ _ => rfl
theorem ot_mod : OpT X (binaryOp .Mod) gMod := opT_I (C := CNz) (gv := fun i j => .int (i.fmod j)) op_modN fun _ _ _ _ => rfl
theorem ot_pow : OpT X (binaryOp .Pow) gPow := opT_I (C := CPow) op_pow fun _ _ _ _ => rfl
theorem ot_lt : OpT X (compareOp .Lt) gLt := opT_I0 op_lt fun _ _ _ _ => rfl
theorem ot_le : OpT X (compareOp .LtE) gLe := opT_I0 op_le fun _ _ _ _ => rfl
theorem ot_gt : OpT X (compareOp .Gt) gGt := opT_I0 op_gt fun _ _ _ _ => rfl
theorem ot_ge : OpT X (compareOp .GtE) gGe := opT_I0 op_ge fun _ _ _ _ => rfl
noncomputable def gAddS : T → T → Option T
  | .str x, .str y => if x.length + y.length ≤ sizeLine then some (.str (x ++ y)) else none
  | .lst xs, .lst ys => if xs.length + ys.length ≤ sizeLine then some (.lst (xs ++ ys)) else none
  | .tup (x :: xs), .tup (y :: ys) => if (x :: xs).length + (y :: ys).length ≤ sizeLine then some (.tup (x :: xs ++ y :: ys)) else none
  | _, _ => none
theorem ot_addS : OpT X (binaryOp .Add) gAddS := by
  intro pins s σ H x y v u Q I rx ry ⟨F, a, b, t, sm, ra, rb, e, q⟩
  unfold gAddS at e
  split at e
  · split at e
    · next hl =>
      cases e; cases ra; cases rb
      exact op_add_str pins s σ H _ _ v u Q I rx ry ⟨_, _, rfl, rfl, hl, q F H _ (Grow.refl sm) rfl⟩
    · cases e
  · split at e
    · next hl =>
      cases e
      obtain ⟨p1, x1, rfl, h1, h2⟩ := ra
      obtain ⟨p2, x2, rfl, h3, h4⟩ := rb
      refine op_cat pins s σ H _ _ v u Q I rx ry ⟨p1, p2, x1, x2, rfl, rfl, sm _ _ h1, sm _ _ h3, by rw [h2.length, h4.length]; exact hl, fun p hp => ?_⟩
      have gr := Grow.new (.lst (x1 ++ x2)) sm hp
      exact q _ _ _ gr ⟨p, _, rfl, upd_same, Reps.mono gr.sF (h2.append h4)⟩
    · cases e
  · split at e
    · next hl =>
      cases e
      obtain ⟨p1, x1, rfl, h1, h2⟩ := ra
      obtain ⟨p2, x2, rfl, h3, h4⟩ := rb
      refine op_catT pins s σ H _ _ v u Q I rx ry ⟨p1, p2, x1, x2, rfl, rfl, same_sqT sm h1, same_sqT sm h3, fun z => ?_, by rw [h2.length, h4.length]; exact hl, fun z => ?_, fun _ p hp => ?_⟩
      · subst z; have := h2.length; simp at this
      · subst z; have := h4.length; simp at this
      · have gr := Grow.new (.tup (x1 ++ x2)) sm hp
        exact q _ _ _ gr ⟨p, _, rfl, SqT.of upd_same, Reps.mono gr.sF (h2.append h4)⟩
    · cases e
  · cases e
noncomputable def gAdd : T → T → Option T := gOr (gI (fun _ _ => True) fun i j => .int (i + j)) gAddS
theorem ot_add : OpT X (binaryOp .Add) gAdd := OpT.or (opT_I0 op_add fun _ _ _ _ => rfl) ot_addS
theorem gAdd_int {i j : Int} : gAdd (.int i) (.int j) = some (.int (i + j)) := rfl
theorem gAdd_lst {xs ys : List T} (h : xs.length + ys.length ≤ sizeLine) : gAdd (.lst xs) (.lst ys) = some (.lst (xs ++ ys)) := by
  show gAddS (.lst xs) (.lst ys) = _
  simp only [gAddS, if_pos h]
theorem gAdd_tup {x y : T} {xs ys : List T} (h : (x :: xs).length + (y :: ys).length ≤ sizeLine) : gAdd (.tup (x :: xs)) (.tup (y :: ys)) = some (.tup (x :: xs ++ y :: ys)) := by
  show gAddS (.tup (x :: xs)) (.tup (y :: ys)) = _
  simp only [gAddS, if_pos h]
theorem gAdd_str {x y : Str} (h : x.length + y.length ≤ sizeLine) : gAdd (.str x) (.str y) = some (.str (x ++ y)) := by
  show gAddS (.str x) (.str y) = _
  simp only [gAddS, if_pos h]
noncomputable def gNeg : T → Option T
  | .int i => some (.int (-i))
  | _ => none
theorem ut_neg : UnT X (unaryOp .USub) gNeg := by
  intro pins s σ H x v Q I rx ⟨F, a, t, sm, ra, e, q⟩
  unfold gNeg at e
  split at e
  · cases e; cases ra
    exact un_neg pins s σ H _ v Q I rx ⟨_, rfl, q F H _ (Grow.refl sm) rfl⟩
  · cases e
mutual
noncomputable def toP : T → Option PyData
  | .non => some .none
  | .bl b => some (.bool b)
  | .int i => some (.int i)
  | .str x => some (.str x)
  | .tup ts => (toPs ts).map .tuple
  | .lst ts => (toPs ts).map .list
  | .scr ts => (toPs ts).map .list
  | .ty _ => none
  | .dic => none
  | .obj _ _ _ => none
  | .ptr _ => none
  | .exc _ _ _ => none
noncomputable def toPs : List T → Option (List PyData)
  | [] => some []
  | t :: ts => (toP t).bind fun d => (toPs ts).bind fun ds => some (d :: ds)
end
mutual
theorem reads_of (I : Inv X pins σ H s) (sm : Same F H) : ∀ {t : T} {d : PyData} {v : V} {u : Value}, toP t = some d → Rep X.K F t v → RelV v u → ∃ as, Reads s.heap u d as
  | .non, d, v, u, e, r, ru => by cases r; cases e; cases ru; exact ⟨_, .none⟩
  | .bl b, d, v, u, e, r, ru => by cases r; cases e; cases ru; exact ⟨_, .bool _⟩
  | .int i, d, v, u, e, r, ru => by cases r; cases e; obtain ⟨t, rfl⟩ := ru; exact ⟨_, .int _ _⟩
  | .str x, d, v, u, e, r, ru => by cases r; cases e; obtain ⟨t, rfl⟩ := ru; exact ⟨_, .str _ _⟩
  | .ty _, d, v, u, e, r, ru => by cases e
  | .dic, d, v, u, e, r, ru => by cases e
  | .obj _ _ _, d, v, u, e, r, ru => by cases e
  | .ptr _, d, v, u, e, r, ru => by cases e
  | .exc _ _ _, d, v, u, e, r, ru => by cases e
  | .tup ts, d, v, u, e, r, ru => by
    obtain ⟨p, xs, rfl, h1, h2⟩ := r
    cases ru
    simp only [toP] at e
    cases e1 : toPs ts with
    | none => rw [e1] at e; cases e
    | some ds =>
      rw [e1] at e; cases e
      obtain ⟨its, rv, ⟨o, g1, g2, n, g3⟩, _⟩ := I.tuple (same_sqT sm h1)
      obtain ⟨as, q⟩ := readsAll_of I sm e1 h2 rv
      exact ⟨_, .tuple g1 g2 g3 q⟩
  | .lst ts, d, v, u, e, r, ru => by
    obtain ⟨p, xs, rfl, h1, h2⟩ := r
    cases ru
    simp only [toP] at e
    cases e1 : toPs ts with
    | none => rw [e1] at e; cases e
    | some ds =>
      rw [e1] at e; cases e
      obtain ⟨its, rv, ⟨o, n, g1, g2, _, g3⟩, _⟩ := I.list (SqL.of (sm _ _ h1))
      obtain ⟨as, q⟩ := readsAll_of I sm e1 h2 rv
      exact ⟨_, .list g1 g2 g3 q⟩
  | .scr ts, d, v, u, e, r, ru => by
    obtain ⟨p, xs, rfl, h1, h2⟩ := r
    cases ru
    simp only [toP] at e
    cases e1 : toPs ts with
    | none => rw [e1] at e; cases e
    | some ds =>
      rw [e1] at e; cases e
      obtain ⟨its, rv, ⟨o, n, g1, g2, _, g3⟩, _⟩ := I.list (sm.seq h1)
      obtain ⟨as, q⟩ := readsAll_of I sm e1 h2 rv
      exact ⟨_, .list g1 g2 g3 q⟩
theorem readsAll_of (I : Inv X pins σ H s) (sm : Same F H) : ∀ {ts : List T} {ds : List PyData} {vs : List V} {us : List Value}, toPs ts = some ds → Reps X.K F ts vs → Vals vs us → ∃ as, ReadsAll s.heap us ds as
  | [], ds, vs, us, e, r, ru => by cases r; cases ru; cases e; exact ⟨_, .nil⟩
  | t :: ts, ds, vs, us, e, r, ru => by
    obtain ⟨v, rr, rfl, h1, h2⟩ := r
    cases ru with
    | cons r1 r2 =>
      simp only [toPs] at e
      obtain ⟨d, e1, e⟩ := bind_some e
      obtain ⟨ds', e2, e⟩ := bind_some e
      cases e
      obtain ⟨as, q1⟩ := reads_of I sm e1 h1 r1
      obtain ⟨bs, q2⟩ := readsAll_of I sm e2 h2 r2
      exact ⟨_, .cons q1 q2⟩
end
noncomputable def gEqW (neg : Bool) (a b : T) : Option T := (toP a).bind fun p => (toP b).bind fun q => if SeqAt.shaped p = true ∧ SeqAt.shaped q = true then some (.bl (if neg then !PyData.eqv p q else PyData.eqv p q)) else none
noncomputable abbrev gEq := gEqW false
noncomputable abbrev gNe := gEqW true
theorem ot_eq (hu : X.A.units + 64 < cLine) : OpT X (compareOp .Eq) gEq := by
  intro pins s σ H x y v u Q I rx ry ⟨F, a, b, t, sm, ra, rb, e, q⟩
  obtain ⟨d1, e1, e⟩ := bind_some e
  obtain ⟨d2, e2, e⟩ := bind_some e
  split at e
  · next hs =>
    cases e
    obtain ⟨as, q1⟩ := reads_of I sm e1 ra rx
    obtain ⟨bs, q2⟩ := reads_of I sm e2 rb ry
    exact SeqAt.compareEq_shaped q1 q2 hs.1 hs.2 hu ⟨.bl _, H, I, rfl, q F H _ (Grow.refl sm) rfl⟩
  · cases e
theorem ot_ne (hu : X.A.units + 64 < cLine) : OpT X (compareOp .NotEq) gNe := by
  intro pins s σ H x y v u Q I rx ry ⟨F, a, b, t, sm, ra, rb, e, q⟩
  obtain ⟨d1, e1, e⟩ := bind_some e
  obtain ⟨d2, e2, e⟩ := bind_some e
  split at e
  · next hs =>
    cases e
    obtain ⟨as, q1⟩ := reads_of I sm e1 ra rx
    obtain ⟨bs, q2⟩ := reads_of I sm e2 rb ry
    exact SeqAt.compareNe_shaped q1 q2 hs.1 hs.2 hu ⟨.bl _, H, I, rfl, q F H _ (Grow.refl sm) rfl⟩
  · cases e
noncomputable def isNon : T → Bool
  | .non => true
  | _ => false
noncomputable def gIs : T → T → Option T
  | a, .non => some (.bl (isNon a))
  | .bl c, .bl d => some (.bl (c == d))
  | _, _ => none
theorem isNon_rep {K : PySem.W.Frag} {F : Hp} {t : T} {v : V} (r : Rep K F t v) : decide (v = .non) = isNon t := by
  cases t with
  | non => cases r; rfl
  | bl _ => cases r; rfl
  | int _ => cases r; rfl
  | str _ => cases r; rfl
  | ty _ => cases r; rfl
  | tup _ => obtain ⟨p, xs, rfl, _⟩ := r; rfl
  | lst _ => obtain ⟨p, xs, rfl, _⟩ := r; rfl
  | scr _ => obtain ⟨p, xs, rfl, _⟩ := r; rfl
  | dic => obtain ⟨p, rfl, _⟩ := r; rfl
  | obj _ _ _ => obtain ⟨p, _, _, rfl, _⟩ := r; rfl
  | ptr _ => rw [show v = _ from r]; rfl
  | exc _ _ _ => obtain ⟨p, _, rfl, _⟩ := r; rfl
theorem ot_is : OpT X (compareOp .Is) gIs := by
  intro pins s σ H x y v u Q I rx ry ⟨F, a, b, t, sm, ra, rb, e, q⟩
  unfold gIs at e
  split at e
  · cases e; cases rb
    exact op_isN pins s σ H _ _ v u Q I rx ry ⟨rfl, by rw [isNon_rep ra]; exact q F H _ (Grow.refl sm) rfl⟩
  · cases e; cases ra; cases rb; cases rx; cases ry
    exact is_bool ⟨.bl _, H, I, rfl, q F H _ (Grow.refl sm) rfl⟩
  · cases e
noncomputable def gIx : T → T → Option T
  | .lst ts, .int i => atI ts i
  | .scr ts, .int i => atI ts i
  | .tup ts, .int i => atI ts i
  | .str x, .int i => if x.length ≤ sizeLine then (atI x.cps.toList i).map fun c => .str ⟨#[c]⟩ else none
  | _, _ => none
theorem atI_rep {K : PySem.W.Frag} {F : Hp} {ts : List T} {vs : List V} {i : Int} {t : T} (r : Reps K F ts vs) (e : atI ts i = some t) : ∃ v, atI vs i = some v ∧ Rep K F t v := by
  unfold atI at e ⊢
  rw [r.length]
  obtain ⟨j, e1, e2⟩ := bind_some e
  obtain ⟨v, g1, g2⟩ := r.get e2
  exact ⟨v, by rw [e1]; exact g1, g2⟩
theorem xt_ix : IxR X (rT2 X.K gIx) := by
  intro value slice pins s σ H x y v u Q I rx ry ⟨F, a, b, t, sm, ra, rb, e, q⟩ hs
  unfold gIx at e
  split at e
  · obtain ⟨p, xs, rfl, h1, h2⟩ := ra
    cases rb
    obtain ⟨w, g1, g2⟩ := atI_rep h2 e
    exact ix_list value slice pins s σ H _ _ v u Q I rx ry ⟨p, xs, _, w, rfl, rfl, SqL.of (sm _ _ h1), g1, q F H _ (Grow.refl sm) g2⟩ hs
  · obtain ⟨p, xs, rfl, h1, h2⟩ := ra
    cases rb
    obtain ⟨w, g1, g2⟩ := atI_rep h2 e
    exact ix_list value slice pins s σ H _ _ v u Q I rx ry ⟨p, xs, _, w, rfl, rfl, sm.seq h1, g1, q F H _ (Grow.refl sm) g2⟩ hs
  · obtain ⟨p, xs, rfl, h1, h2⟩ := ra
    cases rb
    obtain ⟨w, g1, g2⟩ := atI_rep h2 e
    exact ix_tup value slice pins s σ H _ _ v u Q I rx ry ⟨p, xs, _, w, rfl, rfl, same_sqT sm h1, g1, q F H _ (Grow.refl sm) g2⟩ hs
  · split at e
    · next hl =>
      cases ra; cases rb
      cases e1 : atI (Str.cps _).toList _ with
      | none => rw [e1] at e; cases e
      | some c =>
        rw [e1] at e; cases e
        exact ix_str value slice pins s σ H _ _ v u Q I rx ry ⟨_, _, c, rfl, rfl, hl, e1, q F H _ (Grow.refl sm) rfl⟩ hs
    · cases e
  · cases e
theorem callT_of (h : CallR X f r) (i : ∀ vs H Q, rTs X.K g vs H Q → r vs H Q) : CallT X f g := fun pins s σ H xs us Q I rx q => h pins s σ H xs us Q I rx (i _ _ _ q)
noncomputable def dLen : List T → Option T
  | [.lst ts] => some (.int ts.length)
  | [.scr ts] => some (.int ts.length)
  | [.tup ts] => some (.int ts.length)
  | [.str x] => if x.length ≤ sizeLine then some (.int x.length) else none
  | _ => none
theorem ct_len : CallT X (.builtin "len") dLen := callT_of (CallR.or call_len_seq call_len_str) fun vs H Q hq__ => by
  obtain ⟨F, ts, t, sm, r, e, q⟩ := hq__
  unfold dLen at e
  split at e
  · obtain ⟨v, rr, rfl, ⟨p, xs, rfl, h1, h2⟩, rfl⟩ := r
    cases e
    exact .inl ⟨p, xs, rfl, .inl (SqL.of (sm _ _ h1)), by rw [h2.length]; exact q F H _ (Grow.refl sm) rfl⟩
  · obtain ⟨v, rr, rfl, ⟨p, xs, rfl, h1, h2⟩, rfl⟩ := r
    cases e
    exact .inl ⟨p, xs, rfl, .inl (sm.seq h1), by rw [h2.length]; exact q F H _ (Grow.refl sm) rfl⟩
  · obtain ⟨v, rr, rfl, ⟨p, xs, rfl, h1, h2⟩, rfl⟩ := r
    cases e
    exact .inl ⟨p, xs, rfl, .inr (same_sqT sm h1), by rw [h2.length]; exact q F H _ (Grow.refl sm) rfl⟩
  · split at e
    · next hl =>
      obtain ⟨v, rr, rfl, h1, rfl⟩ := r
      cases h1; cases e
      exact .inr ⟨_, rfl, hl, q F H _ (Grow.refl sm) rfl⟩
    · cases e
  · cases e
noncomputable def dAbs : List T → Option T
  | [.int i] => some (.int (if i < 0 then -i else i))
  | _ => none
theorem ct_abs : CallT X (.builtin "abs") dAbs := callT_of call_abs fun vs H Q hq__ => by
  obtain ⟨F, ts, t, sm, r, e, q⟩ := hq__
  unfold dAbs at e
  split at e
  · obtain ⟨v, rr, rfl, h1, rfl⟩ := r
    cases h1; cases e
    exact ⟨_, rfl, q F H _ (Grow.refl sm) rfl⟩
  · cases e
noncomputable def dMax : List T → Option T
  | [.int i, .int j] => some (.int (if j > i then j else i))
  | _ => none
noncomputable def dMin : List T → Option T
  | [.int i, .int j] => some (.int (if j < i then j else i))
  | _ => none
theorem ct_max (hc : X.calm = true) : CallT X (.builtin "max") dMax := callT_of (call_max2 hc) fun vs H Q hq__ => by
  obtain ⟨F, ts, t, sm, r, e, q⟩ := hq__
  unfold dMax at e
  split at e
  · obtain ⟨v, rr, rfl, h1, v2, r2, rfl, h2, rfl⟩ := r
    cases h1; cases h2; cases e
    exact ⟨_, _, rfl, q F H _ (Grow.refl sm) rfl⟩
  · cases e
theorem ct_min (hc : X.calm = true) : CallT X (.builtin "min") dMin := callT_of (call_min2 hc) fun vs H Q hq__ => by
  obtain ⟨F, ts, t, sm, r, e, q⟩ := hq__
  unfold dMin at e
  split at e
  · obtain ⟨v, rr, rfl, h1, v2, r2, rfl, h2, rfl⟩ := r
    cases h1; cases h2; cases e
    exact ⟨_, _, rfl, q F H _ (Grow.refl sm) rfl⟩
  · cases e
noncomputable def dInt : List T → Option T
  | [.int i] => some (.int i)
  | [.bl c] => some (.int (if c then 1 else 0))
  | _ => none
theorem ct_int : CallT X (.type "int") dInt := callT_of call_int1 fun vs H Q hq__ => by
  obtain ⟨F, ts, t, sm, r, e, q⟩ := hq__
  unfold dInt at e
  split at e
  · obtain ⟨v, rr, rfl, h1, rfl⟩ := r
    cases h1; cases e
    exact .inl ⟨_, rfl, q F H _ (Grow.refl sm) rfl⟩
  · obtain ⟨v, rr, rfl, h1, rfl⟩ := r
    cases h1; cases e
    exact .inr ⟨_, rfl, q F H _ (Grow.refl sm) rfl⟩
  · cases e
noncomputable def dStr : List T → Option T
  | [.int i] => if i.natAbs.log2 < 1920 then some (.str (toString i)) else none
  | _ => none
theorem ct_str : CallT X (.type "str") dStr := callT_of call_str_int fun vs H Q hq__ => by
  obtain ⟨F, ts, t, sm, r, e, q⟩ := hq__
  unfold dStr at e
  split at e
  · split at e
    · next hl =>
      obtain ⟨v, rr, rfl, h1, rfl⟩ := r
      cases h1; cases e
      exact ⟨_, rfl, hl, q F H _ (Grow.refl sm) rfl⟩
    · cases e
  · cases e
noncomputable def tyN : T → Option String
  | .non => some "NoneType"
  | .bl _ => some "bool"
  | .int _ => some "int"
  | .str _ => some "str"
  | .tup _ => some "tuple"
  | .lst _ => some "list"
  | .scr _ => some "list"
  | .dic => some "dict"
  | .obj _ _ _ => none
  | .ptr _ => none
  | .exc _ _ _ => none
  | .ty _ => none
noncomputable def kinds : List String := ["int", "bool", "str", "list", "tuple", "dict"]
noncomputable def isK (a c : String) : Option Bool := if c ∈ kinds then some (a == c || (a == "bool" && c == "int")) else none
noncomputable def isKs (a : String) : List T → Option Bool
  | [] => some false
  | .ty c :: r => (isK a c).bind fun b => if b = true then some true else isKs a r
  | _ :: _ => none
theorem kit_of {K : PySem.W.Frag} {t : T} {a c : String} {b : Bool} (ha : tyN t = some a) (h : isK a c = some b) : PySem.W.kitOne K (.type a) (.type c) = some b := by
  have ha : a ∈ ["NoneType", "bool", "int", "str", "tuple", "list", "dict"] := by
    cases t <;> simp only [tyN] at ha <;> cases ha <;> simp
  unfold isK at h
  split at h
  · next hc =>
    cases h
    simp only [kinds, List.mem_cons, List.not_mem_nil, or_false] at hc ha
    rcases ha with rfl | rfl | rfl | rfl | rfl | rfl | rfl <;> rcases hc with rfl | rfl | rfl | rfl | rfl | rfl <;> rfl
  · cases h
theorem kits_of {K : PySem.W.Frag} {F : Hp} {t : T} {a : String} (ha : tyN t = some a) : ∀ {cs : List T} {vs : List V} {us : List Value} {b : Bool}, isKs a cs = some b → Reps K F cs vs → Vals vs us → PySem.W.kitAny K (.type a) us = some b
  | [], vs, us, b, h, r, ru => by cases r; cases ru; cases h; rfl
  | .ty c :: cs, vs, us, b, h, r, ru => by
    obtain ⟨v, rr, rfl, h1, h2⟩ := r
    cases h1
    cases ru with
    | cons r1 r2 =>
      cases r1
      obtain ⟨b', e1, h⟩ := bind_some h
      unfold PySem.W.kitAny
      rw [kit_of ha e1]
      cases b' with
      | true => rw [if_pos rfl] at h; exact h
      | false => rw [if_neg (by decide)] at h; exact kits_of ha h h2 r2
  | .non :: cs, vs, us, b, h, r, ru => by cases h
  | .bl _ :: cs, vs, us, b, h, r, ru => by cases h
  | .int _ :: cs, vs, us, b, h, r, ru => by cases h
  | .str _ :: cs, vs, us, b, h, r, ru => by cases h
  | .tup _ :: cs, vs, us, b, h, r, ru => by cases h
  | .lst _ :: cs, vs, us, b, h, r, ru => by cases h
  | .scr _ :: cs, vs, us, b, h, r, ru => by cases h
  | .dic :: cs, vs, us, b, h, r, ru => by cases h
  | .obj _ _ _ :: cs, vs, us, b, h, r, ru => by cases h
  | .ptr _ :: cs, vs, us, b, h, r, ru => by cases h
  | .exc _ _ _ :: cs, vs, us, b, h, r, ru => by cases h
theorem kitx_rep (I : Inv X pins σ H s) (sm : Same F H) (r : Rep X.K F t v) (ru : RelV v u) (ha : tyN t = some a) :
    ∃ Hh : Heap → Prop, PySem.W.KitX X.K u (.type a) Hh ∧ Hh s.heap ∧ u ≠ .builtin "__main__.__loader__#opaque" := by
  cases t with
  | non => cases r; cases ru; cases ha; exact ⟨_, PySem.W.kitx_none, True.intro, fun z => nomatch z⟩
  | bl _ => cases r; cases ru; cases ha; exact ⟨_, PySem.W.kitx_bool, True.intro, fun z => nomatch z⟩
  | int _ => cases r; obtain ⟨t, rfl⟩ := ru; cases ha; exact ⟨_, PySem.W.kitx_int, True.intro, fun z => nomatch z⟩
  | str _ => cases r; obtain ⟨t, rfl⟩ := ru; cases ha; exact ⟨_, PySem.W.kitx_str, True.intro, fun z => nomatch z⟩
  | ty _ => cases ha
  | tup _ =>
    obtain ⟨p, xs, rfl, h1, h2⟩ := r
    cases ru; cases ha
    obtain ⟨its, rv, ⟨o, g1, g2, n, g3⟩, _⟩ := I.tuple (same_sqT sm h1)
    exact ⟨_, PySem.W.kitx_tuple, ⟨o, g1, g2⟩, fun z => nomatch z⟩
  | lst _ =>
    obtain ⟨p, xs, rfl, h1, h2⟩ := r
    cases ru; cases ha
    obtain ⟨its, rv, ⟨o, n, g1, g2, _, g3⟩, _⟩ := I.list (SqL.of (sm _ _ h1))
    exact ⟨_, PySem.W.kitx_list, ⟨o, g1, g2⟩, fun z => nomatch z⟩
  | scr _ =>
    obtain ⟨p, xs, rfl, h1, h2⟩ := r
    cases ru; cases ha
    obtain ⟨its, rv, ⟨o, n, g1, g2, _, g3⟩, _⟩ := I.list (sm.seq h1)
    exact ⟨_, PySem.W.kitx_list, ⟨o, g1, g2⟩, fun z => nomatch z⟩
  | dic =>
    obtain ⟨p, rfl, h1⟩ := r
    cases ru; cases ha
    obtain ⟨_, _, vs, _, o, es, ep, h1, h2, _⟩ := (show ObjOk X.prog X.w H s.heap p (.dK []) from I.hok p _ (sm _ _ h1))
    exact ⟨_, PySem.W.kitx_dict, ⟨o, h1, h2.1⟩, fun z => nomatch z⟩
  | obj _ _ _ => cases ha
  | ptr _ => cases ha
  | exc _ _ _ => cases ha
noncomputable def dIsi : List T → Option T
  | [t, .ty c] => (tyN t).bind fun a => (isK a c).bind fun b => some (.bl b)
  | [t, .tup cs] => (tyN t).bind fun a => (isKs a cs).bind fun b => some (.bl b)
  | _ => none
theorem ct_isi : CallT X (.builtin "isinstance") dIsi := by
  intro pins s σ H xs us Q I rx ⟨F, ts, t, sm, r, e, q⟩
  unfold dIsi at e
  split at e
  · obtain ⟨a, e1, e⟩ := bind_some e
    obtain ⟨b, e2, e⟩ := bind_some e
    cases e
    obtain ⟨v, rr, rfl, h1, v2, r2, rfl, h2, rfl⟩ := r
    cases h2
    obtain ⟨u1, u2, rfl, ra, rb⟩ := Vals.two rx
    cases rb
    obtain ⟨Hh, Z, hh, hn⟩ := kitx_rep I sm h1 ra e1
    exact PySem.W.kia_one Z I.kIn hh (kit_of e1 e2) hn fun tk => ⟨.bl b, H, I.tok tk, rfl, q F H _ (Grow.refl sm) rfl⟩
  · obtain ⟨a, e1, e⟩ := bind_some e
    obtain ⟨b, e2, e⟩ := bind_some e
    cases e
    obtain ⟨v, rr, rfl, h1, v2, r2, rfl, ⟨p, xs, rfl, h3, h4⟩, rfl⟩ := r
    obtain ⟨u1, u2, rfl, ra, rb⟩ := Vals.two rx
    cases rb
    obtain ⟨Hh, Z, hh, hn⟩ := kitx_rep I sm h1 ra e1
    obtain ⟨its, rv, ⟨o, g1, g2, n, g3⟩, _⟩ := I.tuple (same_sqT sm h3)
    obtain ⟨oc, od, odt, osl⟩ := o
    dsimp only at g2 g3
    subst g2 g3
    exact PySem.W.kia_tup Z I.kIn hh g1 (kits_of e1 e2 h4 rv) hn fun tk => ⟨.bl b, H, I.tok tk, rfl, q F H _ (Grow.refl sm) rfl⟩
  · cases e
end
end TM

namespace TM
open PySem PySem.Spec PyProof.Rows L2

section
variable {X : Cx} {pos : Pos}
noncomputable def tDic : TE := fun _ H Q => ∀ p, H p = none → Q (.ref p) (upd H p (.dK []))
theorem pe_dic (hb : ∀ pins σ H s, Inv X pins σ H s → sysModules < s.heap.objs.size) : PE X (.Dict [] [] pos) tDic := fun pins s σ H Q I h =>
  wpAny_Dict_empty ⟨.ref s.heap.objs.size, _, I.laid (a := s.heap.objs.size) (o := .dK []) (t' := s.toks) (fun _ _ z => Heap.get?_push_of_some _ z) (Nat.le_refl _)
    ⟨Nat.zero_le _, beq_eq_false_iff_ne.mpr (Nat.ne_of_gt (hb _ _ _ _ I)), [], .nil, Heap.DictOf.new s.heap⟩, rfl, h _ I.fresh⟩
theorem big_of (I : Inv X pins σ H s) : sysModules < s.heap.objs.size := by
  obtain ⟨mb, h1, _⟩ := I.mod.blt
  have h2 := (h1.keeps I.bk).lt
  have h3 : (sysModules : Nat) < builtinsNs ∨ ¬ (sysModules : Nat) < builtinsNs := Nat.lt_or_ge _ _ |>.imp id (fun h => Nat.not_lt.mpr h)
  have h4 := (I.mod.glob.keeps I.bk).lt
  first
    | exact Nat.lt_of_le_of_lt (by decide) h2
    | exact Nat.lt_of_le_of_lt (by decide) h4
noncomputable def fDic : FE := fun τ => some (.dic, τ)
theorem se_dic : SE X (.Dict [] [] pos) fDic := fun F₀ H₀ => PE.weak (pe_dic fun _ _ _ _ I => big_of I) fun σ H Q hq__ => by
  obtain ⟨F, τ, t, τ', E, e1, q⟩ := hq__
  cases e1
  intro p hp
  have gr := Grow.new (.dK []) E.g.fh hp
  exact q _ _ _ (E.grow gr) gr.sF ⟨p, rfl, upd_same⟩

noncomputable abbrev FO := TEnv → Option (Option Int × TEnv)
noncomputable def tO (K : PySem.W.Frag) (F₀ H₀ : Hp) (f : FO) : TO := fun σ H Q => ∃ F τ o τ', EnvOk K F₀ H₀ F H σ τ ∧ f τ = some (o, τ') ∧ ∀ F' H', EnvOk K F₀ H₀ F' H' σ τ' → Same F F' → Q o H'
noncomputable def SO (X : Cx) (e : Option Expr) (f : FO) : Prop := ∀ F₀ H₀, PO X e (tO X.K F₀ H₀ f)
noncomputable def fNoPart : FO := fun τ => some (none, τ)
noncomputable def fPart (f : FE) : FO := fun τ => (f τ).bind fun p => match p.1 with | .int i => some (some i, p.2) | _ => none
theorem PO.weak {t t' : TO} (h : PO X e t) (i : ∀ σ H Q, t' σ H Q → t σ H Q) : PO X e t' := fun pins s σ H Q I q => h pins s σ H Q I (i σ H Q q)
theorem so_none : SO X none fNoPart := fun F₀ H₀ => PO.weak po_none fun σ H Q hq__ => by
  obtain ⟨F, τ, t, τ', E, e1, q⟩ := hq__
  cases e1
  exact q F H E (Same.refl _)
theorem so_some (h : SE X e f) : SO X (some e) (fPart f) := fun F₀ H₀ => PO.weak (po_some (h F₀ H₀)) fun σ H Q hq__ => by
  obtain ⟨F, τ, t, τ', E, e1, q⟩ := hq__
  obtain ⟨⟨x, τ1⟩, e2, e1⟩ := bind_some e1
  dsimp only at e1
  split at e1
  · cases e1
    exact ⟨F, τ, _, _, E, e2, fun F' H' v E' s' r' => by cases r'; exact ⟨_, rfl, q F' H' E' s'⟩⟩
  · cases e1
noncomputable def cutT (xs : List T) (lo hi : Option Int) : List T := (xs.drop (HT.sIx xs.length 0 lo)).take (HT.sIx xs.length xs.length hi - HT.sIx xs.length 0 lo)
noncomputable def gSl (t : T) (lo hi : Option Int) : Option T := match t with
  | .lst xs => some (.lst (cutT xs lo hi))
  | .scr xs => some (.lst (cutT xs lo hi))
  | .tup xs => if HT.sIx xs.length 0 lo = 0 ∧ HT.sIx xs.length xs.length hi = xs.length then none else some (.tup (cutT xs lo hi))
  | _ => none
noncomputable def fSl (f : FE) (fl fh : FO) : FE := fun τ => (f τ).bind fun p => (fl p.2).bind fun q => (fh q.2).bind fun r => (gSl p.1 q.1 r.1).bind fun t => some (t, r.2)
theorem ss_append (i : Nat) {p1 p2 p3 : Pos} (hv : PE X (.Name x p1) (tVar i)) (he : SE X e f)
    (hbase : attributeBase (.Name x p1) "append" X.env (eval (.Name x p1) X.env) = eval (.Name x p1) X.env := by rfl)
    (hfew : ((backTo p3 (starEach [e] X.env)).all (fun x => !x.1) && (backToKw p3 (keywordEach [] X.env)).all (fun x => x.1.isSome) && decide ([e].length + ([] : List Keyword).length + (if ([] : List Keyword).isEmpty then 0 else 1) < 30)) = true := by rfl)
    (hline : (p2.endLine == p3.line) = true := by rfl) (hs : starEach [e] X.env = (false, eval e X.env) :: starEach [] X.env := by rfl) (hpl : (backTo p3 (starEach [] X.env)).any (·.1) = false := by rfl)
    (hsw : swapsWith (.Call (.Attribute (.Name x p1) "append" p2) [e] [] p3) none pos.line X.env = pure false := by rfl) :
    SS X (.Expr (.Call (.Attribute (.Name x p1) "append" p2) [e] [] p3) pos) (fApp i f) := fun F₀ H₀ =>
  PS.weak (ps_expr (pe_bm PySem.F.plainAttrs_list PySem.F.slot_list_append PySem.F.type_list_append mt_append hv (pa_cons (he F₀ H₀) pa_nil hs) hbase hfew hline hs hpl) hsw) fun D σ H hq__ => by
    obtain ⟨F, τ, r, E, e1, q⟩ := hq__
    unfold fApp at e1
    split at e1
    · next ts0 h0 =>
      obtain ⟨⟨t, τ1⟩, e2, e1⟩ := bind_some e1
      dsimp only at e1
      split at e1
      · next ts h1 =>
        split at e1
        · next hz =>
          cases e1
          obtain ⟨v, g1, p, vs, rfl, g2, g3, g4, g5⟩ := E.sl i _ h0
          refine ⟨_, g1, .inl ⟨rfl, vs, SqL.of g2⟩, F, τ, t, τ1, E, e2, fun F' H' w E' s' r' => ?_⟩
          obtain ⟨v', k1, p', vs', rfl, k2, k3, k4, k5⟩ := E'.sl i _ h1
          rw [g1] at k1; cases k1
          exact ⟨p, vs', w, rfl, rfl, k2, by rw [k5.length]; exact hz, q F' _ σ (E'.turnOwn h1 g1 (k5.append (.one r'))) s'⟩
        · cases e1
      · cases e1
    · cases e1

noncomputable def smallR (a b c : Int) : Prop := (0 ≤ a ∧ a < 2 ^ 62) ∧ (0 ≤ b ∧ b < 2 ^ 62) ∧ (1 ≤ c ∧ c < 2 ^ 29)
noncomputable instance (a b c : Int) : Decidable (smallR a b c) := inferInstanceAs (Decidable ((_ ∧ _) ∧ (_ ∧ _) ∧ _ ∧ _))
end
end TM

namespace TM
open PySem PySem.Spec PyProof.Rows L2
noncomputable def ItAt (b : Bool) (h : Heap) (it a : Addr) (i : Nat) : Prop := match b with
  | true => h.IsListIter it a i
  | false => h.IsTupleIter it a i
noncomputable def SqAt (b : Bool) (h : Heap) (a : Addr) (xs : Array Value) : Prop := match b with
  | true => h.IsList a xs
  | false => h.IsTuple a xs
theorem ItAt.ext {b : Bool} {h h' : Heap} {i : Nat} (x : ItAt b h it a i) (k : ∀ o, h.get? it = some o → h'.get? it = some o) : ItAt b h' it a i := by
  cases b with
  | true => obtain ⟨o, e, r⟩ := x; exact ⟨o, k o e, r⟩
  | false => obtain ⟨o, e, r⟩ := x; exact ⟨o, k o e, r⟩
theorem SqAt.ext {b : Bool} {h h' : Heap} (x : SqAt b h a xs) (k : ∀ o, h.get? a = some o → h'.get? a = some o) : SqAt b h' a xs := by
  cases b with
  | true => obtain ⟨o, e, r⟩ := x; exact ⟨o, k o e, r⟩
  | false => obtain ⟨o, e, r⟩ := x; exact ⟨o, k o e, r⟩
theorem ItAt.obj {b : Bool} {i : Nat} (x : ItAt b h it a i) : ∃ o, h.get? it = some o ∧ ∀ v, o.data ≠ .cell v := by
  cases b with
  | true => obtain ⟨o, e, _, d⟩ := x; exact ⟨o, e, fun v z => by rw [d] at z; cases z⟩
  | false => obtain ⟨o, e, _, d⟩ := x; exact ⟨o, e, fun v z => by rw [d] at z; cases z⟩
section
variable {prog : Program} {w : World} {A : Around} {E : Value → Shared → Prop} {s : Shared}
theorem nextOf_item {b : Bool} {i : Nat} {Q : Value → Shared → Prop} (h1 : ItAt b s.heap it a i) (h2 : SqAt b s.heap a xs) (hx : xs[i]? = some x)
    (hQ : ∀ h', ItAt b h' it a (i + 1) → Heap.SameBut it s.heap h' → Q x { s with heap := h' }) : wpAny (model prog w) A (Builtin.SmallTypes.nextOf (.ref it)) Q E s := by
  cases b with
  | true => exact wpAny_nextOf_list_item h1 h2 hx hQ
  | false =>
    have h1' : s.heap.IsTupleIter it a i := h1
    obtain ⟨o, ho, hc, hd⟩ := id h1'
    obtain ⟨ol, hol, _, nl, hdl⟩ := (show s.heap.IsTuple a xs from h2)
    unfold Builtin.SmallTypes.nextOf
    refine wpAny_bind (wpAny_callSpecial?_slot (name := Str.ofString "__next__") h1'.typeIs F.slot_tuple_iterator_next (wpAny_call_entry F.slot_tuple_iterator_next h1'.typeIs F.entry_tuple_iterator_next (?_ : wpAny _ _ (field (.ref it) 0 >>= _) _ _ s) (F.args_tuple_iterator_next_1 _)))
    refine wpAny_bind (wpAny_field ho hd (x := .ref a) rfl (?_ : wpAny _ _ (if (Value.ref a == Value.none) = true then _ else _) _ _ s))
    rw [if_neg (show ¬ ((Value.ref a == Value.none) = true) from Bool.false_ne_true)]
    refine (wpAny_bind (wpAny_field ho hd (x := .int i 0) rfl ?_) : wpAny _ _ (field (.ref it) 1 >>= _) _ _ s)
    refine wpAny_bind (wpAny_seqItems (a := a) hol hdl ?_)
    simp only [Int.toNat_natCast, hx]
    refine wpAny_bind (wpAny_setField ho hd (by simp) (wpAny_pure ⟨x, rfl, wpAny_pure (hQ _ ⟨_, Heap.get?_update_self _ ho (Obj.isFreed_of_fields (Obj.data_mapFields hd _)), (Obj.cls_mapFields ..).trans hc, ?_⟩ (Heap.SameBut.update ..))⟩))
    rw [Obj.data_mapFields hd] <;> simp [rawInt]
theorem nextOf_end {b : Bool} {i : Nat} (hh : A.handled = none) (h1 : ItAt b s.heap it a i) (h2 : SqAt b s.heap a xs) (hx : xs[i]? = none)
    (hE : ∀ h' e, Heap.ExtBut it s.heap h' → (∃ o, h'.get? e = some o ∧ o.cls = .type "StopIteration") → E (.ref e) { s with heap := h' }) : wpAny (model prog w) A (Builtin.SmallTypes.nextOf (.ref it)) Q E s := by
  cases b with
  | true => exact wpAny_nextOf_list_end hh h1 h2 hx hE
  | false =>
    have h1' : s.heap.IsTupleIter it a i := h1
    obtain ⟨o, ho, hc, hd⟩ := id h1'
    obtain ⟨ol, hol, _, nl, hdl⟩ := (show s.heap.IsTuple a xs from h2)
    unfold Builtin.SmallTypes.nextOf
    refine wpAny_bind (wpAny_callSpecial?_slot (name := Str.ofString "__next__") h1'.typeIs F.slot_tuple_iterator_next (wpAny_call_entry F.slot_tuple_iterator_next h1'.typeIs F.entry_tuple_iterator_next (?_ : wpAny _ _ (field (.ref it) 0 >>= _) _ _ s) (F.args_tuple_iterator_next_1 _)))
    refine wpAny_bind (wpAny_field ho hd (x := .ref a) rfl (?_ : wpAny _ _ (if (Value.ref a == Value.none) = true then _ else _) _ _ s))
    rw [if_neg (show ¬ ((Value.ref a == Value.none) = true) from Bool.false_ne_true)]
    refine (wpAny_bind (wpAny_field ho hd (x := .int i 0) rfl ?_) : wpAny _ _ (field (.ref it) 1 >>= _) _ _ s)
    refine wpAny_bind (wpAny_seqItems (a := a) hol hdl ?_)
    simp only [Int.toNat_natCast, hx]
    refine wpAny_bind (wpAny_rule (wpAny_bind (wpAny_setField ho hd (by simp) (wpAny_bind (m := newExc (.type "StopIteration") []) ?_))))
    simp only [newExc, newTuple]
    refine wpAny_bind (wpAny_newObj_type (wpAny_bind (m := firstArgMember _ _) (wpAny_of_eq (a := Value.none) (by first | rfl | (simp only [firstArgMember]; rfl)) (wpAny_newObj_type ?_ (by size_fits)))) (by size_fits))
    simp only [raiseNew]
    refine wpAny_bind (wpAny_handled ?_)
    first | rw [show A.in1.handled = none from hh] | rw [hh]
    exact wpAny_bind (wpAny_pure (wpAny_throw (hE _ _ (((Heap.SameBut.update ..).extBut.push _).push _) ⟨_, Heap.get?_push_size _ rfl, rfl⟩)))

variable {z TI TO i1 i2 l1 l2 : Addr} {k : Nat} {xs ys : Array Value} {x y a b : Value} {c1 c2 : Bool}
theorem zip_item {Q : Value → Shared → Prop} (D : ZipApart z TI TO i1 i2 l1 l2) (hz : IsZip s.heap z TI TO .none) (hI : IsPair s.heap TI (.ref i1) (.ref i2)) (hO : IsPair s.heap TO a b)
    (h1 : ItAt c1 s.heap i1 l1 k) (h2 : ItAt c2 s.heap i2 l2 k) (g1 : SqAt c1 s.heap l1 xs) (g2 : SqAt c2 s.heap l2 ys) (hx : xs[k]? = some x) (hy : ys[k]? = some y)
    (hQ : ∀ h', IsZip h' z TI TO (rawInt s.heap.objs.size) → IsPair h' TO x y → ItAt c1 h' i1 l1 (k + 1) → ItAt c2 h' i2 l2 (k + 1) → IsPair h' s.heap.objs.size x y →
      (∀ c o, c ≠ z → c ≠ TO → c ≠ i1 → c ≠ i2 → s.heap.get? c = some o → h'.get? c = some o) → Q (.ref s.heap.objs.size) { s with heap := h' }) :
    wpAny (model prog w) A (Builtin.«zip.__next__» ⟨[.ref z], []⟩) (fun fin s' => ∃ v, fin = .done (.ret v) ∧ Q v s') E s := by
  refine (wpAny_bind (wpAny_field hz rfl (x := .bool false) rfl ?_) : wpAny _ _ (field (.ref z) 2 >>= _) _ _ _)
  refine (wpAny_bind (wpAny_field hz rfl (x := .ref TI) rfl ?_) : wpAny _ _ (field (.ref z) 3 >>= _) _ _ _)
  refine wpAny_bind (wpAny_seqItems hI rfl ?_)
  refine (wpAny_bind ?_ : wpAny _ _ (Builtin.SmallTypes.ownedTupleIsFree (.ref z) >>= _) _ _ _)
  unfold Builtin.SmallTypes.ownedTupleIsFree
  refine wpAny_bind (wpAny_field hz rfl (x := .none) rfl (wpAny_pure ?_))
  simp only [if_true]
  refine wpAny_bind (wpAny_rule (wpAny_bind (wpAny_field hz rfl (x := .ref TO) rfl (wpAny_bind (wpAny_setField_rec hz (by simp) fun ha za sa => ?_)))))
  replace za : IsZip ha z TI TO .ellipsis := za
  refine wpAny_bind ?_
  simp only [List.zipIdx_cons, List.zipIdx_nil, List.forIn_cons, List.forIn_nil]
  refine wpAny_bind (wpAny_bind (wpAny_onRaise (?_ : wpAny _ _ (Builtin.SmallTypes.nextOf (.ref i1) >>= _) _ _ _)))
  refine wpAny_bind (nextOf_item (h1.ext fun o e => sa.extBut _ _ D.i1z e) (g1.ext fun o e => sa.extBut _ _ D.l1z e) hx fun hb kb sb => wpAny_pure ?_)
  have Ob : IsPair hb TO a b := sb.extBut _ _ D.TOi1 (sa.extBut _ _ D.TOz hO)
  refine wpAny_bind (wpAny_seqItems Ob rfl (wpAny_bind (wpAny_updateSeq_pair Ob fun hc Oc sc => wpAny_bind (wpAny_letGo (wpAny_pure ?_)))))
  replace Oc : IsPair hc TO x b := Oc
  refine wpAny_bind (wpAny_bind (wpAny_onRaise (?_ : wpAny _ _ (Builtin.SmallTypes.nextOf (.ref i2) >>= _) _ _ _)))
  refine wpAny_bind (nextOf_item (h2.ext fun o e => sc.extBut _ _ D.TOi2.symm (sb.extBut _ _ D.i12.symm (sa.extBut _ _ D.i2z e))) (g2.ext fun o e => sc.extBut _ _ D.l2TO (sb.extBut _ _ D.l2i1 (sa.extBut _ _ D.l2z e))) hy fun hd kd sd => wpAny_pure ?_)
  have Od : IsPair hd TO x b := sd.extBut _ _ D.TOi2 Oc
  refine wpAny_bind (wpAny_seqItems Od rfl (wpAny_bind (wpAny_updateSeq_pair Od fun he Oe se => wpAny_bind (wpAny_letGo (wpAny_pure (wpAny_pure ?_))))))
  replace Oe : IsPair he TO x y := Oe
  refine wpAny_bind (wpAny_seqItems Oe rfl (wpAny_bind (wpAny_newTuple ?_)))
  have ez : he.objs.size = s.heap.objs.size := by rw [se.1, sd.1, sc.1, sb.1, sa.1]
  have ze : IsZip he z TI TO .ellipsis := se.extBut _ _ D.TOz.symm (sd.extBut _ _ D.i2z.symm (sc.extBut _ _ D.TOz.symm (sb.extBut _ _ D.i1z.symm za)))
  have ke : ∀ c o, c ≠ z → c ≠ TO → c ≠ i1 → c ≠ i2 → s.heap.get? c = some o → he.get? c = some o := fun c o n1 n2 n3 n4 e => se.extBut _ _ n2 (sd.extBut _ _ n4 (sc.extBut _ _ n2 (sb.extBut _ _ n3 (sa.extBut _ _ n1 e))))
  have i1e : ItAt c1 he i1 l1 (k + 1) := kb.ext fun o e => se.extBut _ _ D.TOi1.symm (sd.extBut _ _ D.i12 (sc.extBut _ _ D.TOi1.symm e))
  have i2e : ItAt c2 he i2 l2 (k + 1) := kd.ext fun o e => se.extBut _ _ D.TOi2.symm e
  have zlt : z < he.objs.size := Heap.lt_size ze
  refine (wpAny_bind ?_ : wpAny _ _ (Builtin.SmallTypes.ownedTupleHandOut (.ref z) (.ref he.objs.size) >>= _) _ _ _)
  unfold Builtin.SmallTypes.ownedTupleHandOut
  have zf : IsZip (he.push { cls := .type "tuple", data := .seq #[x, y] }) z TI TO .ellipsis := Heap.get?_push_of_some _ ze
  refine wpAny_bind (wpAny_setField_rec zf (by simp) fun hg zg sg => ?_)
  replace zg : IsZip hg z TI TO (rawInt he.objs.size) := zg
  refine wpAny_setField_rec zg (by simp) fun hh zh sh => ?_
  replace zh : IsZip hh z TI TO (rawInt he.objs.size) := zh
  have up : ∀ c o, c ≠ z → he.get? c = some o → hh.get? c = some o := fun c o n e => sh.extBut _ _ n (sg.extBut _ _ n (Heap.get?_push_of_some _ e))
  have tp : IsPair hh he.objs.size x y := sh.extBut _ _ (Nat.ne_of_gt zlt) (sg.extBut _ _ (Nat.ne_of_gt zlt) (Heap.get?_push_size _ rfl))
  rw [ez] at zh tp
  refine wpAny_pure ⟨_, rfl, (?_ : Q (.ref he.objs.size) _)⟩
  rw [ez]
  exact hQ hh zh (up _ _ D.TOz Oe) (i1e.ext fun o e => up _ o D.i1z e) (i2e.ext fun o e => up _ o D.i2z e) tp fun c o n1 n2 n3 n4 e => up c o n1 (ke c o n1 n2 n3 n4 e)
theorem zip_end (hh : A.handled = none) (D : ZipApart z TI TO i1 i2 l1 l2) (hz : IsZip s.heap z TI TO .none) (hI : IsPair s.heap TI (.ref i1) (.ref i2)) (hO : IsPair s.heap TO a b)
    (h1 : ItAt c1 s.heap i1 l1 k) (h2 : ItAt c2 s.heap i2 l2 k) (g1 : SqAt c1 s.heap l1 xs) (g2 : SqAt c2 s.heap l2 ys) (hend : xs[k]? = none ∨ ys[k]? = none)
    (hE : ∀ h' e, (∀ c o, c ≠ z → c ≠ TO → c ≠ i1 → c ≠ i2 → s.heap.get? c = some o → h'.get? c = some o) → (∃ o, h'.get? e = some o ∧ o.cls = .type "StopIteration") → E (.ref e) { s with heap := h' }) :
    wpAny (model prog w) A (Builtin.«zip.__next__» ⟨[.ref z], []⟩) Q E s := by
  refine (wpAny_bind (wpAny_field hz rfl (x := .bool false) rfl ?_) : wpAny _ _ (field (.ref z) 2 >>= _) _ _ _)
  refine (wpAny_bind (wpAny_field hz rfl (x := .ref TI) rfl ?_) : wpAny _ _ (field (.ref z) 3 >>= _) _ _ _)
  refine wpAny_bind (wpAny_seqItems hI rfl ?_)
  refine (wpAny_bind ?_ : wpAny _ _ (Builtin.SmallTypes.ownedTupleIsFree (.ref z) >>= _) _ _ _)
  unfold Builtin.SmallTypes.ownedTupleIsFree
  refine wpAny_bind (wpAny_field hz rfl (x := .none) rfl (wpAny_pure ?_))
  simp only [if_true]
  refine wpAny_bind (wpAny_rule (wpAny_bind (wpAny_field hz rfl (x := .ref TO) rfl (wpAny_bind (wpAny_setField_rec hz (by simp) fun ha za sa => ?_)))))
  replace za : IsZip ha z TI TO .ellipsis := za
  refine wpAny_bind ?_
  simp only [List.zipIdx_cons, List.zipIdx_nil, List.forIn_cons, List.forIn_nil]
  refine wpAny_bind (wpAny_bind (wpAny_onRaise (?_ : wpAny _ _ (Builtin.SmallTypes.nextOf (.ref i1) >>= _) _ _ _)))
  cases hx : xs[k]? with
  | none =>
    refine wpAny_bind (nextOf_end hh (h1.ext fun o e => sa.extBut _ _ D.i1z e) (g1.ext fun o e => sa.extBut _ _ D.l1z e) hx fun hb e sb eo => ?_)
    obtain ⟨oe, ho, hc⟩ := eo
    have zb : IsZip hb z TI TO .ellipsis := sb _ _ D.i1z.symm za
    have ne : e ≠ z := fun q => by subst q; rw [zb] at ho; cases ho; simp at hc
    exact wpAny_setField_rec zb (by simp) fun hd _ sd => hE hd e (fun c o n1 _ n3 _ q => sd.extBut _ _ n1 (sb _ _ n3 (sa.extBut _ _ n1 q))) ⟨oe, sd.extBut _ _ ne ho, hc⟩
  | some x =>
    have hy : ys[k]? = none := by rcases hend with h | h; rw [hx] at h; cases h; exact h
    refine wpAny_bind (nextOf_item (h1.ext fun o e => sa.extBut _ _ D.i1z e) (g1.ext fun o e => sa.extBut _ _ D.l1z e) hx fun hb kb sb => wpAny_pure ?_)
    have Ob : IsPair hb TO a b := sb.extBut _ _ D.TOi1 (sa.extBut _ _ D.TOz hO)
    refine wpAny_bind (wpAny_seqItems Ob rfl (wpAny_bind (wpAny_updateSeq_pair Ob fun hc Oc sc => wpAny_bind (wpAny_letGo (wpAny_pure ?_)))))
    refine wpAny_bind (wpAny_bind (wpAny_onRaise (?_ : wpAny _ _ (Builtin.SmallTypes.nextOf (.ref i2) >>= _) _ _ _)))
    refine wpAny_bind (nextOf_end hh (h2.ext fun o e => sc.extBut _ _ D.TOi2.symm (sb.extBut _ _ D.i12.symm (sa.extBut _ _ D.i2z e))) (g2.ext fun o e => sc.extBut _ _ D.l2TO (sb.extBut _ _ D.l2i1 (sa.extBut _ _ D.l2z e))) hy fun hd e sd eo => ?_)
    obtain ⟨oe, ho, hk⟩ := eo
    have zd : IsZip hd z TI TO .ellipsis := sd _ _ D.i2z.symm (sc.extBut _ _ D.TOz.symm (sb.extBut _ _ D.i1z.symm za))
    have ne : e ≠ z := fun q => by subst q; rw [zd] at ho; cases ho; simp at hk
    exact wpAny_setField_rec zd (by simp) fun hf _ sf => hE hf e (fun c o n1 n2 n3 n4 q => sf.extBut _ _ n1 (sd _ _ n4 (sc.extBut _ _ n2 (sb.extBut _ _ n3 (sa.extBut _ _ n1 q))))) ⟨oe, sf.extBut _ _ ne ho, hk⟩
theorem zipNext_item {Q : Option Value → Shared → Prop} (D : ZipApart z TI TO i1 i2 l1 l2) (hz : IsZip s.heap z TI TO .none) (hI : IsPair s.heap TI (.ref i1) (.ref i2)) (hO : IsPair s.heap TO a b)
    (h1 : ItAt c1 s.heap i1 l1 k) (h2 : ItAt c2 s.heap i2 l2 k) (g1 : SqAt c1 s.heap l1 xs) (g2 : SqAt c2 s.heap l2 ys) (hx : xs[k]? = some x) (hy : ys[k]? = some y)
    (hQ : ∀ h', IsZip h' z TI TO (rawInt s.heap.objs.size) → IsPair h' TO x y → ItAt c1 h' i1 l1 (k + 1) → ItAt c2 h' i2 l2 (k + 1) → IsPair h' s.heap.objs.size x y →
      (∀ c o, c ≠ z → c ≠ TO → c ≠ i1 → c ≠ i2 → s.heap.get? c = some o → h'.get? c = some o) → Q (some (.ref s.heap.objs.size)) { s with heap := h' }) : wpAny (model prog w) A (pyNext (.ref z)) Q E s := by
  have hT : s.TypeIs (.ref z) "zip" := ⟨_, hz, rfl⟩
  unfold pyNext
  exact wpAny_bind (wpAny_attempt (wpAny_callSpecial?_slot (name := Str.ofString "__next__") hT F.slot_zip_next (wpAny_call_entry F.slot_zip_next hT F.entry_zip_next
    (zip_item D hz hI hO h1 h2 g1 g2 hx hy fun h' a1 a2 a3 a4 a5 a6 => wpAny_pure (hQ h' a1 a2 a3 a4 a5 a6)) (F.args_zip_next_1 _))))
theorem zipNext_end {Q : Option Value → Shared → Prop} (hh : A.handled = none) (D : ZipApart z TI TO i1 i2 l1 l2) (hz : IsZip s.heap z TI TO .none) (hI : IsPair s.heap TI (.ref i1) (.ref i2)) (hO : IsPair s.heap TO a b)
    (h1 : ItAt c1 s.heap i1 l1 k) (h2 : ItAt c2 s.heap i2 l2 k) (g1 : SqAt c1 s.heap l1 xs) (g2 : SqAt c2 s.heap l2 ys) (hend : xs[k]? = none ∨ ys[k]? = none)
    (hQ : ∀ h', (∀ c o, c ≠ z → c ≠ TO → c ≠ i1 → c ≠ i2 → s.heap.get? c = some o → h'.get? c = some o) → Q none { s with heap := h' }) : wpAny (model prog w) A (pyNext (.ref z)) Q E s := by
  have hT : s.TypeIs (.ref z) "zip" := ⟨_, hz, rfl⟩
  unfold pyNext
  refine wpAny_bind (wpAny_attempt (wpAny_callSpecial?_slot (name := Str.ofString "__next__") hT F.slot_zip_next (wpAny_call_entry F.slot_zip_next hT F.entry_zip_next
    (zip_end hh D hz hI hO h1 h2 g1 g2 hend fun h' e hk eo => ?_) (F.args_zip_next_1 _))))
  obtain ⟨o, ho, hc⟩ := eo
  exact wpAny_bind (wpAny_isInstance (T := "StopIteration") (b := true) ⟨o, ho, hc⟩ isSubtype_stop (wpAny_pure (hQ _ hk)))
end
end TM

namespace TM
open PySem PySem.Spec PyProof.Rows L2
noncomputable def itOb (b : Bool) (l : Addr) : Obj := match b with
  | true => { cls := .type "list_iterator", data := .fields #[.ref l, .int 0 0] }
  | false => { cls := .type "tuple_iterator", data := .fields #[.ref l, .int 0 0] }
theorem itOb_at {b : Bool} {l it : Addr} {h : Heap} (e : h.get? it = some (itOb b l)) : ItAt b h it l 0 := by
  cases b with
  | true => exact ⟨_, e, rfl, rfl⟩
  | false => exact ⟨_, e, rfl, rfl⟩
noncomputable abbrev zh1 (h : Heap) (c1 : Bool) (l1 : Addr) : Heap := h.push (itOb c1 l1)
noncomputable abbrev zh2 (h : Heap) (c1 c2 : Bool) (l1 l2 : Addr) : Heap := (zh1 h c1 l1).push (itOb c2 l2)
noncomputable abbrev zh3 (h : Heap) (c1 c2 : Bool) (l1 l2 : Addr) : Heap := (zh2 h c1 c2 l1 l2).push { cls := .type "tuple", data := .seq #[.ref h.objs.size, .ref (zh1 h c1 l1).objs.size] }
noncomputable abbrev zh4 (h : Heap) (c1 c2 : Bool) (l1 l2 : Addr) : Heap := (zh3 h c1 c2 l1 l2).push { cls := .type "tuple", data := .seq #[.none, .none] }
noncomputable abbrev zh5 (h : Heap) (c1 c2 : Bool) (l1 l2 : Addr) : Heap := (zh4 h c1 c2 l1 l2).push { cls := .type "zip", data := .fields #[.none, .bool false, .bool false, .ref (zh2 h c1 c2 l1 l2).objs.size, .ref (zh3 h c1 c2 l1 l2).objs.size] }
noncomputable abbrev ZNew (c1 c2 : Bool) (l1 l2 : Addr) (xs ys : Array Value) : Prop := Meets (Builtin.«zip.__new__» ⟨[.type "zip", .ref l1, .ref l2], []⟩) (fun _ R s => SqAt c1 s.heap l1 xs ∧ SqAt c2 s.heap l2 ys ∧
      R (.ok (.ret (.ref (zh4 s.heap c1 c2 l1 l2).objs.size))) { s with heap := zh5 s.heap c1 c2 l1 l2 })
set_option maxHeartbeats 4000000 in
theorem zip_new_tt (l1 l2 : Addr) (xs ys : Array Value) : ZNew true true l1 l2 xs ys := .of_wp fun prog w A R s h => by
  obtain ⟨hp, g, d, tk, os⟩ := s
  obtain ⟨q1, q2, h⟩ := h
  have hsub := sub_zip
  have p1 : Heap.IsList (Shared.heap ⟨hp, g, d, tk, os⟩) l1 xs := q1
  have p2 : Heap.IsList (Shared.heap ⟨hp.push { cls := .type "list_iterator", data := .fields #[.ref l1, .int 0 0] }, g, d, tk, os⟩) l2 ys := Heap.IsList.push q2 _
  wp_walk using wpAny_pyIter_list p1, wpAny_pyIter_list p2
  exact ⟨_, rfl, h⟩
set_option maxHeartbeats 4000000 in
theorem zip_new_tf (l1 l2 : Addr) (xs ys : Array Value) : ZNew true false l1 l2 xs ys := .of_wp fun prog w A R s h => by
  obtain ⟨hp, g, d, tk, os⟩ := s
  obtain ⟨q1, q2, h⟩ := h
  have hsub := sub_zip
  have p1 : Heap.IsList (Shared.heap ⟨hp, g, d, tk, os⟩) l1 xs := q1
  have p2 : Heap.IsTuple (Shared.heap ⟨hp.push { cls := .type "list_iterator", data := .fields #[.ref l1, .int 0 0] }, g, d, tk, os⟩) l2 ys := Heap.IsTuple.push q2 _
  wp_walk using wpAny_pyIter_list p1, wpAny_pyIter_tuple p2
  exact ⟨_, rfl, h⟩
set_option maxHeartbeats 4000000 in
theorem zip_new_ft (l1 l2 : Addr) (xs ys : Array Value) : ZNew false true l1 l2 xs ys := .of_wp fun prog w A R s h => by
  obtain ⟨hp, g, d, tk, os⟩ := s
  obtain ⟨q1, q2, h⟩ := h
  have hsub := sub_zip
  have p1 : Heap.IsTuple (Shared.heap ⟨hp, g, d, tk, os⟩) l1 xs := q1
  have p2 : Heap.IsList (Shared.heap ⟨hp.push { cls := .type "tuple_iterator", data := .fields #[.ref l1, .int 0 0] }, g, d, tk, os⟩) l2 ys := Heap.IsList.push q2 _
  wp_walk using wpAny_pyIter_tuple p1, wpAny_pyIter_list p2
  exact ⟨_, rfl, h⟩
set_option maxHeartbeats 4000000 in
theorem zip_new_ff (l1 l2 : Addr) (xs ys : Array Value) : ZNew false false l1 l2 xs ys := .of_wp fun prog w A R s h => by
  obtain ⟨hp, g, d, tk, os⟩ := s
  obtain ⟨q1, q2, h⟩ := h
  have hsub := sub_zip
  have p1 : Heap.IsTuple (Shared.heap ⟨hp, g, d, tk, os⟩) l1 xs := q1
  have p2 : Heap.IsTuple (Shared.heap ⟨hp.push { cls := .type "tuple_iterator", data := .fields #[.ref l1, .int 0 0] }, g, d, tk, os⟩) l2 ys := Heap.IsTuple.push q2 _
  wp_walk using wpAny_pyIter_tuple p1, wpAny_pyIter_tuple p2
  exact ⟨_, rfl, h⟩
theorem zip_new_meets (c1 c2 : Bool) (l1 l2 : Addr) (xs ys : Array Value) : ZNew c1 c2 l1 l2 xs ys := by
  cases c1 <;> cases c2
  · exact zip_new_ff l1 l2 xs ys
  · exact zip_new_ft l1 l2 xs ys
  · exact zip_new_tf l1 l2 xs ys
  · exact zip_new_tt l1 l2 xs ys
section
variable {prog : Program} {w : World} {A : Around} {E : Value → Shared → Prop} {s : Shared}
theorem call_zip {c1 c2 : Bool} {Q : Value → Shared → Prop} (q1 : SqAt c1 s.heap l1 xs) (q2 : SqAt c2 s.heap l2 ys)
    (h : ∀ h', IsZip h' (s.heap.objs.size + 4) (s.heap.objs.size + 2) (s.heap.objs.size + 3) .none → IsPair h' (s.heap.objs.size + 2) (.ref s.heap.objs.size) (.ref (s.heap.objs.size + 1)) →
      IsPair h' (s.heap.objs.size + 3) .none .none → ItAt c1 h' s.heap.objs.size l1 0 → ItAt c2 h' (s.heap.objs.size + 1) l2 0 → (∀ c o, s.heap.get? c = some o → h'.get? c = some o) → Q (.ref (s.heap.objs.size + 4)) { s with heap := h' }) :
    wpAny (model prog w) A (call (.type "zip") [.ref l1, .ref l2]) Q E s := by
  refine callType_new F.called_zip (by decide) (F.typeCall_zip_2 _ _) (F.newCall_zip_2 _ _) (fun obj => F.args_object_init_3 obj _ _) F.entry_zip_new (zip_new_meets c1 c2 l1 l2 xs ys) ⟨q1, q2, ?_⟩
  have z1 : (zh1 s.heap c1 l1).objs.size = s.heap.objs.size + 1 := Heap.size_push ..
  have z2 : (zh2 s.heap c1 c2 l1 l2).objs.size = s.heap.objs.size + 2 := by rw [Heap.size_push, z1]
  have z3 : (zh3 s.heap c1 c2 l1 l2).objs.size = s.heap.objs.size + 3 := by rw [Heap.size_push, z2]
  have z4 : (zh4 s.heap c1 c2 l1 l2).objs.size = s.heap.objs.size + 4 := by rw [Heap.size_push, z3]
  have p : ∀ {h : Heap} {o : Obj} {c : Addr} {u : Obj}, h.get? c = some u → (h.push o).get? c = some u := fun e => Heap.get?_push_of_some _ e
  have n1 : (itOb c1 l1).isFreed = false := by cases c1 <;> rfl
  have n2 : (itOb c2 l2).isFreed = false := by cases c2 <;> rfl
  have g5 : (zh5 s.heap c1 c2 l1 l2).get? (zh4 s.heap c1 c2 l1 l2).objs.size = some _ := Heap.get?_push_size _ rfl
  have g4 : (zh5 s.heap c1 c2 l1 l2).get? (zh3 s.heap c1 c2 l1 l2).objs.size = some _ := p (Heap.get?_push_size _ rfl)
  have g3 : (zh5 s.heap c1 c2 l1 l2).get? (zh2 s.heap c1 c2 l1 l2).objs.size = some _ := p (p (Heap.get?_push_size _ rfl))
  have g2 : (zh5 s.heap c1 c2 l1 l2).get? (zh1 s.heap c1 l1).objs.size = some (itOb c2 l2) := p (p (p (Heap.get?_push_size _ n2)))
  have g1 : (zh5 s.heap c1 c2 l1 l2).get? s.heap.objs.size = some (itOb c1 l1) := p (p (p (p (Heap.get?_push_size _ n1))))
  show _ ∧ _
  rw [z2, z3, z4] at g5
  rw [z1, z2] at g3
  rw [z3] at g4
  rw [z1] at g2
  rw [z4]
  exact ⟨⟨_, g5, rfl⟩, h _ g5 g3 g4 (itOb_at g1) (itOb_at g2) fun c o x => p (p (p (p (p x))))⟩
end
noncomputable def SqV (b : Bool) (K : PySem.W.Frag) (H : Hp) (a : Addr) (xs : List V) : Prop := match b with
  | true => SqL K H a xs
  | false => SqT K H a xs
noncomputable def Itz (K : PySem.W.Frag) (c1 c2 : Bool) (l1 l2 : Addr) : It :=
  ⟨fun i H => ∃ xs ys x y, SqV c1 K H l1 xs ∧ SqV c2 K H l2 ys ∧ xs[i]? = some x ∧ ys[i]? = some y,
   fun i H v H' => ∃ p x y, v = .ref p ∧ H p = none ∧ H' = upd H p (.tup [x, y]) ∧ (∀ xs, SqV c1 K H l1 xs → xs[i]? = some x) ∧ ∀ ys, SqV c2 K H l2 ys → ys[i]? = some y,
   fun i H => ∃ xs ys, SqV c1 K H l1 xs ∧ SqV c2 K H l2 ys ∧ (xs.length ≤ i ∨ ys.length ≤ i)⟩
section
variable {X : Cx} {pins : List (Addr × Obj)} {σ : L2.St} {H : Hp} {s : Shared}
theorem sqv_at {b : Bool} (I : Inv X pins σ H s) (h : SqV b X.K H a xs) : ∃ its : List Value, Vals xs its ∧ SqAt b s.heap a its.toArray := by
  cases b with
  | true => obtain ⟨its, r, p, _⟩ := I.list h; exact ⟨its, r, p.isList⟩
  | false => obtain ⟨its, r, p, _⟩ := I.tuple h; exact ⟨its, r, p⟩
theorem sqv_inj {b : Bool} (I : Inv X pins σ H s) (h : SqV b X.K H a xs) (h' : SqV b X.K H a ys) : xs = ys := by
  cases b with
  | true => exact I.list_inj h h'
  | false => exact I.tuple_inj h h'
end
structure ZTn (c1 c2 : Bool) (z TI TO i1 i2 l1 l2 : Addr) (i : Nat) (h : Heap) : Prop where
  hz : IsZip h z TI TO .none
  hI : IsPair h TI (.ref i1) (.ref i2)
  hO : ∃ a b, IsPair h TO a b
  h1 : ItAt c1 h i1 l1 i
  h2 : ItAt c2 h i2 l2 i
theorem turned_all {h' : Heap} {fp : List Addr} (I : Inv X pins σ H s) (hf : ∀ b ∈ fp, FpOk X pins H b) (k : ∀ b o, b ∉ fp → s.heap.get? b = some o → h'.get? b = some o) : Inv X pins σ H { s with heap := h' } := by
  have nit : ∀ b u, H b = some u → b ∉ fp := fun b u e z => by rw [(hf b z).1] at e; cases e
  refine I.step (g' := s.gens) (d' := s.drawn) (t' := s.toks) (ch := fp) (fun b hb => ?_) (fun b o _ _ hc e _ => k b o hc e) (fun b o _ _ hc e _ => ⟨o.slots, k b o hc e⟩) (fun _ _ _ _ n => n)
    (fun b o hc e => ⟨o, k b o hc e⟩) (fun _ _ e => e) (fun _ _ _ e => e) (fun b ps e => ⟨#[], by rw [e]; simp⟩) (fun m hm => ?_) (fun b u e => ?_) I.bare
  · obtain ⟨_, f1, _, f3, f4, f5⟩ := hf b hb
    exact ⟨f3, f1, f4, f5⟩
  · obtain ⟨o, es, ep, ho, r⟩ := hm
    exact ⟨o, es, ep, k _ o (fun z => (hf _ z).2.1 rfl) ho, r⟩
  · refine (I.hok b u e).stay (fun c v hc q => k c v ?_ q) (fun _ q => q) fun _ _ q => q
    rcases hc with z | z
    · rw [z]; exact nit b u e
    · exact nit c _ z
theorem turn_zip {P : Program} {w : World} {K : PySem.W.Frag} {elts : List Expr} {kx : Nat} {px : Pos} {c1 c2 : Bool} {z TI TO i1 i2 l1 l2 : Addr} (D : ZipApart z TI TO i1 i2 l1 l2) :
    Turn P w K (.Tuple elts kx px) (Itz K c1 c2 l1 l2) [z, TI, TO, i1, i2] z (ZTn c1 c2 z TI TO i1 i2 l1 l2) where
  mem := by simp
  obj := fun i h st b hb => by
    simp only [List.mem_cons, List.not_mem_nil, or_false] at hb
    rcases hb with rfl | rfl | rfl | rfl | rfl
    · exact ⟨_, st.hz, fun v q => nomatch (show Data.fields _ = Data.cell v from q)⟩
    · exact ⟨_, st.hI, fun v q => nomatch (show Data.seq _ _ = Data.cell v from q)⟩
    · obtain ⟨a, b, e⟩ := st.hO
      exact ⟨_, e, fun v q => nomatch (show Data.seq _ _ = Data.cell v from q)⟩
    · exact st.h1.obj
    · exact st.h2.obj
  keep := fun i h h' st k => by
    obtain ⟨a, b, e⟩ := st.hO
    exact ⟨k z (by simp) _ st.hz, k TI (by simp) _ st.hI, ⟨a, b, k TO (by simp) _ e⟩, st.h1.ext fun o e => k i1 (by simp) o e, st.h2.ext fun o e => k i2 (by simp) o e⟩
  item := fun X hP hw hK hc i pins s σ H E I hf st hg => by
    subst hP hw hK
    obtain ⟨xs, ys, x, y, q1, q2, g1, g2⟩ := hg
    obtain ⟨its, r1, p1⟩ := sqv_at I q1
    obtain ⟨jts, r2, p2⟩ := sqv_at I q2
    obtain ⟨u, e1, ru⟩ := r1.get g1
    obtain ⟨v, e2, rv⟩ := r2.get g2
    obtain ⟨a, b, hO⟩ := st.hO
    refine zipNext_item D st.hz st.hI hO st.h1 st.h2 p1 p2 (x := u) (y := v) (by simpa using e1) (by simpa using e2) fun h' a1 a2 a3 a4 a5 a6 => ⟨_, rfl, ?_⟩
    refine wpAny_letOwnedTupleGo_zip (s := { s with heap := h' }) a1 fun h2 b1 b2 => ?_
    have kp : ∀ b o, b ∉ [z, TI, TO, i1, i2] → s.heap.get? b = some o → h2.get? b = some o := fun b o hb e => by
      simp only [List.mem_cons, List.not_mem_nil, or_false, not_or] at hb
      exact b2.extBut _ _ hb.1 (a6 b o hb.1 hb.2.2.1 hb.2.2.2.1 hb.2.2.2.2 e)
    have lz : z < s.heap.objs.size := Heap.lt_size st.hz
    have pr : IsPair h2 s.heap.objs.size u v := b2.extBut _ _ (Nat.ne_of_gt lz) a5
    have fr : H s.heap.objs.size = none := I.hok.fresh (Nat.le_refl _)
    have hokA : HOk X.prog X.w (upd H s.heap.objs.size (.tup [x, y])) h2 := by
      intro c o e
      by_cases hcz : c = s.heap.objs.size
      · subst hcz
        rw [upd_same] at e; cases e
        exact ⟨by show 2 ≤ sizeLine; decide, [u, v], .cons ru (.cons rv .nil), _, pr, rfl, _, rfl⟩
      · rw [upd_ne hcz] at e
        have nf : ∀ d o', H d = some o' → d ∉ [z, TI, TO, i1, i2] := fun d o' ed hd => by rw [(hf d hd).1] at ed; cases ed
        have up : ∀ d o', H d = some o' → upd H s.heap.objs.size (.tup [x, y]) d = some o' := fun d o' ed => by rw [upd_ne (ne_of_none ed fr)]; exact ed
        refine (I.hok c o e).stay (fun d v' hd q => kp d v' ?_ q) (fun d q => up d _ q) fun d xs q => up d _ q
        rcases hd with rfl | hd
        · exact nf _ o e
        · exact nf d _ hd
    have J : Inv X pins σ (upd H s.heap.objs.size (.tup [x, y])) { s with heap := h2 } := by
      have ne : ∀ b o, s.heap.get? b = some o → b ≠ s.heap.objs.size := fun b o e => Nat.ne_of_lt (Heap.lt_size e)
      refine I.step (g' := s.gens) (d' := s.drawn) (t' := s.toks) (ch := [z, TI, TO, i1, i2]) (fun b hb => ?_) (fun b o _ _ hc e _ => kp b o hc e) (fun b o _ _ hc e _ => ⟨o.slots, kp b o hc e⟩) (fun b o _ e n => by rw [upd_ne (ne b o e)]; exact n)
        (fun b o hc e => ⟨o, kp b o hc e⟩) (fun b xs e => by rw [upd_ne (ne_of_none e fr)]; exact e) (fun b o u e => by rw [upd_ne (ne_of_none e fr)]; exact e) (fun b ps e => ⟨#[], by rw [upd_ne (ne_of_none e fr), e]; simp⟩) (fun m hm => ?_) hokA I.bare
      · obtain ⟨_, f1, _, f3, f4, f5⟩ := hf b hb
        exact ⟨f3, f1, f4, f5⟩
      · obtain ⟨o, es, ep, ho, r⟩ := hm
        exact ⟨o, es, ep, kp _ o (fun q => (hf _ q).2.1 rfl) ho, r⟩
    refine ⟨.ref s.heap.objs.size, _, J, rfl, ⟨_, x, y, rfl, fr, rfl, fun xs' h => by rw [sqv_inj I h q1]; exact g1, fun ys' h => by rw [sqv_inj I h q2]; exact g2⟩, ?_, fun b hb => ?_⟩
    · exact ⟨b1, b2.extBut _ _ D.TIz (a6 _ _ D.TIz D.TITO D.TIi1 D.TIi2 st.hI), ⟨_, _, b2.extBut _ _ D.TOz a2⟩, a3.ext fun o e => b2.extBut _ _ D.i1z e, a4.ext fun o e => b2.extBut _ _ D.i2z e⟩
    · obtain ⟨o, e, _⟩ : ∃ o, s.heap.get? b = some o ∧ True := by
        simp only [List.mem_cons, List.not_mem_nil, or_false] at hb
        rcases hb with rfl | rfl | rfl | rfl | rfl
        · exact ⟨_, st.hz, trivial⟩
        · exact ⟨_, st.hI, trivial⟩
        · exact ⟨_, hO, trivial⟩
        · obtain ⟨o, e, _⟩ := st.h1.obj; exact ⟨o, e, trivial⟩
        · obtain ⟨o, e, _⟩ := st.h2.obj; exact ⟨o, e, trivial⟩
      rw [upd_ne (Nat.ne_of_lt (Heap.lt_size e))]
      exact (hf b hb).1
  done := fun X hP hw hK hc i pins s σ H E I hf st hg => by
    subst hP hw hK
    obtain ⟨xs, ys, q1, q2, g⟩ := hg
    obtain ⟨its, r1, p1⟩ := sqv_at I q1
    obtain ⟨jts, r2, p2⟩ := sqv_at I q2
    obtain ⟨a, b, hO⟩ := st.hO
    have n1 := r1.length
    have n2 := r2.length
    refine zipNext_end (I.ok.hd hc) D st.hz st.hI hO st.h1 st.h2 p1 p2 ?_ fun h' k => ⟨rfl, turned_all I hf fun b o hb e => ?_⟩
    · rcases g with g | g
      · exact .inl (by simp; omega)
      · exact .inr (by simp; omega)
    · simp only [List.mem_cons, List.not_mem_nil, or_false, not_or] at hb
      exact k b o hb.1 hb.2.2.1 hb.2.2.2.1 hb.2.2.2.2 e
  self := fun _ _ _ _ _ st h => wpAny_pyIter_zip st.hz h
end TM

namespace TM
open PySem PySem.Spec PyProof.Rows L2
noncomputable def sqK : T → Option (Bool × List T)
  | .lst ts => some (true, ts)
  | .scr ts => some (true, ts)
  | .tup ts => some (false, ts)
  | _ => none
theorem sqK_rep {K : PySem.W.Frag} {F : Hp} {t : T} {v : V} {b : Bool} {ts : List T} (r : Rep K F t v) (e : sqK t = some (b, ts)) : ∃ a xs, v = .ref a ∧ SqV b K F a xs ∧ Reps K F ts xs := by
  cases t <;> simp only [sqK] at e <;> cases e
  · exact r
  · obtain ⟨a, xs, h1, h2, h3⟩ := r
    exact ⟨a, xs, h1, SqL.of h2, h3⟩
  · exact r
theorem SqV.same {b : Bool} {K : PySem.W.Frag} {H H' : Hp} {a : Addr} {xs : List V} (s : Same H H') (h : SqV b K H a xs) : SqV b K H' a xs := by
  cases b with
  | true => exact s.seq h
  | false => exact same_sqT s h
noncomputable def zipT : List T → List T → List T
  | x :: xs, y :: ys => .tup [x, y] :: zipT xs ys
  | _, _ => []
theorem zipT_length : ∀ (xs ys : List T), (zipT xs ys).length = min xs.length ys.length
  | [], _ => by simp [zipT]
  | _ :: _, [] => by simp [zipT]
  | x :: xs, y :: ys => by simp [zipT, zipT_length xs ys]
theorem zipT_get : ∀ (xs ys : List T) (i : Nat) (t : T), (zipT xs ys)[i]? = some t → ∃ x y, xs[i]? = some x ∧ ys[i]? = some y ∧ t = .tup [x, y]
  | [], _, i, t, e => by simp [zipT] at e
  | _ :: _, [], i, t, e => by simp [zipT] at e
  | x :: xs, y :: ys, 0, t, e => by simp [zipT] at e; exact ⟨x, y, rfl, rfl, e.symm⟩
  | x :: xs, y :: ys, i + 1, t, e => by
    obtain ⟨a, b, h1, h2, h3⟩ := zipT_get xs ys i t (by simpa [zipT] using e)
    exact ⟨a, b, by simpa using h1, by simpa using h2, h3⟩
theorem walks_zip {K : PySem.W.Frag} {F : Hp} {c1 c2 : Bool} {l1 l2 : Addr} {xs ys : List V} {ts us : List T} (h1 : SqV c1 K F l1 xs) (r1 : Reps K F ts xs) (h2 : SqV c2 K F l2 ys) (r2 : Reps K F us ys) : Walks K F (zipT ts us) (Itz K c1 c2 l1 l2) := by
  refine ⟨fun i t F1 H1 e s1 s2 => ?_, fun i t F1 H1 x H2 e s1 s2 y => ?_, fun F1 H1 s1 s2 => ⟨xs, ys, h1.same (s1.trans s2), h2.same (s1.trans s2), ?_⟩⟩
  · obtain ⟨a, b, e1, e2, rfl⟩ := zipT_get ts us i t e
    obtain ⟨v, g1, _⟩ := r1.get e1
    obtain ⟨w, g2, _⟩ := r2.get e2
    exact ⟨xs, ys, v, w, h1.same (s1.trans s2), h2.same (s1.trans s2), g1, g2⟩
  · obtain ⟨p, v, w, rfl, hp, rfl, q1, q2⟩ := y
    obtain ⟨a, b, e1, e2, rfl⟩ := zipT_get ts us i t e
    obtain ⟨v', g1, k1⟩ := r1.get e1
    obtain ⟨w', g2, k2⟩ := r2.get e2
    have m1 := q1 xs (h1.same (s1.trans s2))
    have m2 := q2 ys (h2.same (s1.trans s2))
    rw [g1] at m1; cases m1
    rw [g2] at m2; cases m2
    have gr := Grow.new (.tup [v, w]) s2 hp
    exact ⟨_, gr, p, _, rfl, SqT.of upd_same, v, [w], rfl, Rep.mono (s1.trans gr.sF) k1, w, [], rfl, Rep.mono (s1.trans gr.sF) k2, rfl⟩
  · rw [zipT_length, r1.length, r2.length]
    omega
noncomputable def fiZip (g : FA) : FA := fun τ => (g τ).bind fun p => match p.1 with
  | [a, b] => (sqK a).bind fun x => (sqK b).bind fun y => some (zipT x.2 y.2, p.2)
  | _ => none
theorem si_zip {X : Cx} {a b : Expr} {p pos : Pos} {ga : FA} {elts : List Expr} {kx : Nat} {px : Pos} (hg : Gl X "zip") (hm : X.mg "zip" = none) (ha : SA X [a, b] ga) (hs : starEach [a, b] X.env = (false, eval a X.env) :: starEach [b] X.env := by rfl)
    (hs2 : (backTo pos (starEach [b] X.env)).any (·.1) = false := by rfl) : SI X (.Tuple elts kx px) (.Call (.Name "zip" p) [a, b] [] pos) (fiZip ga) := by
  intro F₀ H₀ pins s σ H R I ⟨F, τ, ts, τ', E, e1, q⟩
  obtain ⟨⟨x, τ1⟩, e2, e1⟩ := bind_some e1
  dsimp only at e1
  split at e1
  · next t u =>
    obtain ⟨⟨c1, us⟩, e3, e1⟩ := bind_some e1
    obtain ⟨⟨c2, ws⟩, e4, e1⟩ := bind_some e1
    cases e1
    refine Call_ (ld_blt I hg hm (show bootBuiltins "zip" = some (.type "zip") from rfl) (PyProof.Rows.callWith_type1 (thn (ha F₀ H₀ pos pins s σ H (fun vs H' => ∃ l1 l2 xs ys, vs = [.ref l1, .ref l2] ∧ SqV c1 X.K H' l1 xs ∧ SqV c2 X.K H' l2 ys ∧ R (Itz X.K c1 c2 l1 l2) H') I ⟨F, τ, _, _, E, e2, fun F' H' vs E' s' r' => ?_⟩) fun vs s1 ⟨ws', H1, I1, r1, q1⟩ => ?_) hs hs2))
    · obtain ⟨v1, r1, rfl, k1, v2, r2, rfl, k2, rfl⟩ := r'
      obtain ⟨l1, xs, rfl, h1, h2⟩ := sqK_rep k1 e3
      obtain ⟨l2, ys, rfl, h3, h4⟩ := sqK_rep k2 e4
      exact ⟨l1, l2, xs, ys, rfl, h1.same E'.g.fh, h3.same E'.g.fh, q F' H' _ E' s' (walks_zip h1 h2 h3 h4)⟩
    · obtain ⟨l1, l2, xs, ys, rfl, h1, h2, q1⟩ := q1
      cases r1 with
      | cons ra rr =>
        cases rr with
        | cons rb rr =>
          cases rr; cases ra; cases rb
          obtain ⟨its, _, p1⟩ := sqv_at I1 h1
          obtain ⟨jts, _, p2⟩ := sqv_at I1 h2
          refine call_zip p1 p2 fun h' a1 a2 a3 a4 a5 kp => wpAny_pyIter_zip (s := { s1 with heap := h' }) a1 ?_
          have lt : ∀ {c : Bool} {l : Addr} {zs : Array Value}, SqAt c s1.heap l zs → l < s1.heap.objs.size := fun {c l zs} h => by
            cases c with
            | true => obtain ⟨o, e, _⟩ := h; exact Heap.lt_size e
            | false => obtain ⟨o, e, _⟩ := h; exact Heap.lt_size e
          have n1 : @LT.lt Nat _ l1 s1.heap.objs.size := lt p1
          have n2 : @LT.lt Nat _ l2 s1.heap.objs.size := lt p2
          have J : Inv X pins σ H1 { s1 with heap := h' } := I1.kept (t' := s1.toks) kp
          refine ⟨_, [_, _, _, _, _], _, _, H1, rfl, J, turn_zip (c1 := c1) (c2 := c2) (z := s1.heap.objs.size + 4) (TI := s1.heap.objs.size + 2) (TO := s1.heap.objs.size + 3) (i1 := s1.heap.objs.size) (i2 := s1.heap.objs.size + 1) (l1 := l1) (l2 := l2) ?_, ⟨a1, a2, ⟨_, _, a3⟩, a4, a5⟩, fun b hb => ?_, q1⟩
          · constructor <;> (refine (?_ : @Ne Nat _ _); omega)
          · have hb' : s1.heap.objs.size ≤ b := by
              simp only [List.mem_cons, List.not_mem_nil, or_false] at hb
              rcases hb with rfl | rfl | rfl | rfl | rfl <;> omega
            exact I1.fpOk hb' (I1.hok.fresh hb')
  · cases e1
end TM

namespace TM
open PySem PySem.Spec PyProof.Rows L2
theorem isi_non_int : dIsi [.non, .ty "int"] = some (.bl false) := rfl
theorem isi_non_bool : dIsi [.non, .ty "bool"] = some (.bl false) := rfl
theorem isi_non_str : dIsi [.non, .ty "str"] = some (.bl false) := rfl
theorem isi_non_list : dIsi [.non, .ty "list"] = some (.bl false) := rfl
theorem isi_non_tuple : dIsi [.non, .ty "tuple"] = some (.bl false) := rfl
theorem isi_non_dict : dIsi [.non, .ty "dict"] = some (.bl false) := rfl
theorem isi_non_lt : dIsi [.non, .tup [.ty "list", .ty "tuple"]] = some (.bl false) := rfl
theorem isi_bl_int {b : Bool} : dIsi [(.bl b), .ty "int"] = some (.bl true) := rfl
theorem isi_bl_bool {b : Bool} : dIsi [(.bl b), .ty "bool"] = some (.bl true) := rfl
theorem isi_bl_str {b : Bool} : dIsi [(.bl b), .ty "str"] = some (.bl false) := rfl
theorem isi_bl_list {b : Bool} : dIsi [(.bl b), .ty "list"] = some (.bl false) := rfl
theorem isi_bl_tuple {b : Bool} : dIsi [(.bl b), .ty "tuple"] = some (.bl false) := rfl
theorem isi_bl_dict {b : Bool} : dIsi [(.bl b), .ty "dict"] = some (.bl false) := rfl
theorem isi_bl_lt {b : Bool} : dIsi [(.bl b), .tup [.ty "list", .ty "tuple"]] = some (.bl false) := rfl
theorem isi_int_int {i : Int} : dIsi [(.int i), .ty "int"] = some (.bl true) := rfl
theorem isi_int_bool {i : Int} : dIsi [(.int i), .ty "bool"] = some (.bl false) := rfl
theorem isi_int_str {i : Int} : dIsi [(.int i), .ty "str"] = some (.bl false) := rfl
theorem isi_int_list {i : Int} : dIsi [(.int i), .ty "list"] = some (.bl false) := rfl
theorem isi_int_tuple {i : Int} : dIsi [(.int i), .ty "tuple"] = some (.bl false) := rfl
theorem isi_int_dict {i : Int} : dIsi [(.int i), .ty "dict"] = some (.bl false) := rfl
theorem isi_int_lt {i : Int} : dIsi [(.int i), .tup [.ty "list", .ty "tuple"]] = some (.bl false) := rfl
theorem isi_str_int : dIsi [(.str x), .ty "int"] = some (.bl false) := rfl
theorem isi_str_bool : dIsi [(.str x), .ty "bool"] = some (.bl false) := rfl
theorem isi_str_str : dIsi [(.str x), .ty "str"] = some (.bl true) := rfl
theorem isi_str_list : dIsi [(.str x), .ty "list"] = some (.bl false) := rfl
theorem isi_str_tuple : dIsi [(.str x), .ty "tuple"] = some (.bl false) := rfl
theorem isi_str_dict : dIsi [(.str x), .ty "dict"] = some (.bl false) := rfl
theorem isi_str_lt : dIsi [(.str x), .tup [.ty "list", .ty "tuple"]] = some (.bl false) := rfl
theorem isi_tup_int : dIsi [(.tup ts), .ty "int"] = some (.bl false) := rfl
theorem isi_tup_bool : dIsi [(.tup ts), .ty "bool"] = some (.bl false) := rfl
theorem isi_tup_str : dIsi [(.tup ts), .ty "str"] = some (.bl false) := rfl
theorem isi_tup_list : dIsi [(.tup ts), .ty "list"] = some (.bl false) := rfl
theorem isi_tup_tuple : dIsi [(.tup ts), .ty "tuple"] = some (.bl true) := rfl
theorem isi_tup_dict : dIsi [(.tup ts), .ty "dict"] = some (.bl false) := rfl
theorem isi_tup_lt : dIsi [(.tup ts), .tup [.ty "list", .ty "tuple"]] = some (.bl true) := rfl
theorem isi_lst_int : dIsi [(.lst ts), .ty "int"] = some (.bl false) := rfl
theorem isi_lst_bool : dIsi [(.lst ts), .ty "bool"] = some (.bl false) := rfl
theorem isi_lst_str : dIsi [(.lst ts), .ty "str"] = some (.bl false) := rfl
theorem isi_lst_list : dIsi [(.lst ts), .ty "list"] = some (.bl true) := rfl
theorem isi_lst_tuple : dIsi [(.lst ts), .ty "tuple"] = some (.bl false) := rfl
theorem isi_lst_dict : dIsi [(.lst ts), .ty "dict"] = some (.bl false) := rfl
theorem isi_lst_lt : dIsi [(.lst ts), .tup [.ty "list", .ty "tuple"]] = some (.bl true) := rfl
theorem isi_scr_int : dIsi [(.scr ts), .ty "int"] = some (.bl false) := rfl
theorem isi_scr_bool : dIsi [(.scr ts), .ty "bool"] = some (.bl false) := rfl
theorem isi_scr_str : dIsi [(.scr ts), .ty "str"] = some (.bl false) := rfl
theorem isi_scr_list : dIsi [(.scr ts), .ty "list"] = some (.bl true) := rfl
theorem isi_scr_tuple : dIsi [(.scr ts), .ty "tuple"] = some (.bl false) := rfl
theorem isi_scr_dict : dIsi [(.scr ts), .ty "dict"] = some (.bl false) := rfl
theorem isi_scr_lt : dIsi [(.scr ts), .tup [.ty "list", .ty "tuple"]] = some (.bl true) := rfl
theorem isi_dic_int : dIsi [.dic, .ty "int"] = some (.bl false) := rfl
theorem isi_dic_bool : dIsi [.dic, .ty "bool"] = some (.bl false) := rfl
theorem isi_dic_str : dIsi [.dic, .ty "str"] = some (.bl false) := rfl
theorem isi_dic_list : dIsi [.dic, .ty "list"] = some (.bl false) := rfl
theorem isi_dic_tuple : dIsi [.dic, .ty "tuple"] = some (.bl false) := rfl
theorem isi_dic_dict : dIsi [.dic, .ty "dict"] = some (.bl true) := rfl
theorem isi_dic_lt : dIsi [.dic, .tup [.ty "list", .ty "tuple"]] = some (.bl false) := rfl
theorem gEq_int (i j : Int) : gEq (.int i) (.int j) = some (.bl (decide (i = j))) := by
  show some (T.bl (i == j)) = _
  rw [Bool.beq_eq_decide_eq]
theorem gNe_int (i j : Int) : gNe (.int i) (.int j) = some (.bl (!decide (i = j))) := by
  show some (T.bl (!(i == j))) = _
  rw [Bool.beq_eq_decide_eq]
theorem gEq_bl (i j : Bool) : gEq (.bl i) (.bl j) = some (.bl (i == j)) := rfl
theorem gNe_bl (i j : Bool) : gNe (.bl i) (.bl j) = some (.bl (!(i == j))) := rfl
theorem CDivB_iff (i j : Int) : CDivB i j ↔ (¬ j = 0 ∧ j.natAbs < B) := Iff.rfl
theorem CMulB_iff (i j : Int) : CMulB i j ↔ (i.natAbs < B ∧ j.natAbs < B) := Iff.rfl
theorem CNz_iff (i j : Int) : CNz i j ↔ ¬ j = 0 := Iff.rfl
theorem small_le {n : Nat} (h : n ≤ 1000) : n ≤ sizeLine := Nat.le_of_lt (small1000 h)
theorem le0 : (0 : Nat) ≤ sizeLine := small_le (by decide)
theorem le1 : (1 : Nat) ≤ sizeLine := small_le (by decide)
theorem le2 : (2 : Nat) ≤ sizeLine := small_le (by decide)
theorem le3 : (3 : Nat) ≤ sizeLine := small_le (by decide)
theorem le4 : (4 : Nat) ≤ sizeLine := small_le (by decide)
theorem gIx_tup0 {x y : T} : gIx (.tup [x, y]) (.int 0) = some x := rfl
theorem gIx_tup1 {x y : T} : gIx (.tup [x, y]) (.int 1) = some y := rfl
theorem gIx_lst0 {x y : T} : gIx (.lst [x, y]) (.int 0) = some x := rfl
theorem gIx_lst1 {x y : T} : gIx (.lst [x, y]) (.int 1) = some y := rfl
theorem dAbs_nat (a : Int) : dAbs [.int a] = some (.int (a.natAbs : Int)) := by
  have e : (if a < 0 then -a else a) = (a.natAbs : Int) := by split <;> omega
  simp only [dAbs, e]
theorem bigB : (2 ^ 64 : Nat) < B := by decide +kernel
theorem ltB_of {a : Int} (h1 : -(2 ^ 64) < a) (h2 : a < 2 ^ 64) : a.natAbs < B := by have := bigB; omega
theorem gEq_str_self (h : SeqAt.shaped (.str x) = true) : gEq (.str x) (.str x) = some (.bl true) := by
  show gEqW false (.str x) (.str x) = _
  simp [gEqW, toP, h, PyData.eqv]
noncomputable def bSame (d__law_same : List T → Option T) : FS :=
    (fSeq (fIfS (fTru (fCall dIsi (fCons (fVar 1) (fCons (fTup (fCons (fC (.ty "list")) (fCons (fC (.ty "tuple")) fNil))) fNil)))) (fSeq (fIfS (fOr (fTB (fOp gNe (fCall dIsi (fCons (fVar 1) (fCons (fC (.ty "list")) fNil))) (fCall dIsi (fCons (fVar 0) (fCons (fC (.ty "list")) fNil))))) (fNot (fTru (fCall dIsi (fCons (fVar 0) (fCons (fTup (fCons (fC (.ty "list")) (fCons (fC (.ty "tuple")) fNil))) fNil)))))) (fRet (fC (.bl false))) fNext)
    (fSeq (fIfS (fTB (fOp gNe (fCall dLen (fCons (fVar 0) fNil)) (fCall dLen (fCons (fVar 1) fNil)))) (fRet (fC (.bl false))) fNext)
    (fSeq (fFor (fiZip (fCons (fVar 0) (fCons (fVar 1) fNil))) (gnTup (gnCons (gnName 2) (gnCons (gnName 3) gnNil))) (fIfS (fNot (fTru (fCall d__law_same (fCons (fVar 2) (fCons (fVar 3) fNil))))) (fRet (fC (.bl false))) fNext))
    (fRet (fC (.bl true)))))) fNext)
    (fSeq (fIfS (fTB (fOp gIs (fVar 1) (fC .non))) (fRet (fOp gIs (fVar 0) (fC .non))) fNext)
    (fSeq (fIfS (fTru (fCall dIsi (fCons (fVar 1) (fCons (fC (.ty "str")) fNil)))) (fRet (fAndV (fCall dIsi (fCons (fVar 0) (fCons (fC (.ty "str")) fNil))) (fOp gEq (fVar 0) (fVar 1)))) fNext)
    (fRet (fAndV (fCall dIsi (fCons (fVar 0) (fCons (fC (.ty "int")) fNil))) (fAndV (fUn gNot (fCall dIsi (fCons (fVar 0) (fCons (fC (.ty "bool")) fNil)))) (fOp gEq (fVar 0) (fVar 1))))))))

noncomputable def dSame : Nat → List T → Option T
  | 0 => fun _ => none
  | n + 1 => dOf 4 2 (bSame (dSame n))
mutual
noncomputable def sameOk : Nat → T → Bool
  | _, .int _ => true
  | _, .non => true
  | _, .str x => SeqAt.shaped (.str x)
  | n + 1, .tup ts => sameOks n ts
  | n + 1, .lst ts => sameOks n ts
  | _, _ => false
noncomputable def sameOks : Nat → List T → Bool
  | _, [] => true
  | n, t :: ts => sameOk n t && sameOks n ts
end
noncomputable def sameBody (d : List T → Option T) : FS := (fIfS (fNot (fTru (fCall d (fCons (fVar 2) (fCons (fVar 3) fNil))))) (fRet (fC (.bl false))) fNext)
theorem same_loop {d : List T → Option T} : ∀ (ts : List T) (x y u v : Option Sl), (∀ t ∈ ts, d [t, t] = some (.bl true)) → ∃ u' v', loopT (gnTup (gnCons (gnName 2) (gnCons (gnName 3) gnNil))) (sameBody d) (zipT ts ts) [x, y, u, v] = some (.nx [x, y, u', v'])
  | [], x, y, u, v, _ => ⟨u, v, rfl⟩
  | t :: ts, x, y, u, v, h => by
    have h1 := h t (List.mem_cons_self ..)
    obtain ⟨u', v', h2⟩ := same_loop ts x y (some (.sh t)) (some (.sh t)) fun z hz => h z (List.mem_cons_of_mem _ hz)
    refine ⟨u', v', ?_⟩
    rw [← h2]
    clear h2 h
    unfold sameBody
    walk_at "ev"
theorem sameOks_mem {n : Nat} : ∀ {ts : List T}, sameOks n ts = true → ∀ t ∈ ts, sameOk n t = true
  | t :: ts, h, u, hu => by
    simp only [sameOks, Bool.and_eq_true] at h
    rcases List.mem_cons.mp hu with rfl | hu
    · exact h.1
    · exact sameOks_mem h.2 u hu
theorem dSame_eq : ∀ (n : Nat) (t : T), sameOk n t = true → dSame (n + 1) [t, t] = some (.bl true) := by
  intro n
  induction n with
  | zero =>
    intro t h
    show dOf 4 2 (bSame (dSame 0)) [t, t] = _
    cases t with
    | int i => clear h; unfold dOf bSame; walk_at "ev"
    | non => clear h; unfold dOf bSame; walk_at "ev"
    | str x =>
      have h : SeqAt.shaped (.str x) = true := h
      have e := gEq_str_self h
      clear h
      unfold dOf bSame
      walk_at "ev"
    | bl b => cases h
    | ty b => cases h
    | tup b => cases h
    | lst b => cases h
    | scr b => cases h
    | dic => cases h
    | obj _ _ _ => cases h
    | ptr _ => cases h
    | exc _ _ _ => cases h
  | succ n ih =>
    intro t h
    show dOf 4 2 (bSame (dSame (n + 1))) [t, t] = _
    cases t with
    | int i => clear h ih; unfold dOf bSame; walk_at "ev"
    | non => clear h ih; unfold dOf bSame; walk_at "ev"
    | str x =>
      have h : SeqAt.shaped (.str x) = true := h
      have e := gEq_str_self h
      clear h ih
      unfold dOf bSame
      walk_at "ev"
    | bl b => cases h
    | ty b => cases h
    | scr b => cases h
    | dic => cases h
    | obj _ _ _ => cases h
    | ptr _ => cases h
    | exc _ _ _ => cases h
    | tup ts =>
      have hm := fun t ht => ih t (sameOks_mem h t ht)
      obtain ⟨u, v, hl⟩ := same_loop ts (some (.sh (.tup ts))) (some (.sh (.tup ts))) none none hm
      clear h ih hm
      unfold sameBody at hl
      unfold dOf bSame
      walk_at "ev"
    | lst ts =>
      have hm := fun t ht => ih t (sameOks_mem h t ht)
      obtain ⟨u, v, hl⟩ := same_loop ts (some (.sh (.lst ts))) (some (.sh (.lst ts))) none none hm
      clear h ih hm
      unfold sameBody at hl
      unfold dOf bSame
      walk_at "ev"
end TM

namespace TM
open PySem PySem.Spec PyProof.Rows L2
noncomputable def bMix : FS :=
    (fSeq (fSet 2 (fOp gMod (fOp gAdd (fOp gAdd (fVar 0) (fOp gMulI (fC (.int 7919)) (fVar 1))) (fC (.int 11))) (fC (.int 2147483647))))
    (fSeq (fSet 2 (fOp gMod (fOp gAdd (fOp gMulI (fVar 2) (fVar 2)) (fOp gMulI (fC (.int 48271)) (fVar 1))) (fC (.int 2147483629))))
    (fRet (fOp gMod (fOp gAdd (fOp gAdd (fOp gMulI (fVar 2) (fVar 2)) (fOp gMulI (fC (.int 7)) (fVar 2))) (fVar 1)) (fC (.int 2147483587))))))
noncomputable def bCell : FS :=
    (fSeq (fIfS (fTB (fOp gLt (fVar 1) (fCall dLen (fCons (fVar 0) fNil)))) (fRet (fOp gIx (fVar 0) (fVar 1))) fNext)
    (fSeq (fSet 2 (fOp gAdd (fOp gMulI (fC (.int 7919)) (fVar 1)) (fC (.int 5))))
    (fSeq (fIfS (fTB (fOp gGt (fCall dLen (fCons (fVar 0) fNil)) (fC (.int 0)))) (fSet 2 (fOp gMod (fOp gAdd (fOp gIx (fVar 0) (fOp gMod (fOp gMulI (fC (.int 7)) (fVar 1)) (fCall dLen (fCons (fVar 0) fNil)))) (fOp gMulI (fC (.int 7919)) (fVar 1))) (fC (.int 2147483647)))) fNext)
    (fRet (fOp gMod (fOp gMulI (fVar 2) (fVar 2)) (fC (.int 2147483629)))))))
theorem fmod_rng (a : Int) {b : Int} (h : 0 < b) : 0 ≤ a.fmod b ∧ a.fmod b < b := ⟨Int.fmod_nonneg_of_pos _ h, Int.fmod_lt_of_pos _ h⟩
noncomputable def mixA (c k : Int) : Int := (c + 7919 * k + 11).fmod 2147483647
noncomputable def mixB (c k : Int) : Int := (mixA c k * mixA c k + 48271 * k).fmod 2147483629
noncomputable def mixF (c k : Int) : Int := (mixB c k * mixB c k + 7 * mixB c k + k).fmod 2147483587
theorem mixF_rng (c k : Int) : 0 ≤ mixF c k ∧ mixF c k < 2147483587 := fmod_rng _ (by decide)
noncomputable def mMix : List T → Option T
  | [.int c, .int k] => if k.natAbs < B then some (.int (mixF c k)) else none
  | _ => none
theorem mMix_eq {c k : Int} (h : k.natAbs < B) : mMix [.int c, .int k] = some (.int (mixF c k)) := if_pos h
theorem num_B {n : Nat} (h : n < 2 ^ 64) : ((n : Int)).natAbs < B := by have := bigB; omega
theorem sp_mix (ts : List T) (t : T) (h : mMix ts = some t) : dOf 3 2 bMix ts = some t := by
  unfold mMix at h
  split at h
  · next c k =>
    split at h
    · next hk =>
      cases h
      have b1 : ((7919 : Int)).natAbs < B := num_B (n := 7919) (by decide)
      have b2 : ((48271 : Int)).natAbs < B := num_B (n := 48271) (by decide)
      have b3 : ((7 : Int)).natAbs < B := num_B (n := 7) (by decide)
      have r1 : (mixA c k).natAbs < B := by have := fmod_rng (c + 7919 * k + 11) (b := 2147483647) (by decide); exact ltB_of (by unfold mixA; omega) (by unfold mixA; omega)
      have r2 : (mixB c k).natAbs < B := by have := fmod_rng (mixA c k * mixA c k + 48271 * k) (b := 2147483629) (by decide); exact ltB_of (by unfold mixB; omega) (by unfold mixB; omega)
      have e1 : (c + 7919 * k + 11).fmod 2147483647 = mixA c k := rfl
      have e2 : (mixA c k * mixA c k + 48271 * k).fmod 2147483629 = mixB c k := rfl
      have e3 : (mixB c k * mixB c k + 7 * mixB c k + k).fmod 2147483587 = mixF c k := rfl
      have n1 : ¬ (2147483647 : Int) = 0 := by decide
      have n2 : ¬ (2147483629 : Int) = 0 := by decide
      have n3 : ¬ (2147483587 : Int) = 0 := by decide
      unfold dOf bMix
      walk_at "ev"
    · cases h
  · cases h
noncomputable def intsOf : List T → Option (List Int)
  | [] => some []
  | .int i :: ts => (intsOf ts).bind fun ns => some (i :: ns)
  | _ :: _ => none
theorem intsOf_map : ∀ ns : List Int, intsOf (ns.map T.int) = some ns
  | [] => rfl
  | n :: ns => by simp [intsOf, intsOf_map ns]
theorem intsOf_inv : ∀ {ts : List T} {ns : List Int}, intsOf ts = some ns → ts = ns.map T.int
  | [], ns, h => by cases h; rfl
  | .int i :: ts, ns, h => by
    obtain ⟨ms, e, h⟩ := bind_some h
    cases h
    rw [intsOf_inv e]; rfl
  | .non :: _, _, h => by cases h
  | .bl _ :: _, _, h => by cases h
  | .str _ :: _, _, h => by cases h
  | .ty _ :: _, _, h => by cases h
  | .tup _ :: _, _, h => by cases h
  | .lst _ :: _, _, h => by cases h
  | .scr _ :: _, _, h => by cases h
  | .dic :: _, _, h => by cases h
  | .obj _ _ _ :: _, _, h => by cases h
  | .ptr _ :: _, _, h => by cases h
  | .exc _ _ _ :: _, _, h => by cases h
noncomputable def cellN (ns : List Int) (k : Int) : Int := if 0 < ns.length then (ns.getD ((7 * k).fmod (ns.length : Int)).toNat 0 + 7919 * k).fmod 2147483647 else 7919 * k + 5
noncomputable def cellF (ns : List Int) (k : Int) : Int := if k < (ns.length : Int) then ns.getD k.toNat 0 else (cellN ns k * cellN ns k).fmod 2147483629
noncomputable def mCell : List T → Option T
  | [.scr ts, .int k] => (intsOf ts).bind fun ns => if 0 ≤ k ∧ k < 1000000 then some (.int (cellF ns k)) else none
  | _ => none
theorem mCell_eq {ns : List Int} {k : Int} (h0 : 0 ≤ k) (h1 : k < 1000000) : mCell [.scr (ns.map T.int), .int k] = some (.int (cellF ns k)) := by
  show (intsOf (ns.map T.int)).bind _ = _
  rw [intsOf_map]
  exact if_pos ⟨h0, h1⟩
theorem ix_ints {ns : List Int} {k : Int} (h0 : 0 ≤ k) (h1 : k < (ns.length : Int)) : gIx (.scr (ns.map T.int)) (.int k) = some (.int (ns.getD k.toNat 0)) := by
  show atI (ns.map T.int) k = _
  obtain ⟨j, rfl⟩ := Int.eq_ofNat_of_zero_le h0
  have hk : j < ns.length := by omega
  refine atI_nat ?_
  rw [List.getElem?_map, List.getElem?_eq_getElem hk]
  simp [List.getD, List.getElem?_eq_getElem hk]
theorem sp_cell (ts : List T) (t : T) (h : mCell ts = some t) : dOf 3 2 bCell ts = some t := by
  unfold mCell at h
  split at h
  · next us k =>
    obtain ⟨ns, e, h⟩ := bind_some h
    rw [intsOf_inv e]
    clear e
    split at h
    · next hk =>
      cases h
      obtain ⟨h0, h1⟩ := hk
      have b1 : ((7919 : Int)).natAbs < B := num_B (n := 7919) (by decide)
      have b3 : ((7 : Int)).natAbs < B := num_B (n := 7) (by decide)
      have bk : k.natAbs < B := ltB_of (by omega) (by omega)
      have n1 : ¬ (2147483647 : Int) = 0 := by decide
      have n2 : ¬ (2147483629 : Int) = 0 := by decide
      have hl : (ns.map T.int).length = ns.length := List.length_map ..
      unfold dOf bCell
      by_cases hc : k < (ns.length : Int)
      · have e1 := ix_ints h0 hc
        have e2 : cellF ns k = ns.getD k.toNat 0 := if_pos hc
        walk_at "ev"
      · have e2 : cellF ns k = (cellN ns k * cellN ns k).fmod 2147483629 := if_neg hc
        by_cases hn : (0 : Int) < (ns.length : Int)
        · have e3 : cellN ns k = (ns.getD ((7 * k).fmod (ns.length : Int)).toNat 0 + 7919 * k).fmod 2147483647 := if_pos (by omega)
          have r := fmod_rng (7 * k) hn
          have e4 := ix_ints (ns := ns) r.1 r.2
          have n3 : ¬ (ns.length : Int) = 0 := by omega
          have r2 : (cellN ns k).natAbs < B := by rw [e3]; have := fmod_rng (ns.getD ((7 * k).fmod (ns.length : Int)).toNat 0 + 7919 * k) (b := 2147483647) (by decide); exact ltB_of (by omega) (by omega)
          rw [e3] at r2 e2
          clear e3 r
          walk_at "ev"
        · have e3 : cellN ns k = 7919 * k + 5 := if_neg (by omega)
          have r2 : (7919 * k + 5).natAbs < B := ltB_of (by omega) (by omega)
          rw [e3] at e2
          clear e3
          walk_at "ev"
    · cases h
  · cases h
end TM

namespace TM
open PySem PySem.Spec PyProof.Rows L2
noncomputable def clF (env : Env) : List (Str × NameKind) → List (Str × Addr) → List (Str × Addr)
  | [], acc => acc
  | (x, k) :: r, acc => if k == .free then clF env r ((x, (env.cells.lookup x).getD 0) :: acc) else clF env r acc
theorem closure_key (f : Str × NameKind → List (Str × Addr) → Sem (ForInStep (List (Str × Addr)))) (hf : ∀ x k cs, f (x, k) cs = if k == .free then (do let a ← cellOf env x; pure (.yield ((x, a) :: cs))) else pure (.yield cs)) :
    ∀ (names : List (Str × NameKind)) (acc : List (Str × Addr)), (∀ y ∈ names, y.2 = .free → ∃ c, env.cells.lookup y.1 = some c) → forIn names acc f = pure (clF env names acc)
  | [], acc, _ => by rw [List.forIn_nil]; rfl
  | (x, k) :: r, acc, hy => by
    rw [List.forIn_cons, hf]
    have ih := closure_key f hf r
    have hr : ∀ y ∈ r, y.2 = .free → ∃ c, env.cells.lookup y.1 = some c := fun z hz => hy z (List.mem_cons_of_mem _ hz)
    cases hk : (k == NameKind.free) with
    | true =>
      obtain ⟨c, hc⟩ := hy (x, k) List.mem_cons_self (beq_iff_eq.mp hk)
      dsimp only at hc
      simp only [if_true, clF, hc, cellOf, pure_bind, Option.getD_some, hk]
      exact ih _ hr
    | false =>
      simp only [Bool.false_eq_true, if_false, clF, pure_bind, hk]
      exact ih _ hr
theorem closure_eq {env : Env} {scope : Scope} (h : ∀ y ∈ scope.names, y.2 = .free → ∃ c, env.cells.lookup y.1 = some c) : closureFor scope env = pure (clF env scope.names []) := by
  simp only [closureFor]
  rw [closure_key (env := env) _ (fun x k cs => by cases hk : k == NameKind.free <;> simp [hk]) scope.names [] h]
  rfl
theorem clF_mem {env : Env} : ∀ (names : List (Str × NameKind)) (acc : List (Str × Addr)) (x : Str) (c : Addr), (∀ y ∈ names, y.2 = .free → ∃ c, env.cells.lookup y.1 = some c) → (x, c) ∈ clF env names acc → (x, c) ∈ acc ∨ (env.cells.lookup x = some c ∧ (x, NameKind.free) ∈ names)
  | [], acc, x, c, _, h => .inl h
  | (y, k) :: r, acc, x, c, hy, h => by
    unfold clF at h
    have hr : ∀ z ∈ r, z.2 = .free → ∃ c, env.cells.lookup z.1 = some c := fun z hz => hy z (List.mem_cons_of_mem _ hz)
    cases hk : (k == NameKind.free) with
    | true =>
      rw [if_pos hk] at h
      rcases clF_mem r _ x c hr h with h | h
      · rcases List.mem_cons.mp h with h | h
        · cases h
          obtain ⟨c, hc⟩ := hy (y, k) List.mem_cons_self (beq_iff_eq.mp hk)
          dsimp only at hc
          refine .inr ⟨by rw [hc]; rfl, ?_⟩
          rw [beq_iff_eq.mp hk]
          exact List.mem_cons_self
        · exact .inl h
      · exact .inr ⟨h.1, List.mem_cons_of_mem _ h.2⟩
    | false =>
      rw [if_neg (by rw [hk]; decide)] at h
      rcases clF_mem r _ x c hr h with h | h
      · exact .inl h
      · exact .inr ⟨h.1, List.mem_cons_of_mem _ h.2⟩
theorem lookup_some_of_mem : ∀ {l : List (Str × Addr)} {x : Str} {c : Addr}, (x, c) ∈ l → ∃ d, l.lookup x = some d
  | (y, d) :: r, x, c, h => by
    rw [List.lookup_cons]
    cases hb : x == y with
    | true => exact ⟨d, rfl⟩
    | false =>
      rcases List.mem_cons.mp h with h | h
      · cases h; simp at hb
      · exact lookup_some_of_mem h
theorem clF_has : ∀ (names : List (Str × NameKind)) (acc : List (Str × Addr)) (x : Str), ((x, NameKind.free) ∈ names ∨ ∃ c, (x, c) ∈ acc) → ∃ c, (x, c) ∈ clF env names acc
  | [], acc, x, h => by
    rcases h with h | h
    · cases h
    · exact h
  | (y, k) :: r, acc, x, h => by
    unfold clF
    cases hk : (k == NameKind.free) with
    | true =>
      rw [if_pos rfl]
      refine clF_has r _ x ?_
      rcases h with h | ⟨c, h⟩
      · rcases List.mem_cons.mp h with h | h
        · cases h; exact .inr ⟨_, List.mem_cons_self⟩
        · exact .inl h
      · exact .inr ⟨c, List.mem_cons_of_mem _ h⟩
    | false =>
      rw [if_neg (by decide)]
      refine clF_has r _ x ?_
      rcases h with h | h
      · rcases List.mem_cons.mp h with h | h
        · cases h; cases hk
        · exact .inl h
      · exact .inr h
theorem cf_mem : ∀ (names : List (Str × NameKind)) (n : Nat) (acc : List (Str × Addr)) (x : Str) (c : Addr), (x, c) ∈ cellsFrom n names acc → (x, c) ∈ acc ∨ (n ≤ c ∧ (x, NameKind.cell) ∈ names)
  | [], n, acc, x, c, h => .inl h
  | (y, k) :: r, n, acc, x, c, h => by
    unfold cellsFrom at h
    cases hk : (k == NameKind.cell) with
    | true =>
      rw [if_pos hk] at h
      rcases cf_mem r _ _ x c h with h | ⟨h1, h2⟩
      · rcases List.mem_cons.mp h with h | h
        · cases h
          refine .inr ⟨Nat.le_refl _, ?_⟩
          rw [beq_iff_eq.mp hk]
          exact List.mem_cons_self
        · exact .inl h
      · exact .inr ⟨Nat.le_of_succ_le h1, List.mem_cons_of_mem _ h2⟩
    | false =>
      rw [if_neg (by rw [hk]; decide)] at h
      rcases cf_mem r _ _ x c h with h | ⟨h1, h2⟩
      · exact .inl h
      · exact .inr ⟨h1, List.mem_cons_of_mem _ h2⟩
theorem cf_inj : ∀ (names : List (Str × NameKind)) (n : Nat) (acc : List (Str × Addr)), (∀ x y c, (x, c) ∈ acc → (y, c) ∈ acc → x = y) → (∀ x c, (x, c) ∈ acc → @LT.lt Nat _ c n) → ∀ x y c, (x, c) ∈ cellsFrom n names acc → (y, c) ∈ cellsFrom n names acc → x = y
  | [], n, acc, h1, _, x, y, c, h, h' => h1 x y c h h'
  | (z, k) :: r, n, acc, h1, h2, x, y, c, h, h' => by
    unfold cellsFrom at h h'
    cases hk : (k == NameKind.cell) with
    | true =>
      rw [if_pos hk] at h h'
      refine cf_inj r (n + 1) _ (fun a b d ha hb => ?_) (fun a d ha => ?_) x y c h h'
      · rcases List.mem_cons.mp ha with ha | ha <;> rcases List.mem_cons.mp hb with hb | hb
        · cases ha; cases hb; rfl
        · cases ha; exact absurd (h2 _ _ hb) (Nat.lt_irrefl _)
        · cases hb; exact absurd (h2 _ _ ha) (Nat.lt_irrefl _)
        · exact h1 a b d ha hb
      · rcases List.mem_cons.mp ha with ha | ha
        · cases ha; exact Nat.lt_succ_self _
        · exact Nat.lt_succ_of_lt (h2 _ _ ha)
    | false =>
      rw [if_neg (by rw [hk]; decide)] at h h'
      exact cf_inj r n acc h1 h2 x y c h h'
theorem cf_has : ∀ (names : List (Str × NameKind)) (n : Nat) (acc : List (Str × Addr)) (x : Str), ((x, NameKind.cell) ∈ names ∨ ∃ c, (x, c) ∈ acc) → ∃ c, (x, c) ∈ cellsFrom n names acc
  | [], n, acc, x, h => by
    rcases h with h | h
    · cases h
    · exact h
  | (y, k) :: r, n, acc, x, h => by
    unfold cellsFrom
    cases hk : (k == NameKind.cell) with
    | true =>
      rw [if_pos rfl]
      refine cf_has r _ _ x ?_
      rcases h with h | ⟨c, h⟩
      · rcases List.mem_cons.mp h with h | h
        · cases h; exact .inr ⟨_, List.mem_cons_self⟩
        · exact .inl h
      · exact .inr ⟨c, List.mem_cons_of_mem _ h⟩
    | false =>
      rw [if_neg (by decide)]
      refine cf_has r _ _ x ?_
      rcases h with h | h
      · rcases List.mem_cons.mp h with h | h
        · cases h; cases hk
        · exact .inl h
      · exact .inr h
theorem cf_cell : ∀ (names : List (Str × NameKind)) (h : Heap) (acc : List (Str × Addr)) (x : Str) (c : Addr), (x, c) ∈ cellsFrom h.objs.size names acc → (x, c) ∈ acc ∨ (pushCells h names).IsCell c none
  | [], h, acc, x, c, m => .inl m
  | (y, k) :: r, h, acc, x, c, m => by
    unfold cellsFrom at m
    unfold pushCells
    cases hk : (k == NameKind.cell) with
    | true =>
      rw [if_pos hk] at m
      rw [if_pos rfl]
      have m' : (x, c) ∈ cellsFrom (h.push { cls := .type "cell", data := .cell none }).objs.size r ((y, h.objs.size) :: acc) := by rw [Heap.size_push]; exact m
      rcases cf_cell r _ _ x c m' with m | m
      · rcases List.mem_cons.mp m with m | m
        · cases m
          refine .inr ?_
          have q : (h.push { cls := .type "cell", data := .cell none }).IsCell h.objs.size none := ⟨_, Heap.get?_push_size _ rfl, rfl⟩
          exact q.keeps fun b o e => pushCells_keeps r _ b o e
        · exact .inl m
      · exact .inr m
    | false =>
      rw [if_neg (by rw [hk]; decide)] at m
      rw [if_neg (by decide)]
      exact cf_cell r h acc x c m
end TM

namespace TM
open PySem PySem.Spec PyProof.Rows L2
noncomputable def blkEnv (X : Cx) (scope : Scope) (C : Addr) (cs : List (Str × Addr)) : Env :=
  { newEnv scope C X.env.globals cs X.env.qual none .none (some X.env) builtinsNs with scope := relabel scope X.env }
noncomputable def blk (X : Cx) (scope : Scope) (N' : List Str) (C : Addr) (cs : List (Str × Addr)) (s₀ : Shared) (H₀ : Hp) (fp : List Addr) (pins : List (Addr × Obj)) : Cx :=
  { X with N := N', s₀ := s₀, H₀ := H₀, env := blkEnv X scope C cs, outer := X.stack, stack := X.stack, ex := fp, fn := fun x => scope.names.lookup x == some .cell, pn := X.pn ++ pins, xe := fun _ _ => False }
structure BlkScope (X : Cx) (scope : Scope) : Prop where
  kind : scope.kind = .function
  names : ∀ y ∈ scope.names, y.2 = .local → scope.names.lookup y.1 = some .local
  free : ∀ y ∈ scope.names, y.2 = .free → (X.env.kindOf y.1 = some .cell ∨ X.env.kindOf y.1 = some .free) ∧ (y.1, NameKind.cell) ∉ scope.names ∧ scope.names.lookup y.1 = some .free
theorem mem_of_lookupK : ∀ {l : List (Str × NameKind)} {x : Str} {k : NameKind}, l.lookup x = some k → (x, k) ∈ l
  | (y, d) :: r, x, k, h => by
    rw [List.lookup_cons] at h
    cases hb : x == y with
    | true => rw [hb] at h; cases h; rw [beq_iff_eq.mp hb]; exact List.mem_cons_self
    | false => rw [hb] at h; exact List.mem_cons_of_mem _ (mem_of_lookupK h)
theorem lookup_relabel_free {env : Env} : ∀ {names : List (Str × NameKind)} {x : Str}, names.lookup x = some .free →
    ((names.map fun (n, k) => if (k == NameKind.free && env.scope.kind == .function && env.kindOf n == some .cell) then (n, NameKind.cell) else (n, k)).lookup x = some .cell ∨
     (names.map fun (n, k) => if (k == NameKind.free && env.scope.kind == .function && env.kindOf n == some .cell) then (n, NameKind.cell) else (n, k)).lookup x = some .free)
  | (n, k) :: r, x, h => by
    rw [List.lookup_cons] at h
    have en : ∀ y : Str × NameKind, y = (if (k == NameKind.free && env.scope.kind == .function && env.kindOf n == some .cell) = true then (n, NameKind.cell) else (n, k)) → y.1 = n ∧ (y.2 = .cell ∨ y.2 = k) := fun y e => by
      subst e
      split
      · exact ⟨rfl, .inl rfl⟩
      · exact ⟨rfl, .inr rfl⟩
    rw [List.map_cons]
    dsimp only
    generalize hy : (if (k == NameKind.free && env.scope.kind == .function && env.kindOf n == some .cell) = true then (n, NameKind.cell) else (n, k)) = y
    obtain ⟨e1, e2⟩ := en y hy.symm
    obtain ⟨a, b⟩ := y
    dsimp only at e1 e2
    subst e1
    rw [List.lookup_cons]
    cases hb : x == a with
    | true =>
      rw [hb] at h
      cases h
      rcases e2 with rfl | rfl
      · exact .inl rfl
      · exact .inr rfl
    | false =>
      rw [hb] at h
      exact lookup_relabel_free h
theorem relabel_mem {X : Cx} {scope : Scope} {x : Str} (h : (blkEnv X scope C cs).kindOf x = some .cell ∨ (blkEnv X scope C cs).kindOf x = some .free) : (x, NameKind.cell) ∈ scope.names ∨ (x, NameKind.free) ∈ scope.names := by
  have key : ∀ k, (blkEnv X scope C cs).kindOf x = some k → (k = .cell ∨ k = .free) → (x, NameKind.cell) ∈ scope.names ∨ (x, NameKind.free) ∈ scope.names := fun k h hk => by
    have m := mem_of_lookupK (show (relabel scope X.env).names.lookup x = some k from h)
    unfold relabel at m
    obtain ⟨⟨y, j⟩, m1, m2⟩ := List.mem_map.mp m
    dsimp only at m2
    split at m2
    · next hc =>
      cases m2
      simp only [Bool.and_eq_true, beq_iff_eq] at hc
      rw [hc.1.1] at m1
      exact .inr m1
    · cases m2
      rcases hk with rfl | rfl
      · exact .inl m1
      · exact .inr m1
  rcases h with h | h
  · exact key _ h (.inl rfl)
  · exact key _ h (.inr rfl)
section
variable {X : Cx} {pins : List (Addr × Obj)} {σ : L2.St} {H : Hp} {s : Shared} {scope : Scope} {fp : List Addr} {N' : List Str} {σ' : L2.St}
noncomputable abbrev accOb : Obj := { cls := .type "list", dict := none, data := .seq ([] : List Value).toArray }
noncomputable abbrev dicOb : Obj := { cls := .type "dict", data := .dict #[] }
noncomputable def h0 (h : Heap) (scope : Scope) : Heap := pushCells ((h.push accOb).push dicOb) scope.names
theorem h0_keep {h : Heap} {b : Addr} {o : Obj} (e : h.get? b = some o) : (h0 h scope).get? b = some o := pushCells_keeps _ _ _ _ (Heap.get?_push_of_some _ (Heap.get?_push_of_some _ e))
theorem h0_acc (h : Heap) : (h0 h scope).get? h.objs.size = some accOb := pushCells_keeps _ _ _ _ (Heap.get?_push_of_some _ (Heap.get?_push_size _ rfl))
theorem blk_start (I : Inv X pins σ H s) (B : BlkScope X scope) (hf : ∀ b ∈ fp, FpOk X pins H b) (ho : ∀ b ∈ fp, ∃ o, s.heap.get? b = some o) (hl : σ'.length = N'.length)
    (cap : ∀ (i : Nat) (x : Str) (v : V), N'[i]? = some x → σ'[i]? = some (some v) → ((x, NameKind.free) ∈ scope.names ∧ ∃ j : Nat, X.N[j]? = some x ∧ σ[j]? = some (some v)) ∨ ¬ Vis (relabel scope X.env) x) {tk : Nat} :
    Inv (blk X scope N' (s.heap.objs.size + 1) (cellsFrom (s.heap.objs.size + 2) scope.names (clF X.env scope.names [])) s H fp pins) [] σ' (upd H s.heap.objs.size (.lst [])) { s with heap := h0 s.heap scope, toks := tk } := by
  have hz1 : (s.heap.push accOb).objs.size = s.heap.objs.size + 1 := Heap.size_push ..
  have hz2 : ((s.heap.push accOb).push dicOb).objs.size = s.heap.objs.size + 2 := by rw [Heap.size_push, hz1]
  have hfree : ∀ y ∈ scope.names, y.2 = .free → ∃ c, X.env.cells.lookup y.1 = some c := fun y hy hk => I.ok.has y.1 (B.free y hy hk).1
  have clm : ∀ x c, (x, c) ∈ clF X.env scope.names [] → X.env.cells.lookup x = some c ∧ (x, NameKind.free) ∈ scope.names := fun x c h => by
    rcases clF_mem _ _ x c hfree h with h | h
    · cases h
    · exact h
  have cl_lt : ∀ x c, (x, c) ∈ clF X.env scope.names [] → @LT.lt Nat _ c s.heap.objs.size := fun x c h => by
    obtain ⟨v, q⟩ := I.cell x c (clm x c h).1
    exact q.lt
  have csm : ∀ x c, (x, c) ∈ cellsFrom (s.heap.objs.size + 2) scope.names (clF X.env scope.names []) → (X.env.cells.lookup x = some c ∧ (x, NameKind.free) ∈ scope.names ∧ @LT.lt Nat _ c s.heap.objs.size) ∨ (@LE.le Nat _ (s.heap.objs.size + 2) c ∧ (x, NameKind.cell) ∈ scope.names) := fun x c h => by
    rcases cf_mem _ _ _ x c h with h | h
    · exact .inl ⟨(clm x c h).1, (clm x c h).2, cl_lt x c h⟩
    · exact .inr h
  have hD : H s.heap.objs.size = none := I.fresh
  have up : ∀ b : Addr, @LT.lt Nat _ b s.heap.objs.size → upd H s.heap.objs.size (.lst []) b = H b := fun b hb => upd_ne (Nat.ne_of_lt hb)
  have upF : ∀ b : Addr, @LT.lt Nat _ s.heap.objs.size b → upd H s.heap.objs.size (.lst []) b = none := fun b hb => by rw [upd_ne (Nat.ne_of_gt hb)]; exact I.hok.fresh (Nat.le_of_lt hb)
  have flt : ∀ b ∈ fp, @LT.lt Nat _ b s.heap.objs.size := fun b hb => by obtain ⟨o, e⟩ := ho b hb; exact Heap.lt_size e
  refine ⟨⟨I.ok.mod, B.kind, I.ok.glob, I.ok.blt, Nat.le_succ _, fun x y c h1 h2 => ?_, fun x hx => ?_, fun x c hx h => ?_, I.ok.hd, I.ok.frames, .inl rfl, fun b hb => ⟨?_, fun x c h => ?_⟩, I.bs, Nat.le_trans I.ok.bsz I.sz, fun b o e hb => ?_, fun b hb z => ?_, I.stack, I.stkFree⟩,
    rfl, I.bare, ?_, ⟨fun _ => none, ?_, fun i x v e1 e2 e3 => ?_⟩, fun x c h => ?_, upF _ (Nat.lt_succ_self _), fun x c h => ?_, fun p hp => ?_, ?_, hl⟩
  · exact cf_inj _ _ _ (fun a b d ha hb => I.ok.inj a b d (clm a d ha).1 (clm b d hb).1) (fun a d ha => Nat.lt_of_lt_of_le (cl_lt a d ha) (Nat.le_add_right _ 2)) x y c (PySem.mem_of_lookup h1) (PySem.mem_of_lookup h2)
  · have hm : ∃ c, (x, c) ∈ cellsFrom (s.heap.objs.size + 2) scope.names (clF X.env scope.names []) := by
      rcases relabel_mem hx with h | h
      · exact cf_has _ _ _ x (.inl h)
      · exact cf_has _ _ _ x (.inr (clF_has _ _ x (.inl h)))
    obtain ⟨c, hm⟩ := hm
    exact lookup_some_of_mem hm
  · have hx' : scope.names.lookup x = some .cell := beq_iff_eq.mp hx
    rcases csm x c (PySem.mem_of_lookup h) with ⟨_, h2, _⟩ | ⟨h1, _⟩
    · exact absurd (mem_of_lookupK hx') (B.free _ h2 rfl).2.1
    · exact Nat.le_trans (Nat.le_add_right _ 2) h1
  · exact Nat.ne_of_lt (Nat.lt_succ_of_lt (flt b hb))
  · rcases csm x c (PySem.mem_of_lookup h) with ⟨h1, _, _⟩ | ⟨h1, _⟩
    · exact (hf b hb).2.2.2.2.1 x c h1
    · exact Nat.ne_of_gt (Nat.lt_of_lt_of_le (flt b hb) (Nat.le_trans (Nat.le_add_right _ 2) h1))
  · rcases (hf b hb).2.2.2.1 with z | z
    · exact I.ok.noex b o e z
    · exact absurd (Nat.lt_of_lt_of_le (Heap.lt_size e) (Nat.le_trans I.ok.bsz z)) (Nat.lt_irrefl _)
  · rcases List.mem_cons.mp (I.stkSub b z) with z | z
    · exact (hf b hb).2.1 z
    · exact (hf b hb).2.2.1 z
  · exact Un.laid (fun b o e => h0_keep e) (Nat.le_refl _) hD
  · have q := Heap.Ns.new (s.heap.push accOb) (.type "dict")
    rw [hz1] at q
    exact q.keeps fun b o e => pushCells_keeps _ _ b o e
  · rcases cap i x v e1 e2 with ⟨hx, j, hj, hv⟩ | hn
    · obtain ⟨m, hm, hlk⟩ := I.loc
      have hk := (B.free _ hx rfl).1
      have vis : Vis X.env.scope x := by
        rcases hk with hk | hk
        · exact .inr (.inl hk)
        · exact .inr (.inr hk)
      obtain ⟨u, r, l⟩ := hlk j x v hj hv vis
      refine ⟨u, r, .inr ?_⟩
      rcases l with ⟨z, _⟩ | ⟨_, c, hc, hcell⟩
      · rcases hk with hk | hk <;> (rw [show X.env.kindOf x = X.env.scope.names.lookup x from rfl] at hk z; rw [hk] at z; cases z)
      · obtain ⟨c', hc'⟩ := lookup_some_of_mem (Classical.choose_spec (cf_has scope.names (s.heap.objs.size + 2) (clF X.env scope.names []) x (.inr (clF_has _ _ x (.inl hx)))))
        have ec : c' = c := by
          rcases csm x c' (PySem.mem_of_lookup hc') with ⟨h1, _, _⟩ | ⟨_, h2⟩
          · rw [hc] at h1; exact (Option.some.inj h1).symm
          · exact absurd h2 (B.free _ hx rfl).2.1
        subst ec
        refine ⟨?_, c', hc', hcell.keeps fun b o e => h0_keep e⟩
        rcases e3 with e3 | e3 | e3
        · rcases lookup_relabel_free (env := X.env) (B.free _ hx rfl).2.2 with q | q
          · exact .inl q
          · exact .inr q
        · exact .inl e3
        · exact .inr e3
    · exact absurd e3 hn
  · rcases cf_cell scope.names ((s.heap.push accOb).push dicOb) (clF X.env scope.names []) x c (by rw [hz2]; exact PySem.mem_of_lookup h) with m | m
    · obtain ⟨v, q⟩ := I.cell x c (clm x c m).1
      exact ⟨v, q.keeps fun b o e => h0_keep e⟩
    · exact ⟨none, m⟩
  · rcases csm x c (PySem.mem_of_lookup h) with ⟨h1, _, h3⟩ | ⟨h1, _⟩
    · rw [up c h3]; exact I.freeC x c h1
    · exact upF c (Nat.lt_of_lt_of_le (Nat.lt_add_of_pos_right (by decide)) h1)
  · have hp' : p ∈ X.pn ++ pins := by simpa [blk] using hp
    obtain ⟨e, n, ne, nf, d⟩ := I.pin p hp'
    have lt : @LT.lt Nat _ p.1 s.heap.objs.size := Heap.lt_size e
    refine ⟨h0_keep e, by rw [up _ lt]; exact n, Nat.ne_of_lt (Nat.lt_succ_of_lt lt), fun z => ?_, d⟩
    rcases List.mem_cons.mp (I.stkSub _ z) with z | z
    · exact ne z
    · exact nf z
  · exact I.hok.laid (fun b o e => h0_keep e) (Nat.le_refl _) ⟨Nat.zero_le _, [], 0, .nil, h0_acc s.heap⟩
end
end TM

namespace TM
open PySem PySem.Spec PyProof.Rows L2
noncomputable abbrev testsOf (ifs : List Expr) (env : Env) : Sem Bool := forIn ifs true fun c r => if r = true then do let ok ← isTrue c env (eval c env); pure (ForInStep.yield ok) else pure (ForInStep.yield r)
theorem comp_loop {prog : Program} {w : World} {A : Around} {R : Result → Shared → Prop} {s : Shared} {elt target iter : Expr} {ifs : List Expr} {scope : Scope} {pos : Pos} {it acc : Value} {env : Env} (I : Nat → Shared → Prop)
    (turn : ∀ n s, I n s → wpAny (model prog w) A (pyNext it) (fun r s₁ => match r with
      | none => R (.ok .next) s₁
      | some v => wpAny (model prog w) A (letOwnedTupleGo target it v) (fun _ s₂ => wpAny (model prog w) A (assign target env v) (fun _ s₃ => wpAny (model prog w) A (testsOf ifs env) (fun ok s₄ =>
          if ok = true then wpAny (model prog w) A (eval elt env) (fun x s₅ => wpAny (model prog w) A (call (.builtin "list.append") [acc, x]) (fun _ s₆ => ∃ m, m < n ∧ I m s₆) (fun _ _ => False) s₅) (fun _ _ => False) s₄
          else ∃ m, m < n ∧ I m s₄) (fun _ _ => False) s₃) (fun _ _ => False) s₂) (fun _ _ => False) s₁) (fun _ _ => False) s)
    (n : Nat) (h : I n s) : codeAny (model prog w) A (.compLoop (.ListComp elt [⟨target, iter, ifs, 0⟩] scope pos) 0 it acc env) R s := by
  have no : ∀ {α : Type} {m : Sem α} {Q : α → Shared → Prop} {E : Value → Shared → Prop} {s : Shared}, wpAny (model prog w) A m Q (fun _ _ => False) s → wpAny (model prog w) A m Q E s := fun h => wpAny_mono h (fun _ _ q => q) fun _ _ z => z.elim
  refine codeAny_loop rfl I (fun n s hI => ?_) n h
  refine (wpAny_noted ?_ : wpAny _ A ((compTurn (.ListComp elt [⟨target, iter, ifs, 0⟩] scope pos) 0 it acc env).onRaise (fun x => do noteFrame x env; theTreesLotGoes x)) _ _ s)
  rw [compTurn_list]
  refine wpAny_bind (wpAny_standAt (wpAny_bind (wpAny_mono (no (turn n s hI)) (fun r s₁ h₁ => ?_) fun _ _ z => z)))
  cases r with
  | none => exact wpAny_pure h₁
  | some v =>
    refine wpAny_bind (wpAny_mono (no h₁) (fun _ s₂ h₂ => wpAny_bind (wpAny_mono (no h₂) (fun _ s₃ h₃ => wpAny_bind (wpAny_mono (no h₃) (fun ok s₄ h₄ => ?_) fun _ _ z => z)) fun _ _ z => z)) fun _ _ z => z)
    cases ok with
    | false => exact wpAny_pure ⟨rfl, h₄⟩
    | true => exact wpAny_bind (wpAny_bind (wpAny_mono (no h₄) (fun x s₅ h₅ => wpAny_bind (wpAny_mono (no h₅) (fun _ s₆ h₆ => wpAny_pure (wpAny_pure ⟨rfl, h₆⟩)) fun _ _ z => z)) fun _ _ z => z))
noncomputable def allSh : TEnv → Bool
  | [] => true
  | some (.own _) :: _ => false
  | _ :: r => allSh r
theorem allSh_get : ∀ {τ : TEnv} {i : Nat} {ts : List T}, allSh τ = true → τ[i]? ≠ some (some (.own ts))
  | [], i, ts, _ => by simp
  | some (.own _) :: _, i, ts, h => by cases h
  | some (.sh t) :: r, 0, ts, h => by simp
  | none :: r, 0, ts, h => by simp
  | some (.sh t) :: r, i + 1, ts, h => by rw [List.getElem?_cons_succ]; exact allSh_get (τ := r) h
  | none :: r, i + 1, ts, h => by rw [List.getElem?_cons_succ]; exact allSh_get (τ := r) h
noncomputable def compT (fg : FG) (ft : FT) (fe : FE) : List T → TEnv → List T → Option (List T)
  | [], _, acc => some acc
  | t :: ts, τ, acc => (fg t τ).bind fun τ1 => (ft τ1).bind fun p => if p.1 = true then (fe p.2).bind fun q => if allSh q.2 = true ∧ acc.length < sizeLine then compT fg ft fe ts q.2 (acc ++ [q.1]) else none
    else if allSh p.2 = true then compT fg ft fe ts p.2 acc else none
noncomputable def frz1 (j : Nat) (τ : TEnv) : TEnv := match τ[j]? with
  | some (some (.own ts)) => τ.set j (some (.sh (.lst ts)))
  | _ => τ
noncomputable def frzAll : List Nat → TEnv → TEnv
  | [], τ => τ
  | j :: r, τ => frzAll r (frz1 j τ)
noncomputable def capOf {α : Type} (l : List (Option α)) (j : Nat) : Option α := match l[j]? with
  | some x => x
  | none => none
noncomputable def blkOf {α : Type} (no : Nat) (cap : List Nat) (l : List (Option α)) : List (Option α) := List.replicate no none ++ cap.map (capOf l)
noncomputable def fComp (no : Nat) (cap : List Nat) (fi : FA) (fg : FG) (ft : FT) (fe : FE) : FE := fun τ => (fi τ).bind fun p =>
  if allSh (blkOf no cap (frzAll cap p.2)) = true then (compT fg ft fe p.1 (blkOf no cap (frzAll cap p.2)) []).bind fun us => some (.lst us, frzAll cap p.2) else none
noncomputable def fAlways : FT := fun τ => some (true, τ)
noncomputable def STs (X : Cx) (ifs : List Expr) (ft : FT) : Prop := ∀ F₀ H₀ pins s σ H Q, Inv X pins σ H s → tT X.K F₀ H₀ ft σ H Q → wpAny (model X.prog X.w) X.A (testsOf ifs X.env) (TP X pins σ Q) X.xe s
theorem sts_nil {X : Cx} : STs X [] fAlways := fun F₀ H₀ pins s σ H Q I hq__ => by
  obtain ⟨F, τ, b, τ', E, e, q⟩ := hq__
  cases e
  exact wpAny_tests_nil ⟨H, I, q F H E (Same.refl _)⟩
theorem sts_one {X : Cx} {c : Expr} {ft : FT} (h : ST X c ft) : STs X [c] ft := fun F₀ H₀ pins s σ H Q I q => wpAny_tests_one (h F₀ H₀ pins s σ H Q I q)
section
variable {K : PySem.W.Frag} {F₀ H₀ F H : Hp} {σ : L2.St} {τ : TEnv}
theorem EnvOk.frz1 (E : EnvOk K F₀ H₀ F H σ τ) (j : Nat) : ∃ F', EnvOk K F₀ H₀ F' H σ (TM.frz1 j τ) ∧ Same F F' := by
  unfold TM.frz1
  split
  · next ts e =>
    obtain ⟨F', v, _, E', s', _⟩ := E.freeze e
    exact ⟨F', E', s'⟩
  · exact ⟨F, E, Same.refl _⟩
theorem EnvOk.frzAll : ∀ (cap : List Nat) {F : Hp} {τ : TEnv}, EnvOk K F₀ H₀ F H σ τ → ∃ F', EnvOk K F₀ H₀ F' H σ (TM.frzAll cap τ) ∧ Same F F'
  | [], F, τ, E => ⟨F, E, Same.refl _⟩
  | j :: r, F, τ, E => by
    obtain ⟨F1, E1, s1⟩ := E.frz1 j
    obtain ⟨F2, E2, s2⟩ := EnvOk.frzAll r E1
    exact ⟨F2, E2, s1.trans s2⟩
theorem EnvOk.rebase {H' : Hp} (E : EnvOk K F₀ H₀ F H σ τ) (ha : allSh τ = true) (s : Same F H') : EnvOk K F H' F H' σ τ := by
  refine ⟨Grow.refl s, E.len, fun i sl e => ?_, fun i j ts us p _ e1 => absurd e1 (allSh_get ha)⟩
  obtain ⟨v, h1, h2⟩ := E.sl i sl e
  cases sl with
  | sh t => exact ⟨v, h1, h2⟩
  | own ts => exact absurd e (allSh_get ha)
theorem blkOf_get {α : Type} {no : Nat} {cap : List Nat} {l : List (Option α)} {i : Nat} {x : α} (h : (blkOf no cap l)[i]? = some (some x)) : ∃ k j : Nat, i = no + k ∧ cap[k]? = some j ∧ l[j]? = some (some x) := by
  unfold blkOf at h
  by_cases hi : i < no
  · rw [List.getElem?_append_left (by simpa using hi), List.getElem?_replicate] at h
    split at h <;> cases h
  · rw [List.getElem?_append_right (by simpa using hi), List.length_replicate, List.getElem?_map] at h
    cases e : cap[i - no]? with
    | none => rw [e] at h; cases h
    | some j =>
      rw [e] at h
      have h' : capOf l j = some x := Option.some.inj h
      unfold capOf at h'
      split at h'
      · next y ey => exact ⟨i - no, j, by omega, e, by rw [ey, h']⟩
      · cases h'
theorem blkOf_set {α : Type} {no : Nat} {cap : List Nat} {l : List (Option α)} {k j : Nat} {x : α} (h1 : cap[k]? = some j) (h2 : l[j]? = some (some x)) : (blkOf no cap l)[no + k]? = some (some x) := by
  unfold blkOf
  rw [List.getElem?_append_right (by simp), List.length_replicate, Nat.add_sub_cancel_left, List.getElem?_map, h1]
  show some (capOf l j) = _
  unfold capOf
  rw [h2]
theorem EnvOk.block {H' : Hp} {no : Nat} {cap : List Nat} (E : EnvOk K F₀ H₀ F H σ τ) (ha : allSh (blkOf no cap τ) = true) (s : Same F H') : EnvOk K F H' F H' (blkOf no cap σ) (blkOf no cap τ) := by
  refine ⟨Grow.refl s, by simp [blkOf], fun i sl e => ?_, fun i j ts us p _ e1 => absurd e1 (allSh_get ha)⟩
  obtain ⟨k, j, rfl, hk, hj⟩ := blkOf_get e
  obtain ⟨v, h1, h2⟩ := E.sl j sl hj
  refine ⟨v, blkOf_set hk h1, ?_⟩
  cases sl with
  | sh t => exact h2
  | own ts => exact absurd e (allSh_get ha)
end
section
variable {X : Cx}
end
noncomputable def blkCheck (sc scope : Scope) : Bool := scope.kind == .function && scope.names.all fun y => (y.2 != .local || scope.names.lookup y.1 == some .local) &&
  (y.2 != .free || ((sc.names.lookup y.1 == some .cell || sc.names.lookup y.1 == some .free) && scope.names.all (fun z => !(z.1 == y.1 && z.2 == .cell)) && scope.names.lookup y.1 == some .free))
theorem blkScope_of {X : Cx} {scope : Scope} (h : blkCheck X.env.scope scope = true) : BlkScope X scope := by
  unfold blkCheck at h
  simp only [Bool.and_eq_true, List.all_eq_true, Bool.or_eq_true, bne_iff_ne, beq_iff_eq, Bool.not_eq_true', Bool.and_eq_false_iff, ne_eq] at h
  refine ⟨h.1, fun y hy hk => ?_, fun y hy hk => ?_⟩
  · rcases (h.2 y hy).1 with z | z
    · exact absurd hk z
    · exact z
  · rcases (h.2 y hy).2 with z | ⟨⟨z1, z2⟩, z3⟩
    · exact absurd hk z
    · refine ⟨z1, fun m => ?_, z3⟩
      rcases z2 _ m with w | w
      · simp at w
      · simp at w
noncomputable def capCheck (N N' : List Str) (scope : Scope) (no : Nat) : List Nat → Bool
  | [] => true
  | j :: r => (match N'[no]?, N[j]? with | some x, some y => x == y && scope.names.any (fun z => z.1 == x && z.2 == .free) | _, _ => false) && capCheck N N' scope (no + 1) r
theorem cap_of {N N' : List Str} {scope : Scope} : ∀ {no : Nat} {cap : List Nat}, capCheck N N' scope no cap = true → ∀ (k j : Nat), cap[k]? = some j → ∃ x, N'[no + k]? = some x ∧ N[j]? = some x ∧ (x, NameKind.free) ∈ scope.names
  | no, [], _, k, j, e => by simp at e
  | no, c :: r, h, k, j, e => by
    simp only [capCheck, Bool.and_eq_true] at h
    cases k with
    | zero =>
      simp at e
      subst e
      have h1 := h.1
      split at h1
      · next x y ex ey =>
        simp only [Bool.and_eq_true, beq_iff_eq, List.any_eq_true] at h1
        obtain ⟨rfl, z, hz, z1, z2⟩ := h1
        refine ⟨x, ex, ey, ?_⟩
        obtain ⟨a, b⟩ := z
        dsimp only at z1 z2
        subst z1 z2
        exact hz
      · cases h1
    | succ k =>
      obtain ⟨x, h1, h2, h3⟩ := cap_of h.2 k j (by simpa using e)
      exact ⟨x, by rw [show no + (k + 1) = no + 1 + k by omega]; exact h1, h2, h3⟩
end TM

namespace TM
open PySem PySem.Spec PyProof.Rows L2
inductive O where
  | val (t : T) | lst (os : List O)
mutual
noncomputable def ORep (K : PySem.W.Frag) (F H : Hp) : O → V → List Addr → Prop
  | .val t, v, A => A = [] ∧ Rep K F t v
  | .lst os, v, A => ∃ p vs B, v = .ref p ∧ A = p :: B ∧ H p = some (.lst vs) ∧ F p = none ∧ OReps K F H os vs B
noncomputable def OReps (K : PySem.W.Frag) (F H : Hp) : List O → List V → List Addr → Prop
  | [], vs, A => vs = [] ∧ A = []
  | o :: os, vs, A => ∃ v r B C, vs = v :: r ∧ A = B ++ C ∧ ORep K F H o v B ∧ OReps K F H os r C
end
mutual
noncomputable def O.tr : O → T
  | .val t => t
  | .lst os => .lst (O.trs os)
noncomputable def O.trs : List O → List T
  | [] => []
  | o :: os => o.tr :: O.trs os
end
section
variable {K : PySem.W.Frag} {F H F' H' : Hp}
mutual
theorem ORep.move (sF : Same F F') : ∀ {o : O} {v : V} {A : List Addr}, (∀ a ∈ A, H' a = H a ∧ F' a = none) → ORep K F H o v A → ORep K F' H' o v A
  | .val t, v, A, _, h => ⟨h.1, Rep.mono sF h.2⟩
  | .lst os, v, A, hA, h => by
    obtain ⟨p, vs, B, rfl, rfl, h1, h2, h3⟩ := h
    have hp := hA p List.mem_cons_self
    exact ⟨p, vs, B, rfl, rfl, hp.1.trans h1, hp.2, OReps.move sF (fun a ha => hA a (List.mem_cons_of_mem _ ha)) h3⟩
theorem OReps.move (sF : Same F F') : ∀ {os : List O} {vs : List V} {A : List Addr}, (∀ a ∈ A, H' a = H a ∧ F' a = none) → OReps K F H os vs A → OReps K F' H' os vs A
  | [], vs, A, _, h => h
  | o :: os, vs, A, hA, h => by
    obtain ⟨v, r, B, C, rfl, rfl, h1, h2⟩ := h
    exact ⟨v, r, B, C, rfl, rfl, ORep.move sF (fun a ha => hA a (List.mem_append_left _ ha)) h1, OReps.move sF (fun a ha => hA a (List.mem_append_right _ ha)) h2⟩
end
mutual
theorem ORep.at : ∀ {o : O} {v : V} {A : List Addr}, ORep K F H o v A → ∀ a ∈ A, F a = none ∧ ∃ vs, H a = some (.lst vs)
  | .val t, v, A, h, a, ha => by rw [h.1] at ha; cases ha
  | .lst os, v, A, h, a, ha => by
    obtain ⟨p, vs, B, rfl, rfl, h1, h2, h3⟩ := h
    rcases List.mem_cons.mp ha with rfl | ha
    · exact ⟨h2, vs, h1⟩
    · exact OReps.at h3 a ha
theorem OReps.at : ∀ {os : List O} {vs : List V} {A : List Addr}, OReps K F H os vs A → ∀ a ∈ A, F a = none ∧ ∃ vs, H a = some (.lst vs)
  | [], vs, A, h, a, ha => by rw [h.2] at ha; cases ha
  | o :: os, vs, A, h, a, ha => by
    obtain ⟨v, r, B, C, rfl, rfl, h1, h2⟩ := h
    rcases List.mem_append.mp ha with ha | ha
    · exact ORep.at h1 a ha
    · exact OReps.at h2 a ha
end
mutual
theorem ORep.rep (sF : Same F F') : ∀ {o : O} {v : V} {A : List Addr}, (∀ a ∈ A, F' a = H a) → ORep K F H o v A → Rep K F' o.tr v
  | .val t, v, A, _, h => Rep.mono sF h.2
  | .lst os, v, A, hA, h => by
    obtain ⟨p, vs, B, rfl, rfl, h1, h2, h3⟩ := h
    exact ⟨p, vs, rfl, (hA p List.mem_cons_self).trans h1, OReps.rep sF (fun a ha => hA a (List.mem_cons_of_mem _ ha)) h3⟩
theorem OReps.rep (sF : Same F F') : ∀ {os : List O} {vs : List V} {A : List Addr}, (∀ a ∈ A, F' a = H a) → OReps K F H os vs A → Reps K F' (O.trs os) vs
  | [], vs, A, _, h => h.1
  | o :: os, vs, A, hA, h => by
    obtain ⟨v, r, B, C, rfl, rfl, h1, h2⟩ := h
    exact ⟨v, r, rfl, ORep.rep sF (fun a ha => hA a (List.mem_append_left _ ha)) h1, OReps.rep sF (fun a ha => hA a (List.mem_append_right _ ha)) h2⟩
end
theorem OReps.app : ∀ {os us : List O} {vs ws : List V} {A B : List Addr}, OReps K F H os vs A → OReps K F H us ws B → OReps K F H (os ++ us) (vs ++ ws) (A ++ B)
  | [], _, _, _, _, _, h, h' => by obtain ⟨rfl, rfl⟩ := h; exact h'
  | o :: os, _, _, _, _, _, h, h' => by
    obtain ⟨v, r, B, C, rfl, rfl, h1, h2⟩ := h
    exact ⟨v, r ++ _, B, C ++ _, rfl, by rw [List.append_assoc], h1, OReps.app h2 h'⟩
theorem OReps.one {o : O} {v : V} {A : List Addr} (h : ORep K F H o v A) : OReps K F H [o] [v] A := ⟨v, [], A, [], rfl, by simp, h, rfl, rfl⟩
theorem OReps.length : ∀ {os : List O} {vs : List V} {A : List Addr}, OReps K F H os vs A → vs.length = os.length
  | [], _, _, h => by rw [h.1]; rfl
  | o :: os, _, _, h => by
    obtain ⟨v, r, B, C, rfl, rfl, h1, h2⟩ := h
    simp [OReps.length h2]
noncomputable def frzO (F H : Hp) (A : List Addr) : Hp := fun a => if a ∈ A then H a else F a
theorem frzO_in {A : List Addr} {a : Addr} (h : a ∈ A) : frzO F H A a = H a := if_pos h
theorem frzO_out {A : List Addr} {a : Addr} (h : a ∉ A) : frzO F H A a = F a := if_neg h
theorem frzO_same {A : List Addr} (h : ∀ a ∈ A, F a = none) : Same F (frzO F H A) := fun a o e => by
  rw [frzO_out (fun m => by rw [h a m] at e; cases e)]; exact e
theorem ORep.frz {o : O} {v : V} {A : List Addr} (h : ORep K F H o v A) : Rep K (frzO F H A) o.tr v := ORep.rep (frzO_same fun a ha => (h.at a ha).1) (fun a ha => frzO_in ha) h
theorem Grow.frzO {F₀ H₀ : Hp} {A : List Addr} (g : Grow F₀ H₀ F H) (h : ∀ a ∈ A, F a = none) (h0 : ∀ a ∈ A, H₀ a = none) : Grow F₀ H₀ (frzO F H A) H := by
  refine ⟨g.sF.trans (frzO_same h), g.sH, fun a o e => ?_, fun a o e => ?_⟩
  · by_cases m : a ∈ A
    · rw [frzO_in m] at e; exact e
    · rw [frzO_out m] at e; exact g.fh _ _ e
  · by_cases m : a ∈ A
    · exact .inr (h0 a m)
    · rw [frzO_out m] at e; exact g.nw _ _ e
end
section
variable {K : PySem.W.Frag} {F₀ H₀ F H F' H' : Hp} {σ : L2.St} {τ : TEnv} {A : List Addr}
noncomputable def Apart (σ : L2.St) (τ : TEnv) (A : List Addr) : Prop := ∀ (j : Nat) us p, τ[j]? = some (some (.own us)) → σ[j]? = some (some (.ref p)) → p ∉ A
theorem EnvOk.frzO (E : EnvOk K F₀ H₀ F H σ τ) (h : ∀ a ∈ A, F a = none) (h0 : ∀ a ∈ A, H₀ a = none) (ow : Apart σ τ A) : EnvOk K F₀ H₀ (TM.frzO F H A) H σ τ := by
  refine ⟨E.g.frzO h h0, E.len, fun i s e => ?_, E.dj⟩
  obtain ⟨v, h1, h2⟩ := E.sl i s e
  refine ⟨v, h1, ?_⟩
  cases s with
  | sh t => exact Rep.mono (frzO_same h) h2
  | own ts =>
    obtain ⟨p, vs, rfl, k2, k3, k4, k5⟩ := h2
    exact ⟨p, vs, rfl, k2, by rw [frzO_out (ow i ts p e h1)]; exact k3, k4, Reps.mono (frzO_same h) k5⟩
end
noncomputable abbrev FO' := TEnv → Option (O × TEnv)
noncomputable def tEo (K : PySem.W.Frag) (F₀ H₀ : Hp) (f : FO') : TE := fun σ H Q => ∃ F τ o τ', EnvOk K F₀ H₀ F H σ τ ∧ f τ = some (o, τ') ∧
  ∀ F' H' v A, EnvOk K F₀ H₀ F' H' σ τ' → Same F F' → ORep K F' H' o v A → A.Nodup → (∀ a ∈ A, H₀ a = none) → Apart σ τ' A → Q v H'
noncomputable def SEo (X : Cx) (e : Expr) (f : FO') : Prop := ∀ F₀ H₀, PE X e (tEo X.K F₀ H₀ f)
section
variable {X : Cx} {e : Expr} {pos : Pos}
noncomputable def fTr (f : FO') : FE := fun τ => (f τ).bind fun p => some (p.1.tr, p.2)
theorem SEo.se {f : FO'} (h : SEo X e f) : SE X e (fTr f) := fun F₀ H₀ => PE.weak (h F₀ H₀) fun σ H Q hq__ => by
  obtain ⟨F, τ, t, τ', E, e1, q⟩ := hq__
  obtain ⟨⟨o, τ1⟩, e2, e1⟩ := bind_some e1
  cases e1
  refine ⟨F, τ, o, τ1, E, e2, fun F' H' v A E' s' r nd h0 ow => ?_⟩
  have hF : ∀ a ∈ A, F' a = none := fun a ha => (r.at a ha).1
  exact q _ H' v (E'.frzO hF h0 ow) (s'.trans (frzO_same hF)) r.frz
noncomputable def fVal (f : FE) : FO' := fun τ => (f τ).bind fun p => some (.val p.1, p.2)
theorem SE.seo {f : FE} (h : SE X e f) : SEo X e (fVal f) := fun F₀ H₀ => PE.weak (h F₀ H₀) fun σ H Q hq__ => by
  obtain ⟨F, τ, t, τ', E, e1, q⟩ := hq__
  obtain ⟨⟨o, τ1⟩, e2, e1⟩ := bind_some e1
  cases e1
  exact ⟨F, τ, o, τ1, E, e2, fun F' H' v E' s' r => q F' H' v [] E' s' ⟨rfl, r⟩ List.nodup_nil (fun a ha => by cases ha) (fun j us p _ _ m => by cases m)⟩
end
end TM

namespace TM
open PySem PySem.Spec PyProof.Rows L2
noncomputable def compTo (fg : FG) (ft : FT) (fe : FO') : List T → TEnv → List O → Option (List O)
  | [], _, acc => some acc
  | t :: ts, τ, acc => (fg t τ).bind fun τ1 => (ft τ1).bind fun p => if p.1 = true then (fe p.2).bind fun q => if allSh q.2 = true ∧ acc.length < sizeLine then compTo fg ft fe ts q.2 (acc ++ [q.1]) else none
    else if allSh p.2 = true then compTo fg ft fe ts p.2 acc else none
section
variable {X : Cx}
structure CompEndO (X : Cx) (pins : List (Addr × Obj)) (σ : L2.St) (F₀ H₀ F : Hp) (τ : TEnv) (rs : List O) (D C : Addr) (s : Shared) : Prop where
  ex : ∃ (H F3 : Hp) (vs : List V) (As : List Addr), Inv X pins σ H s ∧ EnvOk X.K F₀ H₀ F3 H σ τ ∧ Same F F3 ∧ F3 D = none ∧ H D = some (.lst vs) ∧ H₀ D = none ∧ OReps X.K F3 H rs vs As ∧ As.Nodup ∧ (∀ a ∈ As, H₀ a = none ∧ a ≠ D) ∧ Apart σ τ As ∧ H C = none
  ns : ∃ m, s.heap.Ns C m
  cl : C ≠ X.env.locals
  c0 : X.s₀.heap.objs.size ≤ C
  cc : ∀ x c, X.env.cells.lookup x = some c → c ≠ C
  cp : ∀ p ∈ X.pn ++ pins, p.1 ≠ C
  ow : ∀ (j : Nat) us p, τ[j]? = some (some (.own us)) → σ[j]? = some (some (.ref p)) → p ≠ D
theorem comp_coreO {elt tg iter : Expr} {ifs : List Expr} {scope : Scope} {pos : Pos} {N' : List Str} {no : Nat} {cap : List Nat} {fi : FA} {fg : FG} {ft : FT} {fe : FO'} (hx : X.xe = fun _ _ => False) (hc : X.calm = true) (B : BlkScope X scope) (hN : N'.length = no + cap.length)
    (hcap : ∀ (k j : Nat), cap[k]? = some j → ∃ x, N'[no + k]? = some x ∧ X.N[j]? = some x ∧ (x, NameKind.free) ∈ scope.names) (hi : SI X tg iter fi)
    (hg : ∀ C cs s₀ H₀ fp pins, SG (blk X scope N' C cs s₀ H₀ fp pins) tg fg) (ht : ∀ C cs s₀ H₀ fp pins, STs (blk X scope N' C cs s₀ H₀ fp pins) ifs ft) (he : ∀ C cs s₀ H₀ fp pins, SEo (blk X scope N' C cs s₀ H₀ fp pins) elt fe)
    {F₀ H₀ F H : Hp} {pins : List (Addr × Obj)} {s : Shared} {σ : L2.St} {τ τ1 : TEnv} {ts : List T} {rs : List O} (I : Inv X pins σ H s) (E : EnvOk X.K F₀ H₀ F H σ τ) (e2 : fi τ = some (ts, τ1)) (ha : allSh (blkOf no cap (frzAll cap τ1)) = true) (e3 : compTo fg ft fe ts (blkOf no cap (frzAll cap τ1)) [] = some rs)
    {post : Value → Addr → Result → Shared → Prop} (hpost : ∀ D C s', CompEndO X pins σ F₀ H₀ F (frzAll cap τ1) rs D C s' → post (.ref D) C (.ok .next) s') :
    wpAny (model X.prog X.w) X.A (eval iter X.env) (fun x s₁ => wpAny (model X.prog X.w) X.A (pyIter x) (fun it s₂ => wpAny (model X.prog X.w) X.A (newList []) (fun acc s₃ =>
      wpAny (model X.prog X.w) X.A (newFunctionEnv scope X.env.globals (clF X.env scope.names []) [] X.env.qual none .none (some X.env)) (fun cenv s₄ =>
        codeAny (model X.prog X.w) X.A (.compStart (.ListComp elt [⟨tg, iter, ifs, 0⟩] scope pos) 0 it acc { cenv with scope := relabel scope X.env }) (post acc cenv.locals) s₄) X.xe s₃) X.xe s₂) X.xe s₁) X.xe s := by
  refine thn (hi F₀ H₀ pins s σ H (fun J H1 => ∃ F1, EnvOk X.K F₀ H₀ F1 H1 σ τ1 ∧ Same F F1 ∧ Walks X.K F1 ts J) I ⟨F, τ, ts, τ1, E, e2, fun F1 H1 J E1 s1 W => ⟨F1, E1, s1, W⟩⟩) fun v s1 h1 => thn h1 fun itv s2 h2 => ?_
  obtain ⟨it, fp, tn, J, H1, rfl, I2, Tn, st2, f2, F1, E1, sF1, W⟩ := h2
  obtain ⟨F2, E2, sF2⟩ := E1.frzAll cap
  have W2 : Walks X.K F2 ts J := ⟨fun i t F3 H3 e a b => W.go i t F3 H3 e (sF2.trans a) b, fun i t F3 H3 x H4 e a b y => W.yld i t F3 H3 x H4 e (sF2.trans a) b y, fun F3 H3 a b => W.stop F3 H3 (sF2.trans a) b⟩
  refine wpAny_newObj_type ?_
  have hz : (s2.heap.push accOb).objs.size = s2.heap.objs.size + 1 := Heap.size_push ..
  have hz2 : ((s2.heap.push accOb).push dicOb).objs.size = s2.heap.objs.size + 2 := by rw [Heap.size_push, hz]
  simp only [newFunctionEnv, Option.isSome_some, if_true]
  refine wpAny_bind (wpAny_alloc ?_)
  refine wpAny_bind (wpAny_layCells _ (fun name kind cells => by cases hkc : kind == NameKind.cell <;> simp [hkc]) _ _ _ _ ?_)
  simp only [List.forIn_nil]
  refine wpAny_bind (wpAny_pure (wpAny_pure ?_))
  have loop : codeAny (model X.prog X.w) X.A (.compLoop (.ListComp elt [⟨tg, iter, ifs, 0⟩] scope pos) 0 (.ref it) (.ref s2.heap.objs.size) (blkEnv X scope (s2.heap.objs.size + 1) (cellsFrom (s2.heap.objs.size + 2) scope.names (clF X.env scope.names []))))
      (post (.ref s2.heap.objs.size) (s2.heap.objs.size + 1)) { s2 with heap := h0 s2.heap scope } := by
    have Ib := blk_start (N' := N') (σ' := blkOf no cap σ) (tk := s2.toks) I2 B f2 (fun b hb => by obtain ⟨o, e, _⟩ := Tn.obj 0 _ st2 b hb; exact ⟨o, e⟩) (by simp [blkOf, hN]) (fun i x v a1 a2 => by
      obtain ⟨k, j, rfl, hk, hj⟩ := blkOf_get a2
      obtain ⟨x', b1, b2, b3⟩ := hcap k j hk
      rw [a1] at b1; cases b1
      exact .inl ⟨b3, j, b2, hj⟩)
    generalize hX' : blk X scope N' (s2.heap.objs.size + 1) (cellsFrom (s2.heap.objs.size + 2) scope.names (clF X.env scope.names [])) s2 H1 fp pins = X' at Ib
    have hg' : SG X' tg fg := by rw [← hX']; exact hg _ _ _ _ _ _
    have ht' : STs X' ifs ft := by rw [← hX']; exact ht _ _ _ _ _ _
    have he' : SEo X' elt fe := by rw [← hX']; exact he _ _ _ _ _ _
    have xP : X'.prog = X.prog := by rw [← hX']; rfl
    have xw : X'.w = X.w := by rw [← hX']; rfl
    have xK : X'.K = X.K := by rw [← hX']; rfl
    have xA : X'.A = X.A := by rw [← hX']; rfl
    have xc : X'.calm = true := by rw [← hX']; exact hc
    have xx : X'.xe = fun _ _ => False := by rw [← hX']; rfl
    have xe' : X'.env = blkEnv X scope (s2.heap.objs.size + 1) (cellsFrom (s2.heap.objs.size + 2) scope.names (clF X.env scope.names [])) := by rw [← hX']; rfl
    have xex : X'.ex = fp := by rw [← hX']; rfl
    have xfs : X'.fs = frs X.stack := by rw [← hX']; rfl
    have xpn : X'.pn = X.pn ++ pins := by rw [← hX']; rfl
    have xs0 : X'.s₀ = s2 := by rw [← hX']; rfl
    have xH0 : X'.H₀ = H1 := by rw [← hX']; rfl
    have xl : X'.env.locals = s2.heap.objs.size + 1 := by rw [← hX']; rfl
    rw [← xe', ← xP, ← xw, ← xA]
    have hD1 : H1 s2.heap.objs.size = none := I2.fresh
    have fpk : ∀ {Hc : Hp} {σc : L2.St} {pc : List (Addr × Obj)} {sc : Shared}, Inv X' pc σc Hc sc → (∀ b ∈ fp, Hc b = none) → ∀ b ∈ fp, FpOk X' [] Hc b := fun {Hc σc pc sc} Ic hn b hb => by
      have q1 := Ic.ok.exf b (by rw [xex]; exact hb)
      have q2 := Ic.ok.exfs b (by rw [xex]; exact hb)
      refine ⟨hn b hb, q1.1, q2, .inl (by rw [xex]; exact hb), q1.2, fun p hp => ?_⟩
      rw [xpn, List.append_nil] at hp
      exact (f2 b hb).2.2.2.2.2 p hp
    refine comp_loop (fun n s3 => ∃ i σ3 H3 F3 τ3 us vs As, Inv X' [] σ3 H3 s3 ∧ tn i s3.heap ∧ (∀ b ∈ fp, H3 b = none) ∧ EnvOk X.K F3 H3 F3 H3 σ3 τ3 ∧ allSh τ3 = true ∧ F3 s2.heap.objs.size = none ∧ H3 s2.heap.objs.size = some (.lst vs) ∧ (OReps X.K F3 H3 us vs As ∧ As.Nodup ∧ ∀ a ∈ As, H1 a = none ∧ a ≠ s2.heap.objs.size) ∧ Same F2 F3 ∧ Same H1 H3 ∧
      (∀ a o, F3 a = some o → F2 a = some o ∨ H1 a = none) ∧ i ≤ ts.length ∧ n = ts.length - i ∧ compTo fg ft fe (ts.drop i) τ3 us = some rs) ?_ ts.length ?_
    · rintro n s3 ⟨i, σ3, H3, F3, τ3, us, vs, As, I3, st3, fr3, E3, ha3, fD, hD, ⟨rv, nd, fr⟩, sF, sH, nw, hi', rfl, ec⟩
      by_cases hlt : i < ts.length
      · have hgi : ts[i]? = some ts[i] := List.getElem?_eq_getElem hlt
        rw [List.drop_eq_getElem_cons hlt] at ec
        obtain ⟨τ4, e4, ec⟩ := bind_some ec
        obtain ⟨⟨b, τ5⟩, e5, ec⟩ := bind_some ec
        have go := W2.go i _ F3 H3 hgi sF E3.g.fh
        have itm := (xP ▸ xw ▸ xK ▸ Tn : Turn X'.prog X'.w X'.K tg J fp it tn).item X' rfl rfl rfl xc i [] s3 σ3 H3 (fun _ _ => False) I3 (fpk I3 fr3) st3 go
        refine thn itm fun r s4 ⟨u, hr, h4⟩ => ?_
        subst hr
        refine thn h4 fun _ s5 ⟨x, H5, I5, r5, y5, st5, fr5⟩ => ?_
        have I5' := I5.pinned (fpk I5 fr5) (Tn.obj _ _ st5)
        obtain ⟨F5, gr, rx⟩ := W2.yld i _ F3 H3 x H5 hgi sF E3.g.fh y5
        have a1 := hg' F3 H3 _ s5 σ3 H5 x u (fun σ6 H6 => ∃ F6, EnvOk X.K F3 H3 F6 H6 σ6 τ4 ∧ Same F5 F6) I5' r5 (by rw [xK]; exact ⟨F5, τ3, ts[i], τ4, E3.grow gr, rx, e4, fun F6 H6 σ6 E6 s6 => ⟨F6, E6, s6⟩⟩)
        rw [xx] at a1
        refine thn a1 fun _ s6 ⟨σ6, H6, I6, F6, E6, sF6⟩ => ?_
        have a2 := ht' F3 H3 _ s6 σ6 H6 (fun b' H7 => b' = b ∧ ∃ F7, EnvOk X.K F3 H3 F7 H7 σ6 τ5 ∧ Same F6 F7) I6 (by rw [xK]; exact ⟨F6, τ4, b, τ5, E6, e5, fun F7 H7 E7 s7 => ⟨rfl, F7, E7, s7⟩⟩)
        rw [xx] at a2
        refine thn a2 fun ok s7 ⟨H7, I7, hok, F7, E7, sF7⟩ => ?_
        subst hok
        have tail : ∀ {σc : L2.St} {Hc : Hp} {sc : Shared}, Inv X' ([] ++ pinsAt fp s5.heap) σc Hc sc → tn (i + 1) sc.heap ∧ ∀ b ∈ fp, Hc b = none := fun {σc Hc sc} Ic => by
          refine ⟨Tn.keep _ _ _ st5 fun b hb o e => (Ic.pin (b, o) (List.mem_append_right _ (List.mem_append_right _ (mem_pinsAt hb e)))).1, fun b hb => ?_⟩
          obtain ⟨o, e, d⟩ := Tn.obj _ _ st5 b hb
          exact (Ic.pin (b, o) (List.mem_append_right _ (List.mem_append_right _ (mem_pinsAt hb e)))).2.1
        have keepD : ∀ {Fc Hc : Hp} {σc : L2.St} {τc : TEnv}, EnvOk X.K F3 H3 Fc Hc σc τc → Fc s2.heap.objs.size = none := fun {Fc Hc σc τc} Ec => by
          cases eF : Fc s2.heap.objs.size with
          | none => rfl
          | some o =>
            rcases Ec.g.nw _ o eF with z | z
            · rw [fD] at z; cases z
            · rw [hD] at z; cases z
        have newF : ∀ {Fc Hc : Hp} {σc : L2.St} {τc : TEnv}, EnvOk X.K F3 H3 Fc Hc σc τc → ∀ a o, Fc a = some o → F2 a = some o ∨ H1 a = none := fun {Fc Hc σc τc} Ec a o eF => by
          rcases Ec.g.nw a o eF with z | z
          · exact nw a o z
          · exact .inr (sH.free z)
        have mv : ∀ {Fc Hc Hd : Hp} {σc : L2.St} {τc : TEnv}, EnvOk X.K F3 H3 Fc Hc σc τc → (∀ a, a ≠ s2.heap.objs.size → Hd a = Hc a) → OReps X.K Fc Hd us vs As := fun {Fc Hc Hd σc τc} Ec hd => by
          refine OReps.move Ec.g.sF (fun a ha => ?_) rv
          obtain ⟨f1, ws, f2⟩ := rv.at a ha
          refine ⟨by rw [hd a (fr a ha).2, Ec.g.sH _ _ f2, f2], ?_⟩
          cases eF : Fc a with
          | none => rfl
          | some o =>
            rcases Ec.g.nw _ o eF with z | z
            · rw [f1] at z; cases z
            · rw [f2] at z; cases z
        cases b' : ok with
        | false =>
          subst b'
          dsimp only at ec
          rw [if_neg (by decide)] at ec
          split at ec
          · next ha =>
            rw [if_neg (by decide)]
            obtain ⟨t1, t2⟩ := tail I7
            exact ⟨ts.length - (i + 1), by omega, i + 1, σ6, H7, F7, τ5, us, vs, As, I7.unpinned, t1, t2, E7.rebase ha E7.g.fh, ha, keepD E7, E7.g.sH _ _ hD, ⟨mv E7 (fun _ _ => rfl), nd, fr⟩, sF.trans E7.g.sF, sH.trans E7.g.sH, newF E7, hlt, rfl, ec⟩
          · cases ec
        | true =>
          subst b'
          dsimp only at ec
          rw [if_pos rfl] at ec
          rw [if_pos rfl]
          obtain ⟨⟨y0, τ6⟩, e6, ec⟩ := bind_some ec
          dsimp only at ec
          split at ec
          · next ha =>
            have a3 := he' F3 H3 _ s7 σ6 H7 (fun y H8 => ∃ F8 Ay, EnvOk X.K F3 H3 F8 H8 σ6 τ6 ∧ ORep X.K F8 H8 y0 y Ay ∧ Ay.Nodup ∧ ∀ a ∈ Ay, H3 a = none) I7 (by rw [xK]; exact ⟨F7, τ5, y0, τ6, E7, e6, fun F8 H8 y Ay E8 s8 r8 n8 h8 _ => ⟨F8, Ay, E8, r8, n8, h8⟩⟩)
            rw [xx] at a3
            refine thn a3 fun yv s8 ⟨y, H8, I8, ry, F8, Ay, E8, rp, ndy, hy8⟩ => ?_
            have dD : H8 s2.heap.objs.size = some (.lst vs) := E8.g.sH _ _ hD
            have a4 := mt_append (X := X') _ s8 σ6 H8 (.ref s2.heap.objs.size) [y] (.ref s2.heap.objs.size) [yv] (fun _ H9 => H9 = upd H8 s2.heap.objs.size (.lst (vs ++ [y]))) I8 rfl (.cons ry .nil) ⟨s2.heap.objs.size, vs, y, rfl, rfl, dD, by rw [rv.length]; exact ha.2, rfl⟩
            rw [xx] at a4
            refine thn a4 fun _ s9 ⟨_, H9, I9, _, e9⟩ => ?_
            subst e9
            obtain ⟨t1, t2⟩ := tail I9
            have kD := keepD E8
            have sm : Same F8 (upd H8 s2.heap.objs.size (.lst (vs ++ [y]))) := fun c o z => by rw [upd_ne (fun w => by subst w; rw [kD] at z; cases z)]; exact E8.g.fh _ _ z
            have sm1 : Same H1 (upd H8 s2.heap.objs.size (.lst (vs ++ [y]))) := fun c o z => by rw [upd_ne (fun w => by subst w; rw [hD1] at z; cases z)]; exact E8.g.sH _ _ (sH _ _ z)
            have yD : ∀ a ∈ Ay, a ≠ s2.heap.objs.size := fun a ha z => by have := hy8 a ha; rw [z, hD] at this; cases this
            have rp9 : ORep X.K F8 (upd H8 s2.heap.objs.size (.lst (vs ++ [y]))) y0 y Ay := ORep.move (Same.refl _) (fun a ha => ⟨upd_ne (yD a ha), (rp.at a ha).1⟩) rp
            have all9 : OReps X.K F8 (upd H8 s2.heap.objs.size (.lst (vs ++ [y]))) (us ++ [y0]) (vs ++ [y]) (As ++ Ay) := (mv E8 (fun a ha => upd_ne ha)).app (.one rp9)
            have nd9 : (As ++ Ay).Nodup := List.nodup_append.mpr ⟨nd, ndy, fun a ha b hb z => by subst z; obtain ⟨_, ws, f2⟩ := rv.at a ha; rw [hy8 a hb] at f2; cases f2⟩
            have fr9 : ∀ a ∈ As ++ Ay, H1 a = none ∧ a ≠ s2.heap.objs.size := fun a ha => by
              rcases List.mem_append.mp ha with ha | ha
              · exact fr a ha
              · exact ⟨sH.free (hy8 a ha), yD a ha⟩
            exact ⟨ts.length - (i + 1), by omega, i + 1, σ6, _, F8, τ6, us ++ [y0], vs ++ [y], As ++ Ay, I9.unpinned, t1, t2, E8.rebase ha.1 sm, ha.1, kD, upd_same, ⟨all9, nd9, fr9⟩, sF.trans E8.g.sF, sm1, newF E8, hlt, rfl, ec⟩
          · cases ec
      · have hie : i = ts.length := by omega
        subst hie
        rw [List.drop_length] at ec
        cases ec
        have dn := (xP ▸ xw ▸ xK ▸ Tn : Turn X'.prog X'.w X'.K tg J fp it tn).done X' rfl rfl rfl xc ts.length [] s3 σ3 H3 (fun _ _ => False) I3 (fpk I3 fr3) st3 (W2.stop F3 H3 sF E3.g.fh)
        refine thn dn fun r s4 ⟨hr, I4⟩ => ?_
        subst hr
        obtain ⟨m4, hm4, _⟩ := I4.loc
        rw [xl] at hm4
        have un := I4.base
        rw [xfs, xex, xH0, xs0] at un
        have ox := I4.os
        rw [xs0] at ox
        have hok4 := I4.hok
        rw [xP, xw] at hok4
        have IX : Inv X pins σ H3 s4 := I2.call' ox un hok4 I4.bare fun b hb => ⟨(f2 b hb).2.2.2.1, (f2 b hb).2.1, (f2 b hb).2.2.2.2.1, (f2 b hb).2.2.2.2.2⟩
        have hC : H3 (s2.heap.objs.size + 1) = none := by have := I4.free; rw [xl] at this; exact this
        have lC : @LT.lt Nat _ X.env.locals s2.heap.objs.size := I2.lt
        have gr : Grow F2 H1 F3 H3 := ⟨sF, sH, E3.g.fh, nw⟩
        have ap3 : Apart σ (frzAll cap τ1) As := fun j us p j1 j2 m => by
          obtain ⟨v, k1, p', vs', rfl, k2, _⟩ := E2.sl j _ j1
          rw [j2] at k1; cases k1
          rw [(fr _ m).1] at k2; cases k2
        refine hpost _ _ _ ⟨⟨H3, F3, vs, As, IX, E2.grow gr, (sF1.trans sF2).trans sF, fD, hD, E2.g.sH.free hD1, rv, nd, fun a ha => ⟨E2.g.sH.free (fr a ha).1, (fr a ha).2⟩, ap3, hC⟩, ⟨m4, hm4⟩, Nat.ne_of_gt (Nat.lt_succ_of_lt lC), Nat.le_trans I2.sz (Nat.le_succ _),
          fun x c hxc => by obtain ⟨v, z⟩ := I2.cell x c hxc; exact Nat.ne_of_lt (Nat.lt_succ_of_lt z.lt), fun p hp => Nat.ne_of_lt (Nat.lt_succ_of_lt (Heap.lt_size (I2.pin p hp).1)), fun j us p j1 j2 => ?_⟩
        obtain ⟨v, k1, p', vs', rfl, k2, _⟩ := E2.sl j _ j1
        rw [j2] at k1; cases k1
        exact ne_of_none k2 hD1
    · refine ⟨0, blkOf no cap σ, upd H1 s2.heap.objs.size (.lst []), F2, blkOf no cap (frzAll cap τ1), [], [], [], Ib, Tn.keep _ _ _ st2 fun b hb o e => h0_keep e, fun b hb => ?_, E2.block ha (E2.g.fh.trans (same_updN hD1)), ha, E2.g.fh.free hD1, upd_same, ⟨⟨rfl, rfl⟩, List.nodup_nil, fun a ha => by cases ha⟩, Same.refl _, same_updN hD1, fun a o z => .inl z, Nat.zero_le _, rfl, e3⟩
      obtain ⟨o, e, _⟩ := Tn.obj 0 _ st2 b hb
      rw [upd_ne (Nat.ne_of_lt (Heap.lt_size e))]
      exact (f2 b hb).1
  have fin : ∀ {C : Addr} {cs : List (Str × Addr)}, C = s2.heap.objs.size + 1 → cs = cellsFrom (s2.heap.objs.size + 2) scope.names (clF X.env scope.names []) →
      codeAny (model X.prog X.w) X.A (.compStart (.ListComp elt [⟨tg, iter, ifs, 0⟩] scope pos) 0 (.ref it) (.ref s2.heap.objs.size) (blkEnv X scope C cs)) (post (.ref s2.heap.objs.size) C) { s2 with heap := h0 s2.heap scope } := fun {C cs} h1 h2 => by
    subst h1 h2
    exact codeAny_compStart_list loop (Tn.self _ 0 _ _ _ (Tn.keep _ _ _ st2 fun b hb o e => h0_keep e) loop)
  exact fin hz (by rw [← hz2])

noncomputable def fCompO (no : Nat) (cap : List Nat) (fi : FA) (fg : FG) (ft : FT) (fe : FO') : FO' := fun τ => (fi τ).bind fun p =>
  if allSh (blkOf no cap (frzAll cap p.2)) = true then (compTo fg ft fe p.1 (blkOf no cap (frzAll cap p.2)) []).bind fun us => some (.lst us, frzAll cap p.2) else none
theorem CompEndO.fin {pins : List (Addr × Obj)} {σ : L2.St} {F₀ H₀ F : Hp} {τ : TEnv} {rs : List O} {D C : Addr} {s : Shared} (Z : CompEndO X pins σ F₀ H₀ F τ rs D C s) :
    ∃ (H F3 : Hp) (As : List Addr), Inv X pins σ H s ∧ EnvOk X.K F₀ H₀ F3 H σ τ ∧ Same F F3 ∧ ORep X.K F3 H (.lst rs) (.ref D) As ∧ As.Nodup ∧ (∀ a ∈ As, H₀ a = none) ∧ Apart σ τ As ∧ H C = none := by
  obtain ⟨H, F3, vs, As, IX, E3, sF, fD, hD, h0D, rv, nd, h0, ap, hC⟩ := Z.ex
  refine ⟨H, F3, D :: As, IX, E3, sF, ⟨D, vs, As, rfl, rfl, hD, fD, rv⟩, List.nodup_cons.mpr ⟨fun m => (h0 D m).2 rfl, nd⟩, fun a ha => ?_, fun j us p e1 e2 m => ?_, hC⟩
  · rcases List.mem_cons.mp ha with rfl | ha
    · exact h0D
    · exact (h0 a ha).1
  · rcases List.mem_cons.mp m with rfl | m
    · exact Z.ow j us _ e1 e2 rfl
    · exact ap j us p e1 e2 m
theorem seo_comp {elt tg iter : Expr} {ifs : List Expr} {scope : Scope} {pos : Pos} {N' : List Str} {no : Nat} {cap : List Nat} {fi : FA} {fg : FG} {ft : FT} {fe : FO'} (hx : X.xe = fun _ _ => False) (hc : X.calm = true) (B : BlkScope X scope) (hN : N'.length = no + cap.length)
    (hcap : ∀ (k j : Nat), cap[k]? = some j → ∃ x, N'[no + k]? = some x ∧ X.N[j]? = some x ∧ (x, NameKind.free) ∈ scope.names) (hi : SI X tg iter fi)
    (hg : ∀ C cs s₀ H₀ fp pins, SG (blk X scope N' C cs s₀ H₀ fp pins) tg fg) (ht : ∀ C cs s₀ H₀ fp pins, STs (blk X scope N' C cs s₀ H₀ fp pins) ifs ft) (he : ∀ C cs s₀ H₀ fp pins, SEo (blk X scope N' C cs s₀ H₀ fp pins) elt fe)
    (hs : ∀ x, foldedSetIterable iter X.env x = pure x := by intro _; rfl) : SEo X (.ListComp elt [⟨tg, iter, ifs, 0⟩] scope pos) (fCompO no cap fi fg ft fe) := by
  intro F₀ H₀ pins s σ H Q I ⟨F, τ, t, τ', E, e1, q⟩
  obtain ⟨⟨ts, τ1⟩, e2, e1⟩ := bind_some e1
  dsimp only at e1
  split at e1
  · next ha =>
    obtain ⟨rs, e3, e1⟩ := bind_some e1
    cases e1
    have hfree : ∀ y ∈ scope.names, y.2 = .free → ∃ c, X.env.cells.lookup y.1 = some c := fun y hy hk => I.ok.has y.1 (B.free y hy hk).1
    rw [eval_ListComp]
    refine wpAny_comprehension_free (use := none) rfl hs (closure_eq hfree) B.kind B.names (comp_coreO hx hc B hN hcap hi hg ht he I E e2 ha e3 fun D C s' Z => ?_)
    obtain ⟨H3, F3, As, IX, E3, sF, ro, nd, h0, ap, hC⟩ := Z.fin
    obtain ⟨m, hm⟩ := Z.ns
    refine ⟨m, hm, fun h' sb => ⟨.ref D, H3, IX.turned (t' := s'.toks) (it := C) (fun b o hb e => (sb.2 b hb).trans e) hC Z.cl (.inr Z.c0) Z.cc Z.cp, rfl, ?_⟩⟩
    exact q F3 H3 (.ref D) As E3 sF ro nd h0 ap
  · cases e1
end
end TM

namespace TM
open PySem PySem.Spec PyProof.Rows L2
section
variable {K : PySem.W.Frag} {F₀ H₀ F₁ H₁ F H F' H' : Hp} {σ : L2.St} {τ : TEnv}
end
section
variable {X : Cx} {e : Expr} {f : FE} {ft : FT} {es : List Expr} {g : FA}
end
end TM

namespace TM
open PySem PySem.Spec PyProof.Rows L2
section
variable {X : Cx}
noncomputable def boolsOf : List T → Option (List Bool)
  | [] => some []
  | .bl b :: r => (boolsOf r).bind fun bs => some (b :: bs)
  | _ => none
noncomputable def dAll : List T → Option T
  | [.lst ts] => (boolsOf ts).bind fun bs => some (.bl (bs.all id))
  | _ => none
theorem bools_get {K : PySem.W.Frag} {F : Hp} : ∀ {ts : List T} {bs : List Bool} {vs : List V} {its : List Value}, boolsOf ts = some bs → Reps K F ts vs → Vals vs its → its = bs.map Value.bool
  | [], bs, vs, its, e, r, z => by
    cases e; cases r; cases z; rfl
  | t :: ts, bs, vs, its, e, r, z => by
    obtain ⟨v, rr, rfl, h1, h2⟩ := r
    unfold boolsOf at e
    split at e
    · next he => cases he
    · next b r0 he =>
      cases he
      obtain ⟨bs', e1, e2⟩ := bind_some e
      cases e2
      cases h1
      cases z with
      | cons rz zz =>
        cases rz
        rw [bools_get e1 h2 zz]
        rfl
    · cases e
theorem kept_it {s : Shared} {h' : Heap} {o : Obj} (hk : ∀ b x, b ∉ [s.heap.objs.size] → (s.heap.push o).get? b = some x → h'.get? b = some x) : ∀ b x, s.heap.get? b = some x → h'.get? b = some x :=
  fun b x e => hk b x (fun hm => by rw [List.mem_singleton.mp hm] at e; exact Nat.lt_irrefl _ (Heap.lt_size e)) (Heap.get?_push_of_some _ e)
theorem range_all (bs : List Bool) : ((List.range bs.length).all fun i => (bs[i]?).getD true) = bs.all id := by
  induction bs with
  | nil => rfl
  | cons b bs ih =>
    rw [List.length_cons, List.range_succ_eq_map, List.all_cons, List.all_map]
    simp only [List.all_cons, List.getElem?_cons_zero, Option.getD_some, id]
    rw [← ih]
    congr 1
theorem ct_all (hc : X.calm = true) : CallT X (.builtin "all") dAll := by
  intro pins s σ H xs us Q I rx ⟨F, ts, t, sm, r, e, q⟩
  unfold dAll at e
  split at e
  · next ts =>
    obtain ⟨bs, e1, e2⟩ := bind_some e
    cases e2
    obtain ⟨v, rr, rfl, ⟨p, vs, rfl, h1, h2⟩, rfl⟩ := r
    obtain ⟨u, rfl, ru⟩ := Vals.one rx
    cases ru
    obtain ⟨its, rv, pl, hz⟩ := I.list (SqL.of (sm _ _ h1))
    have hb := bools_get e1 h2 rv
    subst hb
    have hl := pl.isList
    have hlt : @LT.lt Nat _ p s.heap.objs.size := by obtain ⟨_, e, _⟩ := hl; exact Heap.lt_size e
    refine call_all_walk (wpAny_pyIter_list hl ?_)
    refine ⟨s.heap.objs.size, [s.heap.objs.size, p], [s.heap.objs.size], (bs.map Value.bool).toArray.size, _, _, fun i => (bs[i]?).getD true, rfl, PySem.Walks.list (A := X.A.in1) (I.ok.hd hc) _ p (Nat.ne_of_lt hlt) (bs.map Value.bool).toArray,
      ⟨⟨_, Heap.get?_push_size _ rfl, rfl, rfl⟩, hl.push _⟩, fun i v s' Q' E' hP hQ => ?_, fun h' tk hk => ?_⟩
    · have hP' : (bs.map Value.bool)[i]? = some v := by simpa using hP
      rw [List.getElem?_map] at hP'
      cases eb : bs[i]? with
      | none => rw [eb] at hP'; cases hP'
      | some b =>
        rw [eb] at hP'
        have : v = .bool b := (Option.some.inj hP').symm
        subst this
        simp only [eb, Option.getD_some] at hQ
        exact wpAny_truthy_bool hQ
    · have e : ((List.range (bs.map Value.bool).toArray.size).all fun i => (bs[i]?).getD true) = bs.all id := by
        rw [List.size_toArray, List.length_map]
        exact range_all bs
      rw [e]
      exact ⟨.bl _, H, I.kept (t' := tk) (kept_it hk), rfl, q F H _ (Grow.refl sm) rfl⟩
  · cases e
noncomputable def dTuple : List T → Option T
  | [.lst ts] => some (.tup ts)
  | [.tup ts] => some (.tup ts)
  | _ => none
theorem mt_bits : MtR X "int.bit_length" (fun x vs H Q => ∃ i, x = .int i ∧ vs = [] ∧ Q (.int (Builtin.Int.intBits i)) H) := by
  intro pins s σ H x vs v us Q I rx rv ⟨i, hx, hvs, q⟩
  subst hx; subst hvs
  obtain ⟨t, rfl⟩ := rx
  have := rv.zero
  subst this
  exact PyProof.Rows.call_int_bit_length ⟨.int _, H, I.tok _, ⟨_, rfl⟩, q⟩
noncomputable def gBits : T → Option T
  | .int i => some (.int (Builtin.Int.intBits i))
  | _ => none
theorem se_bits {e : Expr} {f : FE} {p2 p3 : Pos} (he : SE X e f) (hbase : attributeBase e "bit_length" X.env (eval e X.env) = eval e X.env := by rfl) (hline : (p2.endLine == p3.line) = true := by rfl) :
    SE X (.Call (.Attribute e "bit_length" p2) [] [] p3) (fUn gBits f) := fun F₀ H₀ =>
  PE.weak (pe_bm0 PySem.F.plainAttrs_int PySem.F.slot_int_bit_length PySem.F.type_int_bit_length mt_bits (he F₀ H₀) hbase hline) fun σ H Q hq__ => by
    obtain ⟨F, τ, t, τ', E, e1, q⟩ := hq__
    obtain ⟨⟨x, τ1⟩, e2, e1⟩ := bind_some e1
    obtain ⟨z, e4, e1⟩ := bind_some e1
    cases e1
    refine ⟨F, τ, x, _, E, e2, fun F1 H1 v1 E1 s1 r1 => ?_⟩
    dsimp only at e4
    unfold gBits at e4
    split at e4
    · cases e4; cases r1
      exact ⟨rfl, _, rfl, rfl, q F1 H1 _ E1 s1 rfl⟩
    · cases e4
theorem se_globI {x : Str} {i : Int} {t : Tok} {pos : Pos} (hg : Gl X x) (hm : X.mg x = some (.int i t)) (hd : (x == ("__debug__" : Str)) = false := by decide) : SE X (.Name x pos) (fC (.int i)) := se_const (pe_glob (v := .int i) hg hm ⟨_, rfl⟩ hd) fun _ => rfl
noncomputable def fiSeq (f : FE) : FA := fun τ => (f τ).bind fun p => match p.1 with | .lst ts => some (ts, p.2) | .scr ts => some (ts, p.2) | .tup ts => some (ts, p.2) | _ => none
end
theorem fnok_of {P : Program} {w : World} {K : PySem.W.Frag} {mg : Str → Option Value} {base : Heap} {x qual : Str} {st : Stmt} {f : Addr} {fd : FuncData} {N ps : List Str} {k : Nat} {fb : FS} (F : Fun K x qual st f fd) (S : FnScope N ps (defScope st))
    (h : ∀ (cdv : Value) (A : Around) (outer : List Env) (s : Shared) (H : Hp) (E : XK), Room k (A.deeper (envOfC qual (defScope st) s.heap.objs.size f cdv)) → SSs (cxOf CX0 P w K mg base N qual (defScope st) f cdv A outer s H E).nox (defBody st) fb) :
    FnOk P w K mg base CX0 (k + 1) f fd ps (spT K ps.length (dOf N.length ps.length fb)) := by
  refine F.ok S (fun vs H Q E z => z.1) (fun cdv A outer s H vs Q E hr z => ?_)
  obtain ⟨hl, F1, ts, t, sm, r, e, q⟩ := z
  unfold dOf at e
  split at e
  · next hn =>
    obtain ⟨r', e1, e⟩ := bind_some e
    refine ⟨_, h cdv A outer s H E hr F1 H, F1, _, r', ?_, e1, ?_⟩
    · have := env_start (N := N) sm r
      rw [hn] at this
      exact this
    · cases r' with
      | rt u => cases e; exact fun F' H' v g r' => q F' H' v g r'
      | nx τ => cases e; exact fun F' H' σ' E' s' => q F' H' .non E'.g rfl
      | bk τ => cases e
      | ct τ => cases e
  · cases e
end TM

namespace TM
open PySem PySem.Spec PyProof.Rows L2
section
variable {K : PySem.W.Frag} {F0 H0 F H F1 H1 : Hp} {p : Addr} {os : List O} {A : List Addr}
theorem trs_vals : ∀ (ts : List T), O.trs (ts.map O.val) = ts
  | [] => rfl
  | t :: ts => by rw [List.map_cons, O.trs, trs_vals ts]; rfl
end
end TM

namespace TM
open PySem PySem.Spec PyProof.Rows L2
section
variable {P : Program} {w : World} {K : PySem.W.Frag} {mg : Str → Option Value} {base : Heap} {j k n : Nat} {x : Str}
end
section
variable {X : Cx} {e : Expr} {es : List Expr} {pos : Pos} {g : FA}
noncomputable def fCallO (d : List T → Option O) (g : FA) : FO' := fun τ => (g τ).bind fun p => (d p.1).bind fun o => some (o, p.2)
noncomputable abbrev FSO := TEnv → Option O
noncomputable def fRetO (f : FO') : FSO := fun τ => (f τ).bind fun p => some p.1
noncomputable def fSeqO (t : FS) (u : FSO) : FSO := fun τ => (t τ).bind fun r => match r with | .nx τ' => u τ' | _ => none
end
section
variable {P : Program} {w : World} {K : PySem.W.Frag} {mg : Str → Option Value} {base : Heap}
end
section
variable {X : Cx} {e : Expr} {es : List Expr} {pos : Pos} {g : FA}
noncomputable def fCallC (fo : FO') (g : FA) (d : O → List T → Option T) : FE := fun τ => (fo τ).bind fun p => if allSh p.2 = true then (g p.2).bind fun r => if allSh r.2 = true then (d p.1 r.1).bind fun t => some (t, r.2) else none else none
noncomputable def fDropApp (fo : FO') (f : FE) : FS := fun τ => (fo τ).bind fun p => match p.1 with
  | .lst os => if allSh p.2 = true ∧ os.length < sizeLine then (f p.2).bind fun r => if allSh r.2 = true then some (.nx r.2) else none else none
  | _ => none
end
end TM

namespace TM
open PySem PySem.Spec PyProof.Rows L2
section
variable {X : Cx}
end
end TM

namespace TM
open PySem PySem.Spec PyProof.Rows L2
section
variable {prog : Program} {w : World} {A : Around} {E : Value → Shared → Prop} {s : Shared}
end
section
variable {X : Cx}
end
end TM

namespace TM
open PySem PySem.Spec PyProof.Rows L2
section
variable {prog : Program} {w : World} {A : Around} {R : Result → Shared → Prop} {I : Addr} {fp wr : List Addr} {n : Nat} {P : Nat → Value → Prop} {St : Nat → Heap → Prop} {kw : List (Str × Value)}
end
section
variable {prog : Program} {w : World} {A : Around} {E : Value → Shared → Prop} {s : Shared}
end
section
variable {X : Cx}
end
end TM
namespace TM
open PySem PySem.Spec PyProof.Rows L2
section
variable {X : Cx}
end
end TM

namespace TM
open PySem PySem.Spec PyProof.Rows L2
end TM

namespace TM
open PySem PySem.Spec PyProof.Rows L2
section
variable {X : Cx} {e : Expr} {pos : Pos}
end
end TM

namespace TM
open PySem PySem.Spec PyProof.Rows L2
end TM

namespace TM
open PySem PySem.Spec PyProof.Rows L2
section
variable {K : PySem.W.Frag} {F₀ H₀ F H F' H' : Hp} {σ : L2.St} {τ : TEnv}
end
section
variable {X : Cx} {e : Expr} {pos : Pos}
end
section
variable {P : Program} {w : World} {K : PySem.W.Frag} {mg : Str → Option Value} {base : Heap}
end
theorem compTo_val (fg : FG) (ft : FT) (fe : FE) : ∀ (ts : List T) (τ : TEnv) (acc us : List T), compT fg ft fe ts τ acc = some us → compTo fg ft (fVal fe) ts τ (acc.map O.val) = some (us.map O.val)
  | [], _, acc, us, h => by cases h; rfl
  | t :: ts, τ, acc, us, h => by
    unfold compT at h
    obtain ⟨τ1, e1, h⟩ := bind_some h
    obtain ⟨p, e2, h⟩ := bind_some h
    unfold compTo
    rw [e1, Option.bind_some, e2, Option.bind_some]
    split at h
    · next hp =>
      obtain ⟨q, e3, h⟩ := bind_some h
      rw [if_pos hp, show fVal fe p.2 = some (.val q.1, q.2) from by unfold fVal; rw [e3]; rfl, Option.bind_some]
      split at h
      · next hq =>
        rw [if_pos ⟨hq.1, by rw [List.length_map]; exact hq.2⟩]
        have := compTo_val fg ft fe ts q.2 (acc ++ [q.1]) us h
        rw [List.map_append] at this
        exact this
      · cases h
    · next hp =>
      rw [if_neg hp]
      split at h
      · next hq =>
        rw [if_pos hq]
        exact compTo_val fg ft fe ts p.2 acc us h
      · cases h
theorem fComp_o {no : Nat} {cap : List Nat} {fi : FA} {fg : FG} {ft : FT} {fe : FE} {τ τ' : TEnv} {us : List T} (h : fComp no cap fi fg ft fe τ = some (.lst us, τ')) : fCompO no cap fi fg ft (fVal fe) τ = some (.lst (us.map O.val), τ') := by
  obtain ⟨p, e1, h⟩ := bind_some h
  unfold fCompO
  rw [e1, Option.bind_some]
  split at h
  · next ha =>
    obtain ⟨vs, e2, h⟩ := bind_some h
    cases h
    rw [if_pos ha, show compTo fg ft (fVal fe) p.1 (blkOf no cap (frzAll cap p.2)) [] = some (us.map O.val) from compTo_val fg ft fe _ _ [] us e2]
    rfl
  · cases h
theorem fComp_lst {no : Nat} {cap : List Nat} {fi : FA} {fg : FG} {ft : FT} {fe : FE} {τ τ' : TEnv} {t : T} (h : fComp no cap fi fg ft fe τ = some (t, τ')) : ∃ us, t = .lst us := by
  obtain ⟨p, e1, h⟩ := bind_some h
  split at h
  · obtain ⟨vs, e2, h⟩ := bind_some h
    cases h
    exact ⟨_, rfl⟩
  · cases h
section
variable {X : Cx}
theorem se_comp {elt tg iter : Expr} {ifs : List Expr} {scope : Scope} {pos : Pos} {N' : List Str} {no : Nat} {cap : List Nat} {fi : FA} {fg : FG} {ft : FT} {fe : FE} (hx : X.xe = fun _ _ => False) (hc : X.calm = true) (B : BlkScope X scope) (hN : N'.length = no + cap.length)
    (hcap : ∀ (k j : Nat), cap[k]? = some j → ∃ x, N'[no + k]? = some x ∧ X.N[j]? = some x ∧ (x, NameKind.free) ∈ scope.names) (hi : SI X tg iter fi)
    (hg : ∀ C cs s₀ H₀ fp pins, SG (blk X scope N' C cs s₀ H₀ fp pins) tg fg) (ht : ∀ C cs s₀ H₀ fp pins, STs (blk X scope N' C cs s₀ H₀ fp pins) ifs ft) (he : ∀ C cs s₀ H₀ fp pins, SE (blk X scope N' C cs s₀ H₀ fp pins) elt fe)
    (hs : ∀ x, foldedSetIterable iter X.env x = pure x := by intro _; rfl) : SE X (.ListComp elt [⟨tg, iter, ifs, 0⟩] scope pos) (fComp no cap fi fg ft fe) := fun F₀ H₀ => PE.weak (SEo.se (seo_comp hx hc B hN hcap hi hg ht (fun C cs s₀ H₀ fp pins => SE.seo (he C cs s₀ H₀ fp pins)) hs) F₀ H₀) fun σ H Q hq__ => by
  obtain ⟨F, τ, t, τ', E, e1, q⟩ := hq__
  obtain ⟨us, rfl⟩ := fComp_lst e1
  refine ⟨F, τ, _, τ', E, ?_, q⟩
  unfold fTr
  rw [fComp_o e1, Option.bind_some]
  show some (T.lst (O.trs (us.map O.val)), τ') = _
  rw [trs_vals]
end
end TM

namespace TM
open PySem PySem.Spec PyProof.Rows L2
section
variable {prog : Program} {w : World} {A : Around} {E : Value → Shared → Prop} {s : Shared}
end
section
variable {X : Cx}
end
end TM

namespace TM
open PySem PySem.Spec PyProof.Rows L2
section
variable {X : Cx}
end
end TM

namespace TM
open PySem PySem.Spec PyProof.Rows L2
section
variable {X : Cx} {e : Expr} {es : List Expr} {pos : Pos}
end
section
variable {P : Program} {w : World} {K : PySem.W.Frag} {mg : Str → Option Value} {base : Heap} {j k n : Nat} {C : Addr} {m : Str}
end
section
variable {X : Cx} {o e : Expr} {es : List Expr} {pos apos : Pos} {g : FA} {fo : FE} {k n : Nat} {m : Str}
end
section
variable {X : Cx} {e : Expr} {es : List Expr} {pos : Pos} {g : FA}
end
section
variable {X : Cx} {C : Addr} {e : Expr} {rest : List Stmt} {pos : Pos}
end
end TM

namespace TM
open PySem PySem.Spec PyProof.Rows L2
noncomputable def findB (C : Addr) : List (Addr × Bool) → Option Bool
  | [] => none
  | a :: r => if C = a.1 then some a.2 else findB C r
theorem findB_mem {C : Addr} {d : Bool} : ∀ {l : List (Addr × Bool)}, findB C l = some d → (C, d) ∈ l
  | [], h => by cases h
  | a :: r, h => by
    unfold findB at h
    split at h
    · next e => cases h; subst e; exact List.mem_cons_self
    · exact List.mem_cons_of_mem _ (findB_mem h)
section
variable {X : Cx} {e : Expr} {pos : Pos}
end
end TM

namespace TM
open PySem PySem.Spec PyProof.Rows L2
section
variable {X : Cx} {e : Expr} {pos : Pos} {f : FE}
end
end TM

namespace TM
open PySem PySem.Spec PyProof.Rows L2
section
variable {K : PySem.W.Frag} {F₀ H₀ F H F' H' : Hp} {σ σ' : L2.St} {τ τ' : TEnv} {x : Nat} {p : Addr} {tss : List (List T)} {A : List Addr}
end
section
variable {X : Cx} {e : Expr} {pos : Pos} {x : Nat}
end
section
variable {K : PySem.W.Frag} {F₀ H₀ F H F' H' : Hp} {σ σ' : L2.St} {τ τ' : TEnv} {x : Nat} {p : Addr} {tss : List (List T)} {A : List Addr}
end
section
variable {X : Cx} {e : Expr} {pos : Pos} {x : Nat}
end
end TM

namespace TM
open PySem PySem.Spec PyProof.Rows L2
section
variable {X : Cx} {e : Expr} {pos : Pos}
end
end TM

namespace TM
open PySem PySem.Spec PyProof.Rows L2
section
variable {X : Cx} {e : Expr} {pos : Pos}
end
end TM

namespace TM
open PySem PySem.Spec PyProof.Rows L2
section
variable {X : Cx} {e : Expr} {pos : Pos} {x : Nat}
end
section
variable {X : Cx} {i j : Nat}
end
end TM

namespace TM
open PySem PySem.Spec PyProof.Rows L2
section
variable {X : Cx}
end
end TM

namespace TM
open PySem PySem.Spec PyProof.Rows L2
section
variable {X : Cx} {a b c : Expr} {fa fb fc : FE} {pos : Pos}
noncomputable def fChain (g g' : T → T → Option T) (fa fb fc : FE) : FE := fun τ => (fa τ).bind fun p => (fb p.2).bind fun q => (g p.1 q.1).bind fun z => match z with
  | .bl true => (fc q.2).bind fun r => (g' q.1 r.1).bind fun t => some (t, r.2)
  | .bl false => some (.bl false, q.2)
  | _ => none
theorem chain_core {g g' : T → T → Option T} {K : PySem.W.Frag} {F₀ H₀ : Hp} {σ : L2.St} {H : Hp} {Q : VK} (h : tE K F₀ H₀ (fChain g g' fa fb fc) σ H Q) : tChain (rT2 K g) (rT2 K g') (tE K F₀ H₀ fa) (tE K F₀ H₀ fb) (tE K F₀ H₀ fc) σ H Q := by
  obtain ⟨F, τ, t, τ', E, e1, q⟩ := h
  obtain ⟨⟨x, τ1⟩, e2, e1⟩ := bind_some e1
  obtain ⟨⟨y, τ2⟩, e3, e1⟩ := bind_some e1
  obtain ⟨z, e4, e1⟩ := bind_some e1
  refine ⟨F, τ, x, τ1, E, e2, fun F1 H1 v1 E1 s1 r1 => ⟨F1, τ1, y, τ2, E1, e3, fun F2 H2 v2 E2 s2 r2 => ⟨F2, x, y, z, E2.g.fh, r1.mono s2, r2, e4, fun F3 H3 v3 g3 r3 => ?_⟩⟩⟩
  dsimp only at e1
  split at e1
  · obtain ⟨⟨w, τ3⟩, e5, e1⟩ := bind_some e1
    obtain ⟨t', e6, e1⟩ := bind_some e1
    cases e1
    refine ⟨true, r3, ?_⟩
    rw [if_pos rfl]
    exact ⟨F3, τ2, w, _, E2.grow g3, e5, fun F4 H4 v4 E4 s4 r4 => ⟨F4, y, w, _, E4.g.fh, (r2.mono g3.sF).mono s4, r4, e6, fun F5 H5 v5 g5 r5 => q F5 H5 v5 (E4.grow g5) (((s1.trans s2).trans g3.sF).trans (s4.trans g5.sF)) r5⟩⟩
  · cases e1
    refine ⟨false, r3, ?_⟩
    rw [if_neg (by decide)]
    exact q F3 H3 _ (E2.grow g3) ((s1.trans s2).trans g3.sF) rfl
  · cases e1
theorem se_chain {op op' : CmpOp} {g g' : T → T → Option T} (ho : OpT X (compareOp op) g) (ho' : OpT X (compareOp op') g') (ha : SE X a fa) (hb : SE X b fb) (hc : SE X c fc) (hm : lastMarks [op, op'] [b, c] = false := by with_unfolding_all rfl) : SE X (.Compare a [op, op'] [b, c] pos) (fChain g g' fa fb fc) :=
  fun F₀ H₀ => PE.weak (pe_chain ho ho' (ha F₀ H₀) (hb F₀ H₀) (hc F₀ H₀) hm) fun _ _ _ => chain_core
end
end TM

namespace TM
open PySem PySem.Spec PyProof.Rows L2
section
variable {K : PySem.W.Frag} {F₀ H₀ F H F' H' : Hp} {σ σ' : L2.St} {τ τ' : TEnv} {A : List Addr}
end
section
variable {X : Cx} {r t x : Nat} {rn tn xn : Str} {p1 p2 p3 p4 p5 p6 pos : Pos}
end
end TM

namespace TM
open PySem PySem.Spec PyProof.Rows L2
section
variable {K : PySem.W.Frag} {F₀ H₀ F H F' H' : Hp} {σ σ' : L2.St} {τ τ' : TEnv} {A : List Addr} {x : Nat} {o : O} {v : V}
end
section
variable {X : Cx} {r t x : Nat} {rn tn xn : Str} {p1 p2 p3 p4 p5 p6 pos q1 q2 q3 q4 q5 q6 pos' : Pos}
end
end TM

namespace TM
open PySem PySem.Spec PyProof.Rows L2
section
variable {K : PySem.W.Frag} {F₀ H₀ F H F' H' : Hp} {σ σ' : L2.St} {τ τ' : TEnv} {x : Nat} {p : Addr} {os : List O} {A : List Addr}
end
section
variable {X : Cx} {e : Expr} {pos : Pos} {x : Nat}
end
end TM

namespace TM
open PySem PySem.Spec PyProof.Rows L2
section
variable {X : Cx} {e : Expr} {pos : Pos}
end
section
variable {X : Cx} {e : Expr} {pos : Pos}
end
section
variable {P : Program} {w : World} {K : PySem.W.Frag} {mg : Str → Option Value} {base : Heap} {j k n : Nat} {C : Addr} {m : Str}
end
section
variable {X : Cx} {o e : Expr} {pos apos : Pos} {fo : FE} {k n : Nat} {m : Str}
end
section
variable {X : Cx} {x y : Nat} {e : Expr} {pos : Pos}
end
section
variable {K : PySem.W.Frag} {F₀ H₀ F H F' H' : Hp} {σ σ' : L2.St} {τ τ' : TEnv} {A : List Addr} {o : O} {v : V}
end
section
variable {X : Cx} {x y : Nat} {e : Expr} {pos : Pos}
end
end TM

namespace TM
open PySem PySem.Spec PyProof.Rows L2
section
variable {X : Cx} {es : List Expr} {pos : Pos}
noncomputable def gLst (K : PySem.W.Frag) (n : Nat) (t : TGs) : TG := fun v σ H Q => ∃ a xs, v = .ref a ∧ SqL K H a xs ∧ xs.length = n ∧ t xs σ H Q
theorem pg_lst {k : Nat} {t : TGs} {n : Nat} (hc : X.calm = true) (h : PGs X es t)
    (hn : (assignEach es X.env).length = n := by rfl) (hst : (assignEach es X.env).findIdx? (·.1) = none := by rfl) : PG X (.Tuple es k pos) (gLst X.K n t) := by
  intro pins s σ H v u Q I r hw
  obtain ⟨a, xs, e1, hq, hl, hw⟩ := hw
  subst e1
  cases r
  obtain ⟨its, rv, ht, hz⟩ := I.list hq
  rw [assign_Tuple]
  refine wpAny_bind (wpAny_standAt ?_)
  unfold unpack
  rw [hst, show (assignEach es X.env).length = its.toArray.size by simp [hn, ← hl, rv.length]]
  refine wpAny_bind (wpAny_holding (PySem.W.kun_itemsOf (I.ok.hd hc) ht.isList fun h' hx => ?_))
  have I1 : Inv X pins σ H { s with heap := h' } := I.kept (t' := s.toks) fun b o e => hx b o (Nat.ne_of_lt (Heap.lt_size e)) e
  exact h pins _ σ H xs _ Q I1 (by simpa using rv) hw
noncomputable def gnLst (gs : List T → TEnv → Option TEnv) : FG := fun t τ => match t with
  | .lst ts => gs ts τ
  | _ => none
theorem sg_lst {gs : List T → TEnv → Option TEnv} {k : Nat} {n : Nat} (hc : X.calm = true) (h : SGs X es gs) (hl : ∀ ts τ τ', gs ts τ = some τ' → ts.length = n)
    (hn : (assignEach es X.env).length = n := by rfl) (hst : (assignEach es X.env).findIdx? (·.1) = none := by rfl) : SG X (.Tuple es k pos) (gnLst gs) :=
  fun F₀ H₀ pins s σ H v u Q I r h' => pg_lst hc (h F₀ H₀) hn hst pins s σ H v u Q I r (by
    obtain ⟨F, τ, t, τ', E, rt, e1, q⟩ := h'
    unfold gnLst at e1
    split at e1
    · next ts =>
      obtain ⟨p, xs, rfl, h1, h2⟩ := rt
      exact ⟨p, xs, rfl, SqL.of (E.g.fh _ _ h1), by rw [h2.length]; exact hl _ _ _ e1, F, τ, ts, τ', E, h2, e1, q⟩
    · cases e1)
end
end TM

namespace TM
open PySem PySem.Spec PyProof.Rows L2
structure XI where
  C : Addr
  ns : List Str
  ts : List T
noncomputable abbrev FX := TEnv → Option (XI × TEnv)
noncomputable def PayOk (K : PySem.W.Frag) (F : Hp) (od : Option Addr) (c : XI) : Prop := (c.ns = [] ∧ c.ts = [] ∧ od = none) ∨ ∃ d us, od = some d ∧ F d = some (.xd (c.ns.zip us)) ∧ us.length = c.ns.length ∧ Reps K F c.ts us
noncomputable def Post (b : Bool) (X : Cx) (pins : List (Addr × Obj)) (F₀ H₀ F : Hp) (c : XI) (τ' : TEnv) (e : Value) (s' : Shared) : Prop :=
  ∃ σ' F' H' od, ((b = true ∧ Made X pins σ' H' c.C od e s') ∨ Came X pins σ' H' c.C od e s') ∧ EnvOk X.K F₀ H₀ F' H' σ' τ' ∧ Same F F' ∧ PayOk X.K F' od c
noncomputable def SXe (b : Bool) (X : Cx) (e : Expr) (fx : FX) : Prop := ∀ F₀ H₀ pins s σ H F τ C τ', Inv X pins σ H s → EnvOk X.K F₀ H₀ F H σ τ → fx τ = some (C, τ') → wpAny (model X.prog X.w) X.A (eval e X.env) (fun _ _ => False) (Post b X pins F₀ H₀ F C τ') s
noncomputable def SX (b : Bool) (X : Cx) (st : Stmt) (fx : FX) : Prop := ∀ F₀ H₀ pins s σ H F τ C τ', Inv X pins σ H s → EnvOk X.K F₀ H₀ F H σ τ → fx τ = some (C, τ') → wpAny (model X.prog X.w) X.A (exec st X.env) (fun _ _ => False) (Post b X pins F₀ H₀ F C τ') s
noncomputable def SXs (b : Bool) (X : Cx) (ss : List Stmt) (fx : FX) : Prop := ∀ F₀ H₀ pins s σ H F τ C τ', Inv X pins σ H s → EnvOk X.K F₀ H₀ F H σ τ → fx τ = some (C, τ') → wpAny (model X.prog X.w) X.A (execs ss X.env) (fun _ _ => False) (Post b X pins F₀ H₀ F C τ') s
theorem Post.of {b : Bool} {X : Cx} {pins : List (Addr × Obj)} {F₀ H₀ F F1 : Hp} {c : XI} {τ' : TEnv} {e : Value} {s' : Shared} (s : Same F F1) (p : Post b X pins F₀ H₀ F1 c τ' e s') : Post b X pins F₀ H₀ F c τ' e s' := by
  obtain ⟨σ', F', H', od, z, E, s2, y⟩ := p
  exact ⟨σ', F', H', od, z, E, s.trans s2, y⟩
noncomputable def spX (K : PySem.W.Frag) (n : Nat) (dx : List T → Option XI) : Sp := fun vs H _ E => vs.length = n ∧ ∃ F ts c, Same F H ∧ Reps K F ts vs ∧ dx ts = some c ∧ ∀ od F' H', Grow F H F' H' → PayOk K F' od c → E (oV od) (some c.C) H'
structure DefX (P : Program) (w : World) (K : PySem.W.Frag) (mg : Str → Option Value) (base : Heap) (k : Nat) (x : Str) (n : Nat) (dx : List T → Option XI) : Prop where
  ex : ∃ f fd ps, FnOk P w K mg base (CX1 P w) k f fd ps (spX K n dx) ∧ Binds K fd ps [] ∧ PySem.W.keepIn K (.ref f) = true ∧ mg x = some (.ref f) ∧ ps.length = n
section
variable {P : Program} {w : World} {K : PySem.W.Frag} {mg : Str → Option Value} {base : Heap} {j k n : Nat} {x : Str} {C : Addr} {dx : List T → Option XI}
theorem DefX.mono (D : DefX P w K mg base j x n dx) (h : j ≤ k) : DefX P w K mg base k x n dx := by
  obtain ⟨f, fd, ps, F, r⟩ := D.ex
  exact ⟨f, fd, ps, F.mono h, r⟩
end
section
variable {X : Cx} {e : Expr} {es : List Expr} {pos : Pos} {g : FA} {b : Bool}
noncomputable def fCallX (dx : List T → Option XI) (g : FA) : FX := fun τ => (g τ).bind fun p => (dx p.1).bind fun C => some (C, p.2)
theorem sx_call {k n : Nat} {x : Str} {p : Pos} {dx : List T → Option XI} (hx : ∀ e s, X.xe e s → False) (D : DefX X.prog X.w X.K X.mg X.base k x n dx) (hr : Room k X.A) (hg : Gl X x) (ha : SA X (e :: es) g) (hl : ∀ τ ts τ', g τ = some (ts, τ') → ts.length = n) (hdb : (x == ("__debug__" : Str)) = false := by decide)
    (he : starEach (e :: es) X.env = (false, eval e X.env) :: starEach es X.env := by rfl) (hpl : (backTo pos (starEach es X.env)).any (·.1) = false := by rfl) : SXe b X (.Call (.Name x p) (e :: es) [] pos) (fCallX dx g) := by
  obtain ⟨f, fd, ps, Fk, hb, hk, hm, hn⟩ := D.ex
  intro F₀ H₀ pins s σ H F τ C τ' I E e1
  obtain ⟨⟨ts, τ1⟩, e2, e1⟩ := bind_some e1
  obtain ⟨C', e3, e1⟩ := bind_some e1
  cases e1
  have hlen := hl _ _ _ e2
  refine wpAny_Call_Name_kw (ld_glob I hg hm ?_ hdb)
  refine PySem.W.callWith_K (h₀ := X.base) I.ok.mod.kin hk (wpAny_mono (ha F₀ H₀ pos pins s σ H (fun vs H1 => ∃ F1, EnvOk X.K F₀ H₀ F1 H1 σ τ1 ∧ Same F F1 ∧ Reps X.K F1 ts vs) I ⟨F, τ, ts, τ1, E, e2, fun F1 H1 vs E1 s1 r1 => ⟨F1, E1, s1, r1⟩⟩) (fun us s1 z => ?_) fun e s z => False.elim (hx e s z)) he hpl
  obtain ⟨vs, H1, I1, r, F1, E1, sF, r1⟩ := z
  refine ⟨I1.kIn, ?_⟩
  have hvl : vs.length = n := by rw [r1.length]; exact hlen
  have hul : (us ++ []).length = ps.length := by rw [List.append_nil, ← r.length, hvl, hn]
  refine wpAny_call (codeAny_mono (Fk.run X.A X.stack s1 H1 ⟨[] ++ us, []⟩ (us ++ []) (vs ++ []) (fun _ _ => False) (fun dv oc H' => oc = some C.C ∧ ∃ od F', dv = oV od ∧ EnvOk X.K F₀ H₀ F' H' σ τ1 ∧ Same F F' ∧ PayOk X.K F' od C) hr I1.env0 (hb s1 us I1.kIn hul) (r.append .nil) ⟨by rw [List.append_nil]; exact hvl, F1, ts, C, E1.g.fh, by rw [List.append_nil]; exact r1, e3, fun od F' H' gr y => ⟨rfl, od, F', rfl, E1.grow gr, sF.trans gr.sF, y⟩⟩) fun rr s' hq => ?_)
  cases rr with
  | error ev =>
    obtain ⟨a, C2, od2, H', rfl, fl, ec, od, F', eo, E2, s2, y⟩ := hq
    cases ec
    obtain rfl := oV_inj eo
    exact ⟨σ, F', H', _, .inr ⟨a, s1, H1, rfl, I1, fl⟩, E2, s2, y⟩
  | ok fl =>
    cases fl with
    | ret u => obtain ⟨v, H', _, _, _, _, _, q⟩ := hq; exact q.elim
    | next => exact False.elim hq
    | brk => exact False.elim hq
    | cont => exact False.elim hq
theorem sx_asg {tg : Expr} {fx : FX} (h : SXe b X e fx) (hs : swapsWithSole [tg] e pos.line X.env = pure false := by rfl) (hw : swappedStores [tg] e X.env = pure none := by rfl) : SX b X (.Assign [tg] e pos) fx := fun F₀ H₀ pins s σ H F τ C τ' I E e1 =>
  wpAny_Assign_stores (wpAny_mono (h F₀ H₀ pins s σ H F τ C τ' I E e1) (fun _ _ z => z.elim) fun _ _ z => z) hs hw
noncomputable def fIfX (c : FT) (f1 f2 : FX) : FX := fun τ => (c τ).bind fun p => if p.1 = true then f1 p.2 else f2 p.2
noncomputable def fNoX : FX := fun _ => none
theorem sxs_no {ss : List Stmt} : SXs b X ss fNoX := fun F₀ H₀ pins s σ H F τ C τ' I E e1 => by cases e1
theorem sx_if {c : Expr} {tc : FT} {as bs : List Stmt} {f1 f2 : FX} (hx : ∀ e s, X.xe e s → False) (hc : ST X c tc) (h1 : SXs b X as f1) (h2 : SXs b X bs f2) : SX b X (.If c as bs pos) (fIfX tc f1 f2) := fun F₀ H₀ pins s σ H F τ C τ' I E e1 => by
  obtain ⟨⟨c0, τ1⟩, e2, e1⟩ := bind_some e1
  refine wpAny_If (wpAny_mono (hc F₀ H₀ pins s σ H (fun d H1 => d = c0 ∧ ∃ F1, EnvOk X.K F₀ H₀ F1 H1 σ τ1 ∧ Same F F1) I ⟨F, τ, c0, τ1, E, e2, fun F1 H1 E1 s1 => ⟨rfl, F1, E1, s1⟩⟩) (fun d s1 z => ?_) fun e s z => False.elim (hx e s z))
  obtain ⟨H1, I1, rfl, F1, E1, sF⟩ := z
  dsimp only at e1
  cases d with
  | true =>
    rw [if_pos rfl] at e1
    exact wpAny_mono (h1 F₀ H₀ pins s1 σ H1 F1 τ1 C τ' I1 E1 e1) (fun _ _ z => z.elim) fun _ _ z => z.of sF
  | false =>
    rw [if_neg Bool.false_ne_true] at e1
    exact wpAny_mono (h2 F₀ H₀ pins s1 σ H1 F1 τ1 C τ' I1 E1 e1) (fun _ _ z => z.elim) fun _ _ z => z.of sF
theorem sxs_here {st : Stmt} {rest : List Stmt} {fx : FX} (h : SX b X st fx) : SXs b X (st :: rest) fx := fun F₀ H₀ pins s σ H F τ C τ' I E e1 =>
  wpAny_execs_cons (wpAny_mono (h F₀ H₀ pins s σ H F τ C τ' I E e1) (fun _ _ z => z.elim) fun _ _ z => z)
noncomputable def fSeqX (f : FS) (fx : FX) : FX := fun τ => (f τ).bind fun r => match r with
  | .nx τ1 => fx τ1
  | _ => none
theorem sxs_cons {st : Stmt} {rest : List Stmt} {f : FS} {fx : FX} (hx : ∀ e s, X.xe e s → False) (h1 : SS X st f) (h2 : SXs b X rest fx) : SXs b X (st :: rest) (fSeqX f fx) := fun F₀ H₀ pins s σ H F τ C τ' I E e1 => by
  obtain ⟨r, e2, e1⟩ := bind_some e1
  cases r with
  | nx τ1 =>
    refine wpAny_execs_cons (wpAny_mono (h1 F₀ H₀ pins s σ H { nx := fun σ1 H1 => ∃ F1, EnvOk X.K F₀ H₀ F1 H1 σ1 τ1 ∧ Same F F1, rt := fun _ _ => False } I ⟨F, τ, .nx τ1, E, e2, fun F1 H1 σ1 E1 s1 => ⟨F1, E1, s1⟩⟩) (fun fl s1 z => ?_) fun e s z => False.elim (hx e s z))
    cases fl with
    | next =>
      obtain ⟨σ1, H1, I1, F1, E1, sF⟩ := z
      exact wpAny_mono (h2 F₀ H₀ pins s1 σ1 H1 F1 τ1 C τ' I1 E1 e1) (fun _ _ z => z.elim) fun _ _ z => z.of sF
    | ret v => obtain ⟨_, _, _, _, _, z⟩ := z; exact z.elim
    | brk => obtain ⟨_, _, _, z⟩ := z; exact z.elim
    | cont => obtain ⟨_, _, _, z⟩ := z; exact z.elim
  | rt t => cases e1
  | bk t => cases e1
  | ct t => cases e1
noncomputable def fOrX (f1 f2 : FX) : FX := fun τ => match f1 τ with
  | some z => some z
  | none => f2 τ
theorem sxs_or {ss : List Stmt} {f1 f2 : FX} (h1 : SXs b X ss f1) (h2 : SXs b X ss f2) : SXs b X ss (fOrX f1 f2) := fun F₀ H₀ pins s σ H F τ C τ' I E e1 => by
  unfold fOrX at e1
  split at e1
  · next z e2 => cases e1; exact h1 F₀ H₀ pins s σ H F τ C τ' I E e2
  · exact h2 F₀ H₀ pins s σ H F τ C τ' I E e1
theorem made_of {X : Cx} {pins : List (Addr × Obj)} {σ : L2.St} {H : Hp} {s : Shared} {C a : Addr} {h' : Heap} {args : List Value} (hex : X.ex = []) (I : Inv X pins σ H s) (m : Heap.MadeExcOf s.heap h' a (.ref C) args) : Made X pins σ H C none (.ref a) { s with heap := h' } := by
  obtain ⟨kp, na, t, h1, _⟩ := m
  refine ⟨a, _, _, _, rfl, I.kept (t' := s.toks) kp, ?_, ?_, h1, rfl, rfl, rfl, rfl, rfl⟩
  · cases q : H a with
    | none => rfl
    | some o =>
      obtain ⟨ob, e⟩ := (I.hok a o q).has
      rw [na] at e; cases e
  · cases q : X.s₀.heap.get? a with
    | none => rfl
    | some o =>
      obtain ⟨o2, e2⟩ := I.base.there a o q (by rw [hex]; simp)
      rw [na] at e2; cases e2
noncomputable def fRaise (C : Addr) (g : FA) : FX := fun τ => (g τ).bind fun p => if p.1.length ≤ 1000 then some (⟨C, [], []⟩, p.2) else none
theorem sx_raise {C0 : Addr} {up : List Addr} {x : Str} {np cpos : Pos} (hc : X.calm = true) (hx : ∀ e s, X.xe e s → False) (Er : ErrK X.K C0 up none) (hg : Gl X x) (hm : X.mg x = some (.ref C0)) (ha : SA X [e] g) (hdb : (x == ("__debug__" : Str)) = false := by decide)
    (he : starEach [e] X.env = (false, eval e X.env) :: starEach [] X.env := by rfl) (hex : X.ex = [] := by rfl) : SX true X (.Raise (some (.Call (.Name x np) [e] [] cpos)) none pos) (fRaise C0 g) := fun F₀ H₀ pins s σ H F τ C τ' I E e1 => by
  obtain ⟨⟨ts, τ1⟩, e2, e1⟩ := bind_some e1
  dsimp only at e1
  split at e1
  · next hl =>
    cases e1
    exact px_raise hc hx Er hg hm (ha F₀ H₀) I ⟨F, τ, ts, _, E, e2, fun F1 H1 vs E1 s1 r1 => ⟨by rw [r1.length]; exact Nat.le_of_lt (L2.small1000 hl), fun h' a s2 args I2 hm' => ⟨σ, F1, H1, none, .inl ⟨rfl, made_of hex I2 hm'⟩, E1, s1, .inl ⟨rfl, rfl, rfl⟩⟩⟩⟩ hdb he
  · cases e1
end
section
variable {X : Cx} {e : Expr} {pos : Pos} {g : FA}
end
end TM

namespace TM
open PySem PySem.Spec PyProof.Rows L2
noncomputable def dOfX (m n : Nat) (fx : FX) : List T → Option XI := fun ts => if ts.length = n then (fx (ts.map (fun t => some (Sl.sh t)) ++ List.replicate (m - n) none)).bind fun p => some p.1 else none
section
variable {P : Program} {w : World} {K : PySem.W.Frag} {mg : Str → Option Value} {base : Heap}
theorem fnX_of {x qual : Str} {st : Stmt} {f : Addr} {fd : FuncData} {N ps : List Str} {k : Nat} {fx : FX} {dx : List T → Option XI} (F : Fun K x qual st f fd) (S : FnScope N ps (defScope st))
    (hd : ∀ ts C, dx ts = some C → ts.length = ps.length → ∃ τ', fx (ts.map (fun t => some (Sl.sh t)) ++ List.replicate (N.length - ps.length) none) = some (C, τ'))
    (h : ∀ (cdv : Value) (A : Around) (outer : List Env) (s : Shared) (H : Hp) (E : XK), Room k (A.deeper (envOfC qual (defScope st) s.heap.objs.size f cdv)) → SXs true (cxOf (CX1 P w) P w K mg base N qual (defScope st) f cdv A outer s H E).nox (defBody st) fx) :
    FnOk P w K mg base (CX1 P w) (k + 1) f fd ps (spX K ps.length dx) := by
  obtain ⟨oc, od, kV, doc, pm, an, cdv, ct, osl, rfl, lk, hcd⟩ := F.ex
  refine fn_of lk hcd S (fun vs H Q E z => z.1) fun A outer s H vs Q E hr z => ?_
  obtain ⟨hl, F1, ts, C, sm, r, e, q⟩ := z
  obtain ⟨τ', e1⟩ := hd ts C e (by rw [← r.length]; exact hl)
  refine ⟨fun _ σ1 H1 => ∃ τ, EnvOk K F1 H F1 H1 σ1 τ ∧ fx τ = some (C, τ'), ?_, ?_⟩
  · intro pins s1 σ1 H1 D I z
    obtain ⟨τ, E1, e2⟩ := z
    refine wpAny_mono (h cdv A outer s H E hr F1 H pins s1 σ1 H1 F1 τ C τ' (I.wish _) E1 e2) (fun _ _ z => z.elim) fun ev s2 z => ?_
    obtain ⟨σ2, F2, H2, od, z, E2, _, y⟩ := z
    rcases z with ⟨_, z⟩ | z
    · refine wpAny_mono (leave_made (E := fun _ _ => False) rfl rfl rfl z) (fun _ s3 z => ?_) fun _ _ z => z.elim
      obtain ⟨a, rfl, fl⟩ := z
      exact ⟨a, C.C, od, H2, rfl, fl, q od F2 H2 E2.g y⟩
    · refine wpAny_mono (leave_came (E := fun _ _ => False) rfl rfl rfl z) (fun _ s3 z => ?_) fun _ _ z => z.elim
      obtain ⟨a, rfl, fl⟩ := z
      exact ⟨a, C.C, od, H2, rfl, fl, q od F2 H2 E2.g y⟩
  · refine ⟨_, ?_, e1⟩
    have := env_start (N := N) sm r
    rw [show ts.length = ps.length by rw [← r.length]; exact hl] at this
    exact this
theorem defX_of {x qual : Str} {st : Stmt} {f : Addr} {fd : FuncData} {N ps : List Str} {k : Nat} {fx : FX} (F : Fun K x qual st f fd) (S : FnScope N ps (defScope st)) (hb : Binds K fd ps []) (hm : mg x = some (.ref f))
    (h : ∀ (cdv : Value) (A : Around) (outer : List Env) (s : Shared) (H : Hp) (E : XK), Room k (A.deeper (envOfC qual (defScope st) s.heap.objs.size f cdv)) → SXs true (cxOf (CX1 P w) P w K mg base N qual (defScope st) f cdv A outer s H E).nox (defBody st) fx) :
    DefX P w K mg base (k + 1) x ps.length (dOfX N.length ps.length fx) := by
  refine ⟨f, fd, ps, fnX_of F S (fun ts C e hl => ?_) h, hb, F.kp, hm, rfl⟩
  unfold dOfX at e
  rw [if_pos hl] at e
  obtain ⟨⟨C', τ'⟩, e1, e⟩ := bind_some e
  cases e
  exact ⟨τ', e1⟩
end
theorem EnvOk.del {K : PySem.W.Frag} {F₀ H₀ F H : Hp} {σ : L2.St} {τ : TEnv} {i : Nat} (E : EnvOk K F₀ H₀ F H σ τ) : EnvOk K F₀ H₀ F H (σ.set i none) (τ.set i none) := by
  have key : ∀ (j : Nat) (s : Sl), (τ.set i none)[j]? = some (some s) → j ≠ i ∧ τ[j]? = some (some s) := fun j s e => by
    have hj : j ≠ i := fun z => by
      rw [z] at e
      by_cases hi : i < τ.length
      · rw [List.getElem?_set_self hi] at e; cases e
      · rw [List.getElem?_eq_none (by rw [List.length_set]; omega)] at e; cases e
    rw [List.getElem?_set_ne (Ne.symm hj)] at e
    exact ⟨hj, e⟩
  refine ⟨E.g, by rw [List.length_set, List.length_set]; exact E.len, fun j s e => ?_, fun j l ts us p hjl e1 e2 e3 => ?_⟩
  · obtain ⟨hj, e⟩ := key j s e
    obtain ⟨v, h1, h2⟩ := E.sl j s e
    exact ⟨v, by rw [List.getElem?_set_ne (Ne.symm hj)]; exact h1, h2⟩
  · obtain ⟨hj, e1⟩ := key j _ e1
    obtain ⟨hl, e2⟩ := key l _ e2
    rw [List.getElem?_set_ne (Ne.symm hj)] at e3
    rw [List.getElem?_set_ne (Ne.symm hl)]
    exact E.dj j l ts us p hjl e1 e2 e3
noncomputable abbrev FHs := XI → TEnv → Option R
noncomputable def SHs (X : Cx) (hs : List ExceptHandler) (fh : FHs) : Prop := ∀ F₀ H₀ pins s5 σ H F τ c od a r Dn E, Landed X pins σ H c.C od a s5 → EnvOk X.K F₀ H₀ F H σ τ → PayOk X.K F od c → fh c τ = some r → FlowOk X.K F₀ H₀ F Dn r →
  wpAny (model X.prog X.w) X.A (handleBy (.ref a) X.env hs) (SP X pins Dn) E s5
structure TakesX (K : PySem.W.Frag) (D : Addr) (tbl : List (Addr × Bool)) : Prop where
  cls : ∃ bD iD, ClsX K D bD iD ∧ bD.contains (.type "BaseException") = true
  all : ∀ a ∈ tbl, ∃ bC iC, ClsX K a.1 bC iC ∧ (Value.ref a.1 :: bC).contains (.ref D) = a.2
noncomputable def fTry (fb : FS) (fx : FX) (fh : FHs) : FS := fun τ => match fb τ with
  | some r => some r
  | none => (fx τ).bind fun p => fh p.1 p.2
noncomputable def fhNil : FHs := fun _ _ => none
noncomputable def fhAs (i : Nat) (tbl : List (Addr × Bool)) (fh : FS) (more : FHs) : FHs := fun c τ => (findB c.C tbl).bind fun b => if b = true then
    (fh (τ.set i (some (.sh (.exc c.C c.ns c.ts))))).bind fun r => match r with
    | .nx τ2 => some (.nx (τ2.set i none))
    | .rt t => some (.rt t)
    | _ => none
  else more c τ
section
variable {X : Cx} {pos : Pos}
theorem sh_nil : SHs X [] fhNil := fun F₀ H₀ pins s5 σ H F τ c od a r Dn E z E1 y e q => by cases e
theorem grow_exc {K : PySem.W.Frag} {F₀ H₀ F H : Hp} {σ : L2.St} {τ : TEnv} {a : Addr} {φ : Heap → Prop} (E2 : EnvOk K F₀ H₀ F H σ τ) (na : H a = none) : Grow F H (upd F a (.ext φ)) (upd H a (.ext φ)) := by
  have nF : F a = none := E2.g.fh.free na
  exact ⟨fun c o e => by rw [upd_ne (ne_of_none e nF)]; exact e, fun c o e => by rw [upd_ne (ne_of_none e na)]; exact e, fun c o e => by
    by_cases hc : c = a
    · rw [hc] at e ⊢
      rw [upd_same] at e ⊢
      exact e
    · rw [upd_ne hc] at e ⊢
      exact E2.g.fh _ _ e, fun c o e => by
    by_cases hc : c = a
    · exact .inr (by rw [hc]; exact na)
    · rw [upd_ne hc] at e
      exact .inl e⟩
theorem sh_as {suite : List Stmt} {b₀ : Stmt} {x n : Str} {np hpos : Pos} {D : Addr} {i : Nat} {tbl : List (Addr × Bool)} {fh : FS} {more : FHs} {hs : List ExceptHandler} (hN : X.N.Nodup) (hi : X.N[i]? = some n)
    (hl : X.env.scope.names.lookup n = some .local) (hlo : X.env.kindOf n = some .local) (hg : Gl X x) (hm : X.mg x = some (.ref D)) (tk : TakesX X.K D tbl)
    (hh : ∀ a, SSs (X.inS (.ref a)) (b₀ :: suite) fh) (hr : SHs X hs more) (hdb : (x == ("__debug__" : Str)) = false := by decide) :
    SHs X (.ExceptHandler (some (.Name x np)) (some n) (b₀ :: suite) hpos :: hs) (fhAs i tbl fh more) := by
  intro F₀ H₀ pins s5 σ H F τ c od a r Dn E z E1 y e q
  obtain ⟨bD, iD, cD, hbD⟩ := tk.cls
  obtain ⟨b, e1, e⟩ := bind_some e
  obtain ⟨bC, iC, cC, hCD⟩ := tk.all _ (findB_mem e1)
  cases b with
  | false =>
    rw [if_neg Bool.false_ne_true] at e
    exact hand_skip z cC cD hbD hCD hg hm (hr F₀ H₀ pins s5 σ H F τ c od a r Dn E z E1 y e q) hdb
  | true =>
    rw [if_pos rfl] at e
    obtain ⟨r', eh, e⟩ := bind_some e
    refine hand_as z cC cD hbD hCD hg hm hN hi hl hlo (fun s2 na I2 => ?_) hdb
    have gr := grow_exc (φ := ExcIs a c.C od) E1 na
    have E3 : EnvOk X.K F₀ H₀ (upd F a (.ext (ExcIs a c.C od))) (upd H a (.ext (ExcIs a c.C od))) (σ.set i (some (.ref a))) (τ.set i (some (.sh (.exc c.C c.ns c.ts)))) := (E1.grow gr).set (t := .exc c.C c.ns c.ts) ⟨a, od, rfl, upd_same, by
      rcases y with y | ⟨d, us, y1, y2, y3, y4⟩
      · exact .inl y
      · exact .inr ⟨d, us, y1, gr.sF _ _ y2, y3, y4.mono gr.sF⟩⟩
    refine hh a F₀ H₀ pins s2 _ _ (Dn.gone i) I2 ⟨_, _, r', E3, eh, ?_⟩
    cases r' with
    | nx τ2 =>
      cases e
      exact fun F3 H3 σ3 E4 s4 => q F3 H3 (σ3.set i none) E4.del (gr.sF.trans s4)
    | rt t =>
      cases e
      exact q
    | bk τ2 => cases e
    | ct τ2 => cases e
theorem ss_try {body : List Stmt} {h0 : ExceptHandler} {hs : List ExceptHandler} {fb : FS} {fx : FX} {fh : FHs} (hx : ∀ e s, X.xe e s → False) (hst : X.stack = X.env :: X.outer) (hf : X.env.frame = some X.env.locals)
    (hb : SSs X body fb) (hxb : SXs false X body fx) (hh : SHs X (h0 :: hs) fh) : SS X (.Try body (h0 :: hs) [] [] pos) (fTry fb fx fh) := by
  intro F₀ H₀ pins s σ H Dn I z
  obtain ⟨F, τ, r, E, e1, q⟩ := z
  unfold fTry at e1
  split at e1
  · next r' eb =>
    cases e1
    refine wpAny_Try_except (wpAny_mono (hb F₀ H₀ pins s σ H Dn I ⟨F, τ, _, E, eb, q⟩) (fun f s1 z => ?_) fun e s z => False.elim (hx e s z))
    cases f with
    | next =>
      obtain ⟨σ', H', I', z⟩ := z
      exact pss_nil pins s1 σ' H' Dn I' z
    | ret v => exact z
    | brk => exact z
    | cont => exact z
  · obtain ⟨⟨c, τ1⟩, ex, e1⟩ := bind_some e1
    refine wpAny_Try_except (wpAny_mono (hxb F₀ H₀ pins s σ H F τ c τ1 I E ex) (fun _ _ z => z.elim) fun ev s1 z => ?_)
    obtain ⟨σ', F', H', od, z, E2, sF, y⟩ := z
    rcases z with ⟨z, _⟩ | z
    · cases z
    exact catch_came hst hf z fun a s5 ea zl => hh F₀ H₀ pins s5 σ' H' F' τ1 c od a r Dn _ zl E2 y e1 (q.mono sF)
end
structure IsiX (K : PySem.W.Frag) (Ct C : Addr) (b : Bool) : Prop where
  ex : ∃ bm, AskX K C bm
  kit : PySem.W.kitOne K (.ref C) (.ref Ct) = some b
section
variable {X : Cx} {e : Expr} {pos : Pos}
theorem call_isiX {Ct : Addr} : CallR X (.builtin "isinstance") (fun xs H Q => ∃ a C od b, xs = [.ref a, .ref Ct] ∧ H a = some (.ext (ExcIs a C od)) ∧ IsiX X.K Ct C b ∧ Q (.bl b) H) := by
  intro pins s σ H xs us Q I r h
  obtain ⟨a, C, od, b, rfl, ea, ok, q⟩ := h
  obtain ⟨u1, u2, rfl, ra, rb⟩ := Vals.two r
  cases (show u2 = Value.ref Ct from rb)
  cases (show u1 = Value.ref a from ra)
  obtain ⟨bm, ax⟩ := ok.ex
  obtain ⟨ph, _⟩ := (show ObjOk X.prog X.w H s.heap a (.ext (ExcIs a C od)) from I.hok a _ ea)
  exact PySem.W.kia_one (kitx_exc ax) I.kIn ph ok.kit (fun z => nomatch z) fun tk => ⟨.bl b, H, I.tok tk, rfl, q⟩
noncomputable def fIsiX (tbl : List (Addr × Bool)) (fe : FE) : FE := fun τ => (fe τ).bind fun p => match p.1 with
  | .exc C _ _ => (findB C tbl).bind fun b => some (.bl b, p.2)
  | _ => none
theorem se_isiX {Ct : Addr} {x : Str} {p p' : Pos} {fe : FE} {tbl : List (Addr × Bool)} (ht : ∀ a ∈ tbl, IsiX X.K Ct a.1 a.2) (hg : Gl X "isinstance") (hm : X.mg "isinstance" = none) (hgx : Gl X x) (hmx : X.mg x = some (.ref Ct)) (he : SE X e fe)
    (hs : starEach [e, .Name x p] X.env = (false, eval e X.env) :: starEach [.Name x p] X.env := by rfl) (hs2 : starEach [.Name x p] X.env = (false, eval (.Name x p) X.env) :: starEach [] X.env := by rfl) (hpl : (backTo pos (starEach [.Name x p] X.env)).any (·.1) = false := by rfl) (hdx : (x == ("__debug__" : Str)) = false := by decide) :
    SE X (.Call (.Name "isinstance" p') [e, .Name x p] [] pos) (fIsiX tbl fe) := fun F₀ H₀ =>
  PE.weak (pe_callB call_isiX hg hm (show bootBuiltins "isinstance" = some (.builtin "isinstance") from rfl) (pa_cons (he F₀ H₀) (pa_cons (pe_glob (v := .ref Ct) hgx hmx rfl hdx) pa_nil hs2) hs) (by decide) (by decide) hs hpl) fun σ H Q h => by
    obtain ⟨F, τ, t, τ', E, e1, q⟩ := h
    obtain ⟨⟨y, τ1⟩, e2, e1⟩ := bind_some e1
    dsimp only at e1
    split at e1
    · next C _ _ =>
      obtain ⟨b, e3, e1⟩ := bind_some e1
      cases e1
      refine ⟨F, τ, _, _, E, e2, fun F1 H1 v E1 s1 r1 => ?_⟩
      obtain ⟨a, od, rfl, h1, _⟩ := r1
      exact ⟨a, C, od, b, rfl, E1.g.fh _ _ h1, ht _ (findB_mem e3), q F1 H1 _ E1 s1 rfl⟩
    · cases e1
end
section
variable {X : Cx} {e : Expr} {pos : Pos}
end
end TM

namespace TM
open PySem PySem.Spec PyProof.Rows L2
section
variable {X : Cx} {es : List Expr} {pos : Pos}
noncomputable def gnSeq (gs : List T → TEnv → Option TEnv) : FG := fun t τ => match t with
  | .lst ts => gs ts τ
  | .tup ts => gs ts τ
  | _ => none
theorem sg_seq {gs : List T → TEnv → Option TEnv} {k : Nat} {n : Nat} (hc : X.calm = true) (h : SGs X es gs) (hl : ∀ ts τ τ', gs ts τ = some τ' → ts.length = n)
    (hn : (assignEach es X.env).length = n := by rfl) (hst : (assignEach es X.env).findIdx? (·.1) = none := by rfl) : SG X (.Tuple es k pos) (gnSeq gs) := by
  intro F₀ H₀ pins s σ H v u Q I r h'
  obtain ⟨F, τ, t, τ', E, rt, e1, q⟩ := h'
  cases t with
  | lst ts => exact sg_lst hc h hl hn hst F₀ H₀ pins s σ H v u Q I r ⟨F, τ, .lst ts, τ', E, rt, e1, q⟩
  | tup ts => exact sg_tup hc h hl hn hst F₀ H₀ pins s σ H v u Q I r ⟨F, τ, .tup ts, τ', E, rt, e1, q⟩
  | _ => cases e1
end
noncomputable def clsXb (K : PySem.W.Frag) (C : Addr) (bm : List Value) (ini : Option Value) : Bool := match K.lookup C with
  | some ⟨.type t, _, .cls ⟨_, _, mro, N, _, _, _, _, _, _, hd⟩, ⟨[_, _, _, _, some (.builtin nid), _]⟩⟩ => t == "type" && decide (mro = .ref C :: bm) && !hd && nid == "ValueError.__new__" && (match K.lookup N with
    | some ⟨_, _, .dict es _, _⟩ => es.all (fun e => match e.key with | .str _ _ => true | _ => false) && decide (nsFind es "__init__" = ini)
    | _ => false)
  | _ => false
theorem ClsX.of {K : PySem.W.Frag} {C : Addr} {bm : List Value} {ini : Option Value} (h : clsXb K C bm ini = true) : ClsX K C bm ini := by
  unfold clsXb at h
  split at h
  · next t dd nm bs mro N q hdct sn sub ab col hd k0 k1 k2 k3 nid k5 e1 =>
    simp only [Bool.and_eq_true, beq_iff_eq, decide_eq_true_eq, Bool.not_eq_true'] at h
    obtain ⟨⟨⟨⟨rfl, rfl⟩, rfl⟩, rfl⟩, h⟩ := h
    split at h
    · next c d es ep sl e2 =>
      simp only [Bool.and_eq_true, decide_eq_true_eq] at h
      exact ⟨N, nm, q, bs, hdct, sn, sub, ab, col, _, k0, k1, k2, k3, k5, _, es, ep, e1, e2, rfl, h.1, h.2⟩
    · cases h
  · cases h
end TM

namespace TM
open PySem PySem.Spec PyProof.Rows L2
section
variable {X : Cx} {r t : Nat} {rn tn : Str} {p1 p2 p3 p4 p5 p6 pos q1 q3 q4 q5 q6 pos' : Pos}
end
end TM

namespace TM
open PySem PySem.Spec PyProof.Rows L2
section
variable {K : PySem.W.Frag} {F₀ H₀ F H : Hp} {σ : L2.St} {τ : TEnv} {A : List Addr}
end
section
variable {X : Cx} {t x : Nat} {tn xn : Str} {q1 q2 p1 p2 p3 p4 p5 r1 r2 r3 r4 r5 r6 r7 r8 r9 pos' : Pos}
end
end TM

namespace TM
open PySem PySem.Spec PyProof.Rows L2
section
variable {X : Cx} {t x y : Nat} {tn xn yn : Str} {q1 q2 p1 p2 p3 p4 p5 r1 r2 r3 r4 r5 r6 r7 r8 r9 pos' a1 a2 c1 c2 : Pos}
end
end TM

namespace TM
open PySem PySem.Spec PyProof.Rows L2
section
variable {P : Program} {w : World} {K : PySem.W.Frag} {mg : Str → Option Value} {base : Heap} {j k n : Nat} {x : Str}
end
section
variable {X : Cx} {e a b : Expr} {es : List Expr} {pos : Pos} {g : FA} {k n : Nat}
end
section
variable {X : Cx} {x : Nat} {xn : Str} {r1 r2 r3 r4 r5 r6 r7 r8 r9 a1 a2 a3 : Pos}
end
end TM

namespace TM
open PySem PySem.Spec PyProof.Rows L2
section
variable {K : PySem.W.Frag} {F₀ H₀ F H F' H' : Hp} {σ σ' : L2.St} {τ τ' : TEnv} {A : List Addr}
end
section
variable {X : Cx} {x : Nat} {e : Expr} {pos : Pos} {hs : List Nat}
end
end TM

namespace TM
open PySem PySem.Spec PyProof.Rows L2
section
variable {X : Cx} {r pl nu : Nat} {rn pn nn : Str} {t1 t2 px e1 e2 e3 e4 e5 b1 b2 b3 b4 pos : Pos} {E : Expr} {fE : FE} {φ : T → T}
end
end TM

namespace TM
open PySem PySem.Spec PyProof.Rows L2
section
variable {X : Cx} {r t x pl nu : Nat} {rn tn xn pn nn : Str} {t1 t2 px e1 e2 e3 e4 e5 b1 b2 b3 b4 pos c1 c2 cpos : Pos} {E : Expr} {φ : T → T} {kx : Nat}
end
end TM

namespace TM
open PySem PySem.Spec PyProof.Rows L2
section
variable {K : PySem.W.Frag} {F H : Hp}
end
section
variable {X : Cx} {r t x pl nu : Nat} {xn : Str} {a1 a2 a3 f1 f2 : Pos}
end
end TM

namespace TM
open PySem PySem.Spec PyProof.Rows L2
end TM

namespace TM
open PySem PySem.Spec PyProof.Rows L2
section
variable {K : PySem.W.Frag} {F H : Hp} {A : List Addr}
end
section
variable {X : Cx} {e : Expr} {pos : Pos} {x : Nat}
end
section
variable {X : Cx} {x : Nat} {xn : Str} {r1 r2 r3 r4 r5 r6 r7 r8 r9 a1 a2 a3 : Pos}
end
section
variable {X : Cx} {e : Expr} {pos : Pos} {b : Bool}
end
end TM

namespace TM
open PySem PySem.Spec PyProof.Rows L2
section
variable {K : PySem.W.Frag} {F₀ H₀ F H F' H' : Hp} {σ σ' : L2.St} {τ τ' : TEnv} {x : Nat} {p : Addr} {tss : List (List T)} {A : List Addr}
end
section
variable {X : Cx} {pos p2 : Pos}
end
section
variable {X : Cx} {e : Expr} {pos : Pos} {x : Nat}
end
end TM

namespace TM
open PySem PySem.Spec PyProof.Rows L2
section
variable {K : PySem.W.Frag} {F₀ H₀ F H F' H' : Hp} {σ σ' : L2.St} {τ τ' : TEnv}
end
section
variable {X : Cx} {e v : Expr} {pos pos2 : Pos} {x i j : Nat} {nx ni nj : Str} {q1 q2 q3 q4 q5 p1 p2 p3 : Pos} {fo : FO'} {fv : FE} {t : T}
end
end TM

namespace TM
open PySem PySem.Spec PyProof.Rows L2
section
variable {X : Cx} {e : Expr} {pos : Pos} {x : Nat}
end
end TM

namespace TM
open PySem PySem.Spec PyProof.Rows L2
section
variable {X : Cx} {e : Expr} {pos : Pos} {x : Str} {f : FE}
end
end TM

namespace TM
open PySem PySem.Spec PyProof.Rows L2
section
variable {prog : Program} {w : World} {A : Around} {R : Result → Shared → Prop} {s : Shared} {elt tg iter tg2 iter2 : Expr} {scope : Scope} {pos : Pos} {it acc : Value} {env : Env}
end
section
variable {X : Cx} {K : PySem.W.Frag} {D : Addr} {F₂ H₁ : Hp} {pins : List (Addr × Obj)} {σ : L2.St} {H F : Hp} {τ : TEnv} {us : List T} {s : Shared}
end
section
variable {X' : Cx} {tg iter tg2 iter2 elt : Expr} {scope : Scope} {pos : Pos} {fg2 : FG} {fi2 : FA} {fe : FE} {D : Addr} {F₂ H₁ : Hp}
end
section
variable {X : Cx}
end
end TM

namespace TM
open PySem PySem.Spec PyProof.Rows L2
variable {X : Cx}
end TM

namespace TM
open PySem PySem.Spec PyProof.Rows L2
variable {X : Cx} {e : Expr} {pos : Pos}
theorem se_ptr {x : Str} {a : Addr} (hg : Gl X x) (hm : X.mg x = some (.ref a)) (hd : (x == ("__debug__" : Str)) = false := by decide) : SE X (.Name x pos) (fC (.ptr a)) :=
  se_const (pe_glob (v := .ref a) hg hm rfl hd) fun F => rfl
end TM

namespace TM
open PySem PySem.Spec PyProof.Rows L2
section
variable {X : Cx} {pins : List (Addr × Obj)} {σ : L2.St} {H : Hp} {s : Shared} {h' : Heap} {a : Addr} {o : HO}
end
section
variable {X : Cx} {e : Expr} {pos : Pos} {g : FA}
end
section
variable {X : Cx} {pins : List (Addr × Obj)} {σ : L2.St} {H : Hp} {s : Shared} {a : Addr} {φ ψ : Heap → Prop}
end
section
variable {X : Cx} {e : Expr} {pos : Pos} {g : FA}
end
end TM

namespace TM
open PySem PySem.Spec PyProof.Rows L2
section
variable {prog : Program} {w : World} {A : Around} {E : Value → Shared → Prop} {s : Shared} {K : PySem.W.Frag} {x C f : Addr} {ox : Obj} {od : Option Obj} {name : Str} {bm : List Value}
end
section
variable {X : Cx} {o : Expr} {m : Str} {pos apos : Pos} {fo : FE} {k : Nat}
end
section
variable {X : Cx}
end
end TM

namespace TM
open PySem PySem.Spec PyProof.Rows L2
section
variable {X : Cx} {e : Expr} {pos : Pos} {f : FE}
end
end TM

namespace TM
open PySem PySem.Spec PyProof.Rows L2
noncomputable def Its (x : Str) : It := ⟨fun i _ => i < x.cps.size, fun i H v H' => H' = H ∧ ∃ c, x.cps[i]? = some c ∧ v = .str ⟨#[c]⟩, fun i _ => i = x.cps.size⟩
theorem turn_str {P : Program} {w : World} {K : PySem.W.Frag} {tg : Expr} (it : Addr) (x : Str) (t : Tok) (kd : String) (hk : ["enumerate", "zip", "dict_itemiterator", "dict_reverseitemiterator", "odict_iterator", "itertools.zip_longest", "itertools.pairwise"].contains kd = false)
    (W : ∀ A : Around, A.handled = none → PySem.Walks P w A it [it] [it] x.cps.size (SignAt x) (fun i h => h.IsStrIter it kd x t i))
    (S : ∀ (A : Around) (i : Nat) (s : Shared) (Q : Value → Shared → Prop) (E : Value → Shared → Prop), s.heap.IsStrIter it kd x t i → Q (.ref it) s → wpAny (model P w) A (pyIter (.ref it)) Q E s) : Turn P w K tg (Its x) [it] it (fun i h => h.IsStrIter it kd x t i) where
  mem := by simp
  obj := fun i h st b hb => by
    have e : b = it := by simpa using hb
    subst e
    obtain ⟨o, e, c, d⟩ := st
    exact ⟨o, e, fun v z => by rw [d] at z; cases z⟩
  keep := fun i h h' st k => by obtain ⟨o, e, r⟩ := st; exact ⟨o, k it (by simp) o e, r⟩
  item := by
    intro X hP hw hK hc i pins s σ H E I hf st hg
    subst hP hw hK
    obtain ⟨f0, f1, f2, f3, f4, f5⟩ := hf it (by simp)
    refine (W X.A (I.ok.hd hc)).item i s _ _ hg st fun v h' tk hv st' kk => ?_
    obtain ⟨c, u, hc1, rfl⟩ := hv
    have I1 : Inv X pins σ H { s with heap := h', toks := tk } := I.turned (fun b o hb e => kk b o (by simpa using hb) e) f0 f1 f3 f4 f5
    obtain ⟨o, e, c', d⟩ := id st'
    exact ⟨_, rfl, go_of (s := { s with heap := h', toks := tk }) e c' d hk ⟨.str ⟨#[c]⟩, H, I1, ⟨_, rfl⟩, ⟨rfl, c, hc1, rfl⟩, st', fun b hb => (hf b hb).1⟩⟩
  done := by
    intro X hP hw hK hc i pins s σ H E I hf st hg
    subst hP hw hK
    obtain ⟨f0, f1, f2, f3, f4, f5⟩ := hf it (by simp)
    obtain rfl : i = x.cps.size := hg
    exact (W X.A (I.ok.hd hc)).done s _ _ st fun h' tk kk => ⟨rfl, I.turned (fun b o hb e => kk b o (by simpa using hb) e) f0 f1 f3 f4 f5⟩
  self := S
section
variable {X : Cx} {tg l : Expr} {f : FE}
noncomputable def iStr (tl : TE) : TI := fun σ H R => tl σ H fun x H1 => ∃ a, x = .str a ∧ R (Its a) H1
theorem pi_str {tl : TE} (hl : PE X l tl) : PI X tg l (iStr tl) := by
  intro pins s σ H R I h
  refine thn (hl pins s σ H _ I h) fun v s1 ⟨x, H1, I1, r1, q1⟩ => ?_
  obtain ⟨a, e, q⟩ := q1
  subst e
  obtain ⟨t, rfl⟩ := r1
  have fin : ∀ kd, ["enumerate", "zip", "dict_itemiterator", "dict_reverseitemiterator", "odict_iterator", "itertools.zip_longest", "itertools.pairwise"].contains kd = false → (∀ A : Around, A.handled = none → PySem.Walks X.prog X.w A s1.heap.objs.size [s1.heap.objs.size] [s1.heap.objs.size] a.cps.size (SignAt a) (fun i h => h.IsStrIter s1.heap.objs.size kd a t i)) → (∀ (A : Around) (i : Nat) (s : Shared) (Q : Value → Shared → Prop) (E : Value → Shared → Prop), s.heap.IsStrIter s1.heap.objs.size kd a t i → Q (.ref s1.heap.objs.size) s → wpAny (model X.prog X.w) A (pyIter (.ref s1.heap.objs.size)) Q E s) →
      PIE X pins σ tg R (.ref s1.heap.objs.size) { s1 with heap := s1.heap.push { cls := .type kd, data := .fields #[.str a t, .int 0 0] } } := fun kd hk W S => by
    refine ⟨s1.heap.objs.size, [s1.heap.objs.size], _, _, H1, rfl, I1.kept (t' := s1.toks) fun b o e => Heap.get?_push_of_some _ e, turn_str _ a t kd hk W S, ⟨_, Heap.get?_push_size _ rfl, rfl, rfl⟩, fun b hb => ?_, q⟩
    have e : b = s1.heap.objs.size := by simpa using hb
    subst e
    exact I1.fpOk (Nat.le_refl _) (I1.hok.fresh (Nat.le_refl _))
  cases ha : a.cps.all (· < 128)
  · exact wpAny_pyIter_wide ha (fin _ (by decide) (fun A hA => Walks.strWide hA _ a t) fun A i s Q E st h => wpAny_pyIter_striter_wide st h)
  · exact wpAny_pyIter_ascii ha (fin _ (by decide) (fun A hA => Walks.strAscii hA _ a t) fun A i s Q E st h => wpAny_pyIter_striter_ascii st h)
noncomputable def signsT (x : Str) : List T := x.cps.toList.map fun c => .str ⟨#[c]⟩
theorem signs_get {x : Str} {i : Nat} {t : T} (e : (signsT x)[i]? = some t) : ∃ c, x.cps[i]? = some c ∧ t = .str ⟨#[c]⟩ := by
  unfold signsT at e
  rw [List.getElem?_map, Array.getElem?_toList] at e
  cases h : x.cps[i]? with
  | none => rw [h] at e; cases e
  | some c => rw [h] at e; cases e; exact ⟨c, rfl, rfl⟩
theorem walks_str {K : PySem.W.Frag} {F : Hp} (x : Str) : TM.Walks K F (signsT x) (Its x) := by
  refine ⟨fun i t F1 H1 e s1 s2 => ?_, fun i t F1 H1 v H2 e s1 s2 y => ?_, fun F1 H1 s1 s2 => by show (signsT x).length = _; simp [signsT]⟩
  · obtain ⟨c, h, _⟩ := signs_get e
    exact (Array.getElem?_eq_some_iff.mp h).1
  · obtain ⟨rfl, c, h1, rfl⟩ := y
    obtain ⟨c', h2, rfl⟩ := signs_get e
    rw [h1] at h2; cases h2
    exact ⟨F1, Grow.refl s2, rfl⟩
noncomputable def fiStr (f : FE) : FA := fun τ => (f τ).bind fun p => match p.1 with | .str x => some (signsT x, p.2) | _ => none
theorem si_str (h : SE X l f) : SI X tg l (fiStr f) := fun F₀ H₀ => PI.weak (pi_str (h F₀ H₀)) fun σ H R hq__ => by
  obtain ⟨F, τ, ts, τ', E, e1, q⟩ := hq__
  obtain ⟨⟨x, τ1⟩, e2, e1⟩ := bind_some e1
  dsimp only at e1
  split at e1
  · cases e1
    refine ⟨F, τ, _, τ', E, e2, fun F' H' v E' s' r' => ?_⟩
    cases r'
    exact ⟨_, rfl, q F' H' _ E' s' (walks_str _)⟩
  · cases e1
end
section
variable {X : Cx} {o e : Expr} {fo fe : FE} {name : Str} {id : String} {apos cpos : Pos} {g : T → T → Option T}
noncomputable abbrev MtT (X : Cx) (id : String) (g : T → T → Option T) : Prop := MtR X id (fun x vs H Q => ∃ y, vs = [y] ∧ rT2 X.K g x y H Q)
theorem se_bm1 (slot : Slot "str" name id) (hty : typeOf (.builtin id) = pure (.type "method_descriptor")) (hm : MtT X id g) (gs : ∀ a b t, g a b = some t → ∃ x, a = .str x) (ho : SE X o fo) (he : SE X e fe)
    (hbase : attributeBase o name X.env (eval o X.env) = eval o X.env := by rfl)
    (hfew : ((backTo cpos (starEach [e] X.env)).all (fun x => !x.1) && (backToKw cpos (keywordEach [] X.env)).all (fun x => x.1.isSome)
      && decide ([e].length + ([] : List Keyword).length + (if ([] : List Keyword).isEmpty then 0 else 1) < 30)) = true := by rfl)
    (hline : (apos.endLine == cpos.line) = true := by rfl) (hs : starEach [e] X.env = (false, eval e X.env) :: starEach [] X.env := by rfl) (hplain : (backTo cpos (starEach [] X.env)).any (·.1) = false := by rfl) :
    SE X (.Call (.Attribute o name apos) [e] [] cpos) (fOp g fo fe) := fun F₀ H₀ =>
  PE.weak (pe_bm PySem.F.plainAttrs_str slot hty hm (ho F₀ H₀) (pa_cons (he F₀ H₀) pa_nil hs) hbase hfew hline hs hplain) fun σ H Q hq__ => by
    obtain ⟨F, τ, t, τ', E, e1, q⟩ := hq__
    obtain ⟨⟨a, τ1⟩, e2, e1⟩ := bind_some e1
    obtain ⟨⟨b, τ2⟩, e3, e1⟩ := bind_some e1
    obtain ⟨u, e4, e1⟩ := bind_some e1
    cases e1
    obtain ⟨x, rfl⟩ := gs _ _ _ e4
    refine ⟨F, τ, _, τ1, E, e2, fun F1 H1 v1 E1 s1 r1 => ?_⟩
    cases r1
    exact ⟨rfl, F1, τ1, b, _, E1, e3, fun F2 H2 v2 E2 s2 r2 => ⟨v2, rfl, F2, .str x, b, t, E2.g.fh, rfl, r2, e4, fun F' H' v gr rv => q F' H' v (E2.grow gr) ((s1.trans s2).trans gr.sF) rv⟩⟩
noncomputable def gRmp : T → T → Option T
  | .str a, .str b => if a.length ≤ sizeLine then some (.str (Txt.removeprefix a b)) else none
  | _, _ => none
theorem mt_rmp : MtT X "str.removeprefix" gRmp := by
  intro pins s σ H x vs v us Q I rx rv ⟨y, hvs, F, a, b, t, sm, ra, rb, e, q⟩
  subst hvs
  obtain ⟨u1, rfl, r1⟩ := Vals.one rv
  unfold gRmp at e
  split at e
  · split at e
    · next hl =>
      cases e; cases ra; cases rb
      obtain ⟨t1, rfl⟩ := rx
      obtain ⟨t2, rfl⟩ := r1
      exact SC.removeprefix (fun t' k => ⟨.str _, H, I.tok _, ⟨_, rfl⟩, q F H _ (Grow.refl sm) rfl⟩) hl
    · cases e
  · cases e
noncomputable def gZf : T → T → Option T
  | .str a, .int i => if PadOk i = true then some (.str (Txt.zfill a i)) else none
  | _, _ => none
theorem mt_zf : MtT X "str.zfill" gZf := by
  intro pins s σ H x vs v us Q I rx rv ⟨y, hvs, F, a, b, t, sm, ra, rb, e, q⟩
  subst hvs
  obtain ⟨u1, rfl, r1⟩ := Vals.one rv
  unfold gZf at e
  split at e
  · split at e
    · next hl =>
      cases e; cases ra; cases rb
      obtain ⟨t1, rfl⟩ := rx
      obtain ⟨t2, rfl⟩ := r1
      exact SC.zfill hl (fun t' k => ⟨.str _, H, I.tok _, ⟨_, rfl⟩, q F H _ (Grow.refl sm) rfl⟩)
    · cases e
  · cases e
noncomputable def gPart : T → T → Option T
  | .str a, .str b => if (b.length == 0) = false ∧ a.length ≤ sizeLine then some (.tup [.str (Txt.partition a b).1, .str (Txt.partition a b).2.1, .str (Txt.partition a b).2.2]) else none
  | _, _ => none
theorem call_partition {prog : Program} {w : World} {A : Around} {E : Value → Shared → Prop} {s : Shared} {x y : Str} {t u : Tok} {Q : Value → Shared → Prop} (hy : (y.length == 0) = false) (hsz : x.length ≤ sizeLine)
    (h : ∀ ta tb tc k, Q (.ref s.heap.objs.size) { s with heap := s.heap.push { cls := .type "tuple", data := .seq [.str (Txt.partition x y).1 ta, .str (Txt.partition x y).2.1 tb, .str (Txt.partition x y).2.2 tc].toArray }, toks := k }) :
    wpAny (model prog w) A (call (.builtin "str.partition") [.str x t, .str y u]) Q E s := by
  refine call_meets F.slot_str_partition (typeIs_str _ _ _) F.entry_str_partition (F.args_str_partition_2 _ _) (meets_str_partition x y t u hy hsz) ?_
  have h' := h
  unfold Txt.partition at h'
  revert h'
  cases Builtin.Str.occurrences x y 0 x.length 1 with
  | nil => intro h'; exact h' _ _ _ _
  | cons i r => intro h'; exact h' _ _ _ _
theorem mt_part : MtT X "str.partition" gPart := by
  intro pins s σ H x vs v us Q I rx rv ⟨y, hvs, F, a, b, t, sm, ra, rb, e, q⟩
  subst hvs
  obtain ⟨u1, rfl, r1⟩ := Vals.one rv
  unfold gPart at e
  split at e
  · next _ _ x0 y0 =>
    split at e
    · next hl =>
      cases e; cases ra; cases rb
      obtain ⟨t1, rfl⟩ := rx
      obtain ⟨t2, rfl⟩ := r1
      refine call_partition hl.1 hl.2 fun ta tb tc k => ?_
      have hf : H s.heap.objs.size = none := I.fresh
      have gr := Grow.new (.tup [.str (Txt.partition x0 y0).1, .str (Txt.partition x0 y0).2.1, .str (Txt.partition x0 y0).2.2]) sm hf
      refine ⟨.ref s.heap.objs.size, _, I.laid (t' := k) (o := .tup [.str (Txt.partition x0 y0).1, .str (Txt.partition x0 y0).2.1, .str (Txt.partition x0 y0).2.2]) (fun b u e => Heap.get?_push_of_some _ e) (Nat.le_refl _) ?_, rfl, q _ _ _ gr ⟨_, _, rfl, SqT.of upd_same, ⟨_, _, rfl, rfl, _, _, rfl, rfl, _, _, rfl, rfl, rfl⟩⟩⟩
      exact ⟨le3, _, .cons ⟨_, rfl⟩ (.cons ⟨_, rfl⟩ (.cons ⟨_, rfl⟩ .nil)), ⟨_, Heap.get?_push_size _ rfl, rfl, _, rfl⟩⟩
    · cases e
  · cases e
noncomputable def strsOf : List T → Option (List Str)
  | [] => some []
  | .str x :: ts => (strsOf ts).bind fun r => some (x :: r)
  | _ :: _ => none
theorem strs_are {K : PySem.W.Frag} {F : Hp} : ∀ {ts : List T} {ys : List Str} {vs : List V} {us : List Value}, strsOf ts = some ys → Reps K F ts vs → Vals vs us → StrsAre us ys
  | [], _, _, _, e, r, rv => by cases e; cases r; cases rv; exact .nil
  | .str x :: ts, _, _, _, e, r, rv => by
    obtain ⟨ys, e1, e⟩ := bind_some e
    cases e
    obtain ⟨v, rr, rfl, h1, h2⟩ := r
    cases h1
    cases rv with
    | cons r1 r2 =>
      obtain ⟨t, rfl⟩ := r1
      exact .cons _ _ (strs_are e1 h2 r2)
  | .non :: _, _, _, _, e, _, _ => by cases e
  | .bl _ :: _, _, _, _, e, _, _ => by cases e
  | .int _ :: _, _, _, _, e, _, _ => by cases e
  | .ty _ :: _, _, _, _, e, _, _ => by cases e
  | .tup _ :: _, _, _, _, e, _, _ => by cases e
  | .lst _ :: _, _, _, _, e, _, _ => by cases e
  | .scr _ :: _, _, _, _, e, _, _ => by cases e
  | .dic :: _, _, _, _, e, _, _ => by cases e
  | .obj _ _ _ :: _, _, _, _, e, _, _ => by cases e
  | .ptr _ :: _, _, _, _, e, _, _ => by cases e
  | .exc _ _ _ :: _, _, _, _, e, _, _ => by cases e
noncomputable def gJoin : T → T → Option T
  | .str a, .lst ts => (strsOf ts).bind fun ys => if (ys.map (·.length)).sum + ys.length * a.length ≤ 16777216 then some (.str (Txt.join a ys)) else none
  | _, _ => none
theorem mt_join : MtT X "str.join" gJoin := by
  intro pins s σ H x vs v us Q I rx rv ⟨y, hvs, F, a, b, t, sm, ra, rb, e, q⟩
  subst hvs
  obtain ⟨u1, rfl, r1⟩ := Vals.one rv
  unfold gJoin at e
  split at e
  · obtain ⟨ys, e1, e⟩ := bind_some e
    split at e
    · next hl =>
      cases e; cases ra
      obtain ⟨p, xs, rfl, h1, h2⟩ := rb
      obtain ⟨t1, rfl⟩ := rx
      cases r1
      obtain ⟨its, rv2, p2, hz⟩ := I.list (SqL.of (sm _ _ h1))
      exact join_list p2.isList (by simpa using strs_are e1 h2 rv2) hl fun t' k => ⟨.str _, H, I.tok _, ⟨_, rfl⟩, q F H _ (Grow.refl sm) rfl⟩
    · cases e
  · cases e
end
end TM

namespace TM
open PySem PySem.Spec PyProof.Rows L2
section
variable {X : Cx} {e : Expr} {pos : Pos}
noncomputable def dInt2 : List T → Option T
  | [.str x] => if x.length ≤ 640 then (PySem.intText? x).map .int else none
  | ts => dInt ts
theorem ct_int2 : CallT X (.type "int") dInt2 := by
  intro pins s σ H xs us Q I rx ⟨F, ts, t, sm, r, e, q⟩
  by_cases hs : ∃ x, ts = [.str x]
  · obtain ⟨x, rfl⟩ := hs
    simp only [dInt2] at e
    split at e
    · next hl =>
      cases hn : PySem.intText? x with
      | none => rw [hn] at e; cases e
      | some n =>
        rw [hn] at e; cases e
        obtain ⟨v, rr, rfl, h1, rfl⟩ := r
        cases h1
        obtain ⟨u1, rfl, ⟨t1, rfl⟩⟩ := Vals.one rx
        exact PySem.W.KIN.call_text hn hl ⟨.int n, H, I.tok _, ⟨_, rfl⟩, q F H _ (Grow.refl sm) rfl⟩
    · cases e
  · have e' : dInt ts = some t := by
      unfold dInt2 at e
      split at e
      · next x => exact absurd ⟨x, rfl⟩ hs
      · exact e
    exact ct_int pins s σ H xs us Q I rx ⟨F, ts, t, sm, r, e', q⟩
noncomputable def gInSW (neg : Bool) : T → T → Option T
  | .str x, .str y => some (.bl (if neg then (Builtin.Str.occurrences y x 0 y.length 1).isEmpty else !(Builtin.Str.occurrences y x 0 y.length 1).isEmpty))
  | _, _ => none
noncomputable abbrev gInS := gInSW false
noncomputable abbrev gNotInS := gInSW true
theorem ot_inS : OpT X (compareOp .In) gInS := by
  intro pins s σ H x y v u Q I rx ry ⟨F, a, b, t, sm, ra, rb, e, q⟩
  unfold gInS gInSW at e
  split at e
  · cases e; cases ra; cases rb
    obtain ⟨t1, rfl⟩ := rx
    obtain ⟨t2, rfl⟩ := ry
    exact P.in_str ⟨.bl _, H, I, rfl, q F H _ (Grow.refl sm) rfl⟩
  · cases e
theorem ot_notinS : OpT X (compareOp .NotIn) gNotInS := by
  intro pins s σ H x y v u Q I rx ry ⟨F, a, b, t, sm, ra, rb, e, q⟩
  unfold gNotInS gInSW at e
  split at e
  · cases e; cases ra; cases rb
    obtain ⟨t1, rfl⟩ := rx
    obtain ⟨t2, rfl⟩ := ry
    refine P.notIn_str ⟨.bl _, H, I, rfl, q F H _ (Grow.refl sm) ?_⟩
    rw [Bool.not_not]
    rfl
  · cases e
noncomputable def gRepS : T → T → Option T
  | .str x, .int k => if 0 ≤ k ∧ k < 1000 ∧ x.length < 1000 then some (.str (Txt.mul x k)) else none
  | _, _ => none
theorem ot_repS : OpT X (binaryOp .Mult) gRepS := by
  intro pins s σ H x y v u Q I rx ry ⟨F, a, b, t, sm, ra, rb, e, q⟩
  unfold gRepS at e
  split at e
  · next x0 k =>
    split at e
    · next hc =>
      obtain ⟨c0, c1, c2⟩ := hc
      cases e; cases ra; cases rb
      obtain ⟨t1, rfl⟩ := rx
      obtain ⟨t2, rfl⟩ := ry
      refine SB.mul ⟨?_, fun h _ => ?_, fun h _ => ?_⟩ fun t' k => ⟨.str _, H, I.tok _, ⟨_, rfl⟩, q F H _ (Grow.refl sm) rfl⟩
      · simp only [Bool.or_eq_false_iff, decide_eq_false_iff_not]
        omega
      · have : (1000 : Int) ≤ (2 ^ 63 - 1) / k := by
          have h2 : (0 : Int) < k := by omega
          rw [Int.le_ediv_iff_mul_le h2]
          omega
        omega
      · have hk : x0.length * k.toNat ≤ 1000 * 1000 := Nat.mul_le_mul (by omega) (by omega)
        unfold Builtin.Str.tooLong sizeLine
        exact decide_eq_false (by omega)
    · cases e
  · cases e
noncomputable def dDm : List T → Option T
  | [.int i, .int j] => if CDivB i j then some (.tup [.int (i.fdiv j), .int (i.fmod j)]) else none
  | _ => none
theorem ct_dm : CallT X (.builtin "divmod") dDm := by
  intro pins s σ H xs us Q I rx ⟨F, ts, t, sm, r, e, q⟩
  unfold dDm at e
  split at e
  · next i j =>
    split at e
    · next hc =>
      cases e
      obtain ⟨v, rr, rfl, h1, v2, r2, rfl, h2, rfl⟩ := r
      cases h1; cases h2
      obtain ⟨u1, u2, rfl, ⟨t1, rfl⟩, ⟨t2, rfl⟩⟩ := Vals.two rx
      refine divmod_int hc.1 ?_ (.inl (PyProof.noPylong_of_log2 (Nat.lt_trans (B_log hc.2) (by decide : 4000 < 9000))))
      have hf : H s.heap.objs.size = none := I.fresh
      have gr := Grow.new (.tup [.int (i.fdiv j), .int (i.fmod j)]) sm hf
      refine ⟨.ref s.heap.objs.size, _, I.laid (o := .tup [.int (i.fdiv j), .int (i.fmod j)]) (fun b o e => Heap.get?_push_of_some _ e) (Nat.le_refl _) ?_, rfl, q _ _ _ gr ⟨_, _, rfl, SqT.of upd_same, ⟨_, _, rfl, rfl, _, _, rfl, rfl, rfl⟩⟩⟩
      exact ⟨le2, _, .cons ⟨_, rfl⟩ (.cons ⟨_, rfl⟩ .nil), ⟨_, Heap.get?_push_size _ rfl, rfl, _, rfl⟩⟩
    · cases e
  · cases e
theorem sl_str : SlR X (fun x lo hi H Q => ∃ a, x = .str a ∧ a.length ≤ sizeLine ∧ Q (.str (Txt.slice a lo hi)) H) := by
  intro pins s σ H x v vl vu lo hi sl Q I rx hs pl pu h
  obtain ⟨a, rfl, hz, q⟩ := h
  obtain ⟨t, rfl⟩ := rx
  refine ⟨"str", _, F.slot_str_getitem.lookup, typeIs_str _ _ _, ?_⟩
  have fin : ∀ t' k, EP X pins σ Q (.str (Txt.slice a lo hi) t') { s with toks := k } := fun t' k => ⟨.str _, H, I.tok _, ⟨_, rfl⟩, q⟩
  cases pl with
  | none =>
    cases pu with
    | none => exact wpAny_getItem_str_slice (l := none) (u := none) (st := none) hs rfl (post_val_or_str ⟨Nat.le_trans (Txt.slice_le a _ _) hz, fin⟩)
    | int j tj => exact wpAny_getItem_str_slice (l := none) (u := some (j, tj)) (st := none) hs rfl (post_val_or_str ⟨Nat.le_trans (Txt.slice_le a _ _) hz, fin⟩)
  | int i ti =>
    cases pu with
    | none => exact wpAny_getItem_str_slice (l := some (i, ti)) (u := none) (st := none) hs rfl (post_val_or_str ⟨Nat.le_trans (Txt.slice_le a _ _) hz, fin⟩)
    | int j tj => exact wpAny_getItem_str_slice (l := some (i, ti)) (u := some (j, tj)) (st := none) hs rfl (post_val_or_str ⟨Nat.le_trans (Txt.slice_le a _ _) hz, fin⟩)
noncomputable def fSlS (f : FE) (fl fh : FO) : FE := fun τ => (f τ).bind fun p => (fl p.2).bind fun q => (fh q.2).bind fun r => match p.1 with
  | .str x => if x.length ≤ sizeLine then some (.str (Txt.slice x q.1 r.1), r.2) else none
  | _ => none
theorem se_sliceS {lo hi : Option Expr} {f : FE} {fl fh : FO} {p2 : Pos} (he : SE X e f) (hl : SO X lo fl) (hh : SO X hi fh) : SE X (.Subscript e (.Slice lo hi none p2) pos) (fSlS f fl fh) :=
  fun F₀ H₀ => PE.weak (pe_slice sl_str (he F₀ H₀) (hl F₀ H₀) (hh F₀ H₀)) fun σ H Q hq__ => by
    obtain ⟨F, τ, t, τ', E, e1, q⟩ := hq__
    obtain ⟨⟨x, τ1⟩, e2, e1⟩ := bind_some e1
    obtain ⟨⟨l, τ2⟩, e3, e1⟩ := bind_some e1
    obtain ⟨⟨h, τ3⟩, e4, e1⟩ := bind_some e1
    refine ⟨F, τ, x, τ1, E, e2, fun F1 H1 v E1 s1 r1 => ⟨F1, τ1, l, τ2, E1, e3, fun F2 H2 E2 s2 => ⟨F2, τ2, h, τ3, E2, e4, fun F3 H3 E3 s3 => ?_⟩⟩⟩
    dsimp only at e1
    split at e1
    · split at e1
      · next hz =>
        cases e1
        cases r1
        exact ⟨_, rfl, hz, q F3 H3 _ E3 ((s1.trans s2).trans s3) rfl⟩
      · cases e1
    · cases e1
noncomputable def tRev (K : PySem.W.Frag) (te : TE) (tc : TO) : TE := fun σ H Q => te σ H fun x H1 => tc σ H1 fun l H2 => l = some (-1) ∧ ∃ a xs, x = .ref a ∧ SqL K H2 a xs ∧ ∀ p, H2 p = none → Q (.ref p) (upd H2 p (.lst xs.reverse))
theorem pe_rev {c : Expr} {te : TE} {tc : TO} {p2 : Pos} (he : PE X e te) (hc : PO X (some c) tc) : PE X (.Subscript e (.Slice none none (some c) p2) pos) (tRev X.K te tc) := by
  intro pins s σ H Q I h
  refine Subscript_ (thn (he pins s σ H _ I h) fun v s1 ⟨x, H1, I1, r1, q1⟩ => ?_)
  refine wpAny_Slice ?_
  rw [evalPart_none]
  refine wpAny_pure (wpAny_pure (thn (hc pins s1 σ H1 _ I1 q1) fun vs s3 ⟨l, H3, I3, pl, q3⟩ => ?_))
  obtain ⟨rfl, a, xs, rfl, hx, q⟩ := q3
  have I4 : Inv X pins σ H3 { s3 with heap := s3.heap.push { cls := .type "slice", data := .fields #[.none, .none, vs] } } := I3.kept (t' := s3.toks) fun b ob q => Heap.get?_push_of_some _ q
  cases r1
  obtain ⟨its, r, ht, hz⟩ := I4.list hx
  have hlen := r.length
  show wpAny (model X.prog X.w) X.A (subscriptTail e (.Slice none none (some c) p2) (.ref a) (.ref s3.heap.objs.size)) (EP X pins σ Q) X.xe { s3 with heap := s3.heap.push { cls := .type "slice", data := .fields #[.none, .none, vs] } }
  refine tail_any (ops := [.ref a, .ref s3.heap.objs.size]) ht.isList.typeIs slot_list_getitem.lookup ?_ (by with_unfolding_all rfl)
  refine wpAny_getItem_list_slice ht.isList (Heap.IsSliceOf.new ..) .none .none pl (by simp) ?_ (by rw [List.size_toArray] <;> omega)
  rw [PySem.W.krv_pick]
  refine ⟨.ref _, _, I4.laid (t' := s3.toks) (o := .lst xs.reverse) (fun b ob q => Heap.get?_push_of_some _ q) (Nat.le_refl _) ?_, rfl, q _ (I4.hok.fresh (Nat.le_refl _))⟩
  exact ⟨by rw [List.length_reverse]; exact hz, its.reverse, 0, Vals.reverse r, Heap.get?_push_size _ rfl⟩
noncomputable def fRevOwn (i : Nat) (fc : FO) : FE := fun τ => match τ[i]? with
  | some (some _) => (fc τ).bind fun q => if q.1 = some (-1) then match q.2[i]? with
    | some (some (.own us)) => some (.lst us.reverse, q.2)
    | _ => none else none
  | _ => none
theorem se_revOwn (i : Nat) {x : Str} {p1 p2 : Pos} {c : Expr} {fc : FO} (hv : PE X (.Name x p1) (tVar i)) (hc : SO X (some c) fc) : SE X (.Subscript (.Name x p1) (.Slice none none (some c) p2) pos) (fRevOwn i fc) :=
  fun F₀ H₀ => PE.weak (pe_rev hv (hc F₀ H₀)) fun σ H Q hq__ => by
    obtain ⟨F, τ, t, τ', E, e1, q⟩ := hq__
    unfold fRevOwn at e1
    split at e1
    · next s e3 =>
      obtain ⟨⟨l, τ2⟩, e4, e1⟩ := bind_some e1
      obtain ⟨v0, g1, _⟩ := E.sl i _ e3
      dsimp only at e1
      split at e1
      · next hl =>
        refine ⟨v0, g1, F, τ, l, τ2, E, e4, fun F2 H2 E2 s2 => ⟨hl, ?_⟩⟩
        split at e1
        · next us e6 =>
          cases e1
          obtain ⟨v', k1, p, vs, rfl, k2, k3, k4, k5⟩ := E2.sl i _ e6
          rw [g1] at k1; cases k1
          refine ⟨p, vs, rfl, SqL.of k2, fun a ha => ?_⟩
          have gr := Grow.new (.lst vs.reverse) E2.g.fh ha
          exact q _ _ _ (E2.grow gr) (s2.trans gr.sF) ⟨a, _, rfl, upd_same, Reps.mono gr.sF k5.rev⟩
        · cases e1
      · cases e1
    · cases e1
structure IsiXs (K : PySem.W.Frag) (As : List Addr) (C : Addr) (b : Bool) : Prop where
  ex : ∃ bm, AskX K C bm
  kit : PySem.W.kitAny K (.ref C) (As.map .ref) = some b
theorem vals_refs : ∀ {As : List Addr} {us : List Value}, Vals (As.map .ref) us → us = As.map .ref
  | [], _, .nil => rfl
  | A :: As, _, .cons h r => by
    rw [vals_refs r]
    cases h
    rfl
theorem reps_ptrs {K : PySem.W.Frag} {F : Hp} : ∀ {As : List Addr} {vs : List V}, Reps K F (As.map .ptr) vs → vs = As.map .ref
  | [], _, h => by cases h; rfl
  | A :: As, _, h => by
    obtain ⟨v, rr, rfl, h1, h2⟩ := h
    rw [reps_ptrs h2]
    cases (show v = V.ref A from h1)
    rfl
noncomputable def dIsiXs (As : List Addr) (tbl : List (Addr × Bool)) : List T → Option T
  | [.exc C _ _, .tup [.ptr A1, .ptr A2, .ptr A3, .ptr A4]] => if As = [A1, A2, A3, A4] then (findB C tbl).bind fun b => some (.bl b) else none
  | _ => none
theorem ct_isiXs {As : List Addr} {tbl : List (Addr × Bool)} (ht : ∀ a ∈ tbl, IsiXs X.K As a.1 a.2) : CallT X (.builtin "isinstance") (dIsiXs As tbl) := by
  intro pins s σ H xs us Q I rx ⟨F, ts, t, sm, r, e, q⟩
  unfold dIsiXs at e
  split at e
  · next C _ _ A1 A2 A3 A4 =>
    split at e
    · next hp =>
      subst hp
      obtain ⟨b, e3, e1⟩ := bind_some e
      cases e1
      obtain ⟨v, rr, rfl, h1, v2, r2, rfl, h2, rfl⟩ := r
      obtain ⟨a, od, rfl, g1, _⟩ := h1
      obtain ⟨tp, zs, rfl, g2, g3⟩ := h2
      cases reps_ptrs (As := [A1, A2, A3, A4]) g3
      obtain ⟨u1, u2, rfl, ra, rb⟩ := Vals.two rx
      cases (show u2 = Value.ref tp from rb)
      cases (show u1 = Value.ref a from ra)
      have ok := ht _ (findB_mem e3)
      obtain ⟨bm, ax⟩ := ok.ex
      obtain ⟨ph, _⟩ := (show ObjOk X.prog X.w H s.heap a (.ext (ExcIs a C od)) from I.hok a _ (sm _ _ g1))
      obtain ⟨its, hv, ⟨o, h1, h2, n, h3⟩, _⟩ := I.tuple (same_sqT sm g2)
      cases vals_refs (As := [A1, A2, A3, A4]) hv
      obtain ⟨oc, od', dt, sl⟩ := o
      cases h2
      cases h3
      exact PySem.W.kia_tup (kitx_exc ax) I.kIn ph h1 ok.kit (fun z => nomatch z) fun tk => ⟨.bl b, H, I.tok tk, rfl, q F H _ (Grow.refl sm) rfl⟩
    · cases e
  · cases e
end
end TM
namespace TM
theorem gs_rmp : ∀ a b t, gRmp a b = some t → ∃ x, a = .str x := fun a b t h => by
  unfold gRmp at h
  split at h
  · exact ⟨_, rfl⟩
  · cases h
theorem gs_zf : ∀ a b t, gZf a b = some t → ∃ x, a = .str x := fun a b t h => by
  unfold gZf at h
  split at h
  · exact ⟨_, rfl⟩
  · cases h
theorem gs_part : ∀ a b t, gPart a b = some t → ∃ x, a = .str x := fun a b t h => by
  unfold gPart at h
  split at h
  · exact ⟨_, rfl⟩
  · cases h
theorem gs_join : ∀ a b t, gJoin a b = some t → ∃ x, a = .str x := fun a b t h => by
  unfold gJoin at h
  split at h
  · exact ⟨_, rfl⟩
  · cases h
end TM

namespace TM
open PySem PySem.Spec PyProof.Rows L2
section
variable {env : Env} {es : List Expr}
theorem st_lst {a p} : starEach (.List a p :: es) env = (false, eval (.List a p) env) :: starEach es env := rfl
theorem st_tup {a k p} : starEach (.Tuple a k p :: es) env = (false, eval (.Tuple a k p) env) :: starEach es env := rfl
theorem st_con {c k p} : starEach (.Constant c k p :: es) env = (false, eval (.Constant c k p) env) :: starEach es env := rfl
theorem st_dic {a b p} : starEach (.Dict a b p :: es) env = (false, eval (.Dict a b p) env) :: starEach es env := rfl
end
theorem sss_setAt {X : Cx} {st1 : Stmt} {rest : List Stmt} {i : Nat} {x : Str} {px pos : Pos} {v : Expr} {f1 fr : FS} {f : FE} (h1 : SS X st1 f1) (hN : X.N.Nodup) (hi : X.N[i]? = some x) (hx : Loc X.env.scope x) (he : SE X v f) (hr : SSs X rest fr) (hs : swapsWith v (some (.Name x px)) pos.line X.env = pure false)
    (hf : X.fn x = true ∨ X.env.scope.names.lookup x = some .local) : SSs X (st1 :: .Assign [.Name x px] v pos :: rest) (fSeq f1 (fSeq (fSet i f) fr)) := sss_cons h1 (sss_cons (ss_set i hN hi hx he hs hf) hr)
end TM

set_option maxHeartbeats 4000000
namespace My
open PySem PySem.Spec PyProof.Rows L2 TM
variable {K : PySem.W.Frag}
noncomputable def top (i : Nat) : Stmt := PySem.Challenge.pw_echohouse_k02_fractions_as_texts.main.body.getD i (.Pass ⟨0, 0, 0, 0⟩)
noncomputable abbrev s_common : Stmt := top 4
noncomputable def b_common (n : Nat) (d_half : List T → Option T) : FS :=
    (fSeq (fPar 0 1 (fCons (fCall dAbs (fCons (fVar 0) fNil)) (fCons (fCall dAbs (fCons (fVar 1) fNil)) fNil)))
    (fSeq (whileT (fTB (fOp gGt (fUn gBits (fVar 1)) (fC (.int 4000)))) (fSeq (fPar 0 1 (fCons (fVar 1) (fCons (fOp gMod (fVar 0) (fVar 1)) fNil)))
    (fIfS (fTB (fOp gGt (fUn gBits (fVar 1)) (fC (.int 4000)))) (fAsg (fCall d_half (fCons (fVar 0) (fCons (fVar 1) fNil))) (gnTup (gnCons (gnName 0) (gnCons (gnName 1) (gnCons (gnName 2) gnNil))))) fNext)) n)
    (fSeq (whileT (fTB (fOp gNe (fVar 1) (fC (.int 0)))) (fPar 0 1 (fCons (fVar 1) (fCons (fOp gMod (fVar 0) (fVar 1)) fNil))) n)
    (fRet (fVar 0)))))
theorem sc_common : FnScope ["one", "other", "factors"] ["one", "other"] (defScope s_common) := ⟨rfl, rfl, rfl, by decide +kernel, rfl, by decide +kernel, by decide +kernel⟩
theorem ok_common (n : Nat) (F : Fun K "common" "common" s_common f fd) (hb : Binds K fd ["one", "other"] []) (hm : mg "common" = some (.ref f)) (D_half : Def P w K mg base k "half" 2 d_half) (m_abs : mg "abs" = none) (g_SHORT : mg "SHORT" = some (.int 4000 t_SHORT)) :
    Def P w K mg base (k + 1) "common" 2 (dOf 3 2 (b_common n d_half)) :=
  def_of F sc_common hb hm fun cdv A outer s H E hr => (sss_cons (ss_par rfl sc_common.nd rfl rfl (by decide) rfl rfl (sa_cons (se_callB ct_abs rfl m_abs rfl (sa_cons (se_var 0 (pv 0)) sa_nil)) (sa_cons (se_callB ct_abs rfl m_abs rfl (sa_cons (se_var 1 (pv 1)) sa_nil)) sa_nil)) rfl)
    (sss_cons (ss_while n PassesOwn.never (st_cmp ot_gt (se_bits (se_var 1 (pv 1))) (se_globI rfl g_SHORT) (nomark _)) (sss_cons (ss_par rfl sc_common.nd rfl rfl (by decide) rfl rfl (sa_cons (se_var 1 (pv 1)) (sa_cons (se_op ot_mod (se_var 0 (pv 0)) (se_var 1 (pv 1))) sa_nil)) rfl)
    (sss_one (ss_if (st_cmp ot_gt (se_bits (se_var 1 (pv 1))) (se_globI rfl g_SHORT) (nomark _)) (sss_one (ss_asg (se_call D_half hr rfl (sa_cons (se_var 0 (pv 0)) (sa_cons (se_var 1 (pv 1)) sa_nil)) (len_cons (len_cons len_nil))) (sg_tup rfl (sgs_cons (sg_name 0 sc_common.nd rfl (Or.inl rfl)) (sgs_cons (sg_name 1 sc_common.nd rfl (Or.inl rfl)) (sgs_cons (sg_name 2 sc_common.nd rfl (Or.inl rfl)) sgs_nil))) (gl_cons (gl_cons (gl_cons gl_nil)))))) sss_nil))))
    (sss_cons (ss_while n PassesOwn.never (st_cmp (ot_ne hr.units) (se_var 1 (pv 1)) se_int (nomark _)) (sss_one (ss_par rfl sc_common.nd rfl rfl (by decide) rfl rfl (sa_cons (se_var 1 (pv 1)) (sa_cons (se_op ot_mod (se_var 0 (pv 0)) (se_var 1 (pv 1))) sa_nil)) rfl)))
    (sss_one (ss_ret (se_var 0 (pv 0)))))))
noncomputable abbrev s_half : Stmt := top 5
noncomputable abbrev s_is_whole : Stmt := top 19
noncomputable def b_is_whole : FS :=
    (fRet (fAndV (fCall dIsi (fCons (fVar 0) (fCons (fC (.ty "int")) fNil))) (fUn gNot (fCall dIsi (fCons (fVar 0) (fCons (fC (.ty "bool")) fNil))))))
theorem sc_is_whole : FnScope ["thing"] ["thing"] (defScope s_is_whole) := ⟨rfl, rfl, rfl, by decide +kernel, rfl, by decide +kernel, by decide +kernel⟩
theorem ok_is_whole  (F : Fun K "is_whole" "is_whole" s_is_whole f fd) (hb : Binds K fd ["thing"] []) (hm : mg "is_whole" = some (.ref f)) (m_int : mg "int" = none) (m_isinstance : mg "isinstance" = none) (m_bool : mg "bool" = none) :
    Def P w K mg base (k + 1) "is_whole" 1 (dOf 1 1 (b_is_whole)) :=
  def_of F sc_is_whole hb hm fun cdv A outer s H E hr => (sss_one (ss_ret (se_and (se_callB ct_isi rfl m_isinstance rfl (sa_cons (se_var 0 (pv 0)) (sa_cons (se_ty rfl m_int rfl) sa_nil))) (se_one (se_not (se_callB ct_isi rfl m_isinstance rfl (sa_cons (se_var 0 (pv 0)) (sa_cons (se_ty rfl m_bool rfl) sa_nil))))))))
noncomputable abbrev s_is_fraction : Stmt := top 20
noncomputable def b_is_fraction (d_is_whole d_common : List T → Option T) : FS :=
    (fSeq (fIfS (fOr (fNot (fTru (fCall dIsi (fCons (fVar 0) (fCons (fC (.ty "tuple")) fNil))))) (fTB (fOp gNe (fCall dLen (fCons (fVar 0) fNil)) (fC (.int 2))))) (fRet (fC (.bl false))) fNext)
    (fSeq (fAsg (fVar 0) (gnTup (gnCons (gnName 1) (gnCons (gnName 2) gnNil))))
    (fRet (fAndV (fCall d_is_whole (fCons (fVar 1) fNil)) (fAndV (fCall d_is_whole (fCons (fVar 2) fNil)) (fAndV (fOp gGe (fVar 2) (fC (.int 1))) (fOp gEq (fCall d_common (fCons (fVar 1) (fCons (fVar 2) fNil))) (fC (.int 1)))))))))
theorem sc_is_fraction : FnScope ["thing", "top", "bottom"] ["thing"] (defScope s_is_fraction) := ⟨rfl, rfl, rfl, by decide +kernel, rfl, by decide +kernel, by decide +kernel⟩
theorem ok_is_fraction  (F : Fun K "is_fraction" "is_fraction" s_is_fraction f fd) (hb : Binds K fd ["thing"] []) (hm : mg "is_fraction" = some (.ref f)) (D_is_whole : Def P w K mg base k "is_whole" 1 d_is_whole) (D_common : Def P w K mg base k "common" 2 d_common) (m_tuple : mg "tuple" = none) (m_isinstance : mg "isinstance" = none) (m_len : mg "len" = none) :
    Def P w K mg base (k + 1) "is_fraction" 1 (dOf 3 1 (b_is_fraction d_is_whole d_common)) :=
  def_of F sc_is_fraction hb hm fun cdv A outer s H E hr => (sss_cons (ss_if (SW.st (sw_or (st_not (st_val (se_callB ct_isi rfl m_isinstance rfl (sa_cons (se_var 0 (pv 0)) (sa_cons (se_ty rfl m_tuple rfl) sa_nil))))) (sw_or1 (st_cmp (ot_ne hr.units) (se_callB ct_len rfl m_len PySem.boot_len (sa_cons (se_var 0 (pv 0)) sa_nil)) se_int (nomark _))))) (sss_one (ss_ret se_bl)) sss_nil)
    (sss_cons (ss_asg (se_var 0 (pv 0)) (sg_tup rfl (sgs_cons (sg_name 1 sc_is_fraction.nd rfl (Or.inl rfl)) (sgs_cons (sg_name 2 sc_is_fraction.nd rfl (Or.inl rfl)) sgs_nil)) (gl_cons (gl_cons gl_nil))))
    (sss_one (ss_ret (se_and (se_call D_is_whole hr rfl (sa_cons (se_var 1 (pv 1)) sa_nil) (len_cons len_nil)) (se_and (se_call D_is_whole hr rfl (sa_cons (se_var 2 (pv 2)) sa_nil) (len_cons len_nil)) (se_and (se_cmp ot_ge (se_var 2 (pv 2)) se_int (nomark _)) (se_one (se_cmp (ot_eq hr.units) (se_call D_common hr rfl (sa_cons (se_var 1 (pv 1)) (sa_cons (se_var 2 (pv 2)) sa_nil)) (len_cons (len_cons len_nil))) se_int (nomark _))))))))))
noncomputable abbrev s_show_frac : Stmt := top 21
noncomputable def b_show_frac (d_figures : List T → Option T) : FS :=
    (fSeq (fSet 1 (fIf (fTB (fOp gLt (fOp gIx (fVar 0) (fC (.int 0))) (fC (.int 0)))) (fC (.str "-")) (fC (.str ""))))
    (fSeq (fSet 2 (fCall d_figures (fCons (fCall dAbs (fCons (fOp gIx (fVar 0) (fC (.int 0))) fNil)) fNil)))
    (fSeq (fIfS (fTB (fOp gEq (fOp gIx (fVar 0) (fC (.int 1))) (fC (.int 1)))) (fRet (fOp gAdd (fVar 1) (fVar 2))) fNext)
    (fRet (fOp gAdd (fOp gAdd (fOp gAdd (fVar 1) (fVar 2)) (fC (.str "/"))) (fCall d_figures (fCons (fOp gIx (fVar 0) (fC (.int 1))) fNil)))))))
theorem sc_show_frac : FnScope ["one", "sign", "top"] ["one"] (defScope s_show_frac) := ⟨rfl, rfl, rfl, by decide +kernel, rfl, by decide +kernel, by decide +kernel⟩
theorem ok_show_frac  (F : Fun K "show_frac" "show_frac" s_show_frac f fd) (hb : Binds K fd ["one"] []) (hm : mg "show_frac" = some (.ref f)) (D_figures : Def P w K mg base k "figures" 1 d_figures) (m_abs : mg "abs" = none) :
    Def P w K mg base (k + 1) "show_frac" 1 (dOf 3 1 (b_show_frac d_figures)) :=
  def_of F sc_show_frac hb hm fun cdv A outer s H E hr => (sss_cons (ss_set 1 sc_show_frac.nd rfl (Or.inl rfl) (se_if (st_cmp ot_lt (se_ix xt_ix (se_var 0 (pv 0)) se_int (fun _ _ => rfl)) se_int (nomark _)) se_str se_str))
    (sss_cons (ss_set 2 sc_show_frac.nd rfl (Or.inl rfl) (se_call D_figures hr rfl (sa_cons (se_callB ct_abs rfl m_abs rfl (sa_cons (se_ix xt_ix (se_var 0 (pv 0)) se_int (fun _ _ => rfl)) sa_nil)) sa_nil) (len_cons len_nil)))
    (sss_cons (ss_if (st_cmp (ot_eq hr.units) (se_ix xt_ix (se_var 0 (pv 0)) se_int (fun _ _ => rfl)) se_int (nomark _)) (sss_one (ss_ret (se_op ot_add (se_var 1 (pv 1)) (se_var 2 (pv 2))))) sss_nil)
    (sss_one (ss_ret (se_op ot_add (se_op ot_add (se_op ot_add (se_var 1 (pv 1)) (se_var 2 (pv 2))) se_str) (se_call D_figures hr rfl (sa_cons (se_ix xt_ix (se_var 0 (pv 0)) se_int (fun _ _ => rfl)) sa_nil) (len_cons len_nil))))))))
noncomputable abbrev s_figures : Stmt := top 22
noncomputable def b_figures (n : Nat) : FS :=
    (fSeq (fSetOwn 1 fNil)
    (fSeq (whileT (fTB (fOp gGe (fVar 0) (fOp gPow (fC (.int 10)) (fC (.int 36))))) (fSeq (fAsg (fCall dDm (fCons (fVar 0) (fCons (fOp gPow (fC (.int 10)) (fC (.int 36))) fNil))) (gnTup (gnCons (gnName 0) (gnCons (gnName 2) gnNil))))
    (fApp 1 (fOp gZf (fCall dStr (fCons (fVar 2) fNil)) (fC (.int 36))))) n)
    (fSeq (fApp 1 (fCall dStr (fCons (fVar 0) fNil)))
    (fRet (fOp gJoin (fC (.str "")) (fRevOwn 1 (fPart (fUn gNeg (fC (.int 1))))))))))
theorem sc_figures : FnScope ["number", "blocks", "block"] ["number"] (defScope s_figures) := ⟨rfl, rfl, rfl, by decide +kernel, rfl, by decide +kernel, by decide +kernel⟩
theorem ok_figures (n : Nat) (F : Fun K "figures" "figures" s_figures f fd) (hb : Binds K fd ["number"] []) (hm : mg "figures" = some (.ref f)) (m_divmod : mg "divmod" = none) (m_str : mg "str" = none) :
    Def P w K mg base (k + 1) "figures" 1 (dOf 3 1 (b_figures n)) :=
  def_of F sc_figures hb hm fun cdv A outer s H E hr => (sss_cons (ss_setOwn 1 sc_figures.nd rfl (Or.inl rfl) sa_nil)
    (sss_cons (ss_while n PassesOwn.never (st_cmp ot_ge (se_var 0 (pv 0)) (se_op ot_pow se_int se_int) (nomark _)) (sss_cons (ss_asg (se_callB ct_dm rfl m_divmod rfl (sa_cons (se_var 0 (pv 0)) (sa_cons (se_op ot_pow se_int se_int) sa_nil))) (sg_tup rfl (sgs_cons (sg_name 0 sc_figures.nd rfl (Or.inl rfl)) (sgs_cons (sg_name 2 sc_figures.nd rfl (Or.inl rfl)) sgs_nil)) (gl_cons (gl_cons gl_nil))))
    (sss_one (ss_append 1 (pv 1) (se_bm1 PySem.F.slot_str_zfill PySem.F.type_str_zfill mt_zf gs_zf (se_callTy ct_str rfl m_str rfl (sa_cons (se_var 2 (pv 2)) sa_nil)) se_int)))))
    (sss_cons (ss_append 1 (pv 1) (se_callTy ct_str rfl m_str rfl (sa_cons (se_var 0 (pv 0)) sa_nil)))
    (sss_one (ss_ret (se_bm1 PySem.F.slot_str_join PySem.F.type_str_join mt_join gs_join se_str (se_revOwn 1 (pv 1) (so_some (se_un ut_neg se_int)))))))))
noncomputable abbrev s_read_frac : Stmt := top 23
noncomputable def b_read_frac (d_is_figures d_is_fraction d_show_frac : List T → Option T) : FS :=
    (fSeq (fIfS (fNot (fTru (fCall dIsi (fCons (fVar 0) (fCons (fC (.ty "str")) fNil))))) fNever fNext)
    (fSeq (fAsg (fOp gPart (fVar 0) (fC (.str "/"))) (gnTup (gnCons (gnName 1) (gnCons (gnName 2) (gnCons (gnName 3) gnNil)))))
    (fSeq (fIfS (fNot (fTru (fVar 2))) (fSet 3 (fC (.str "1"))) fNext)
    (fSeq (fIfS (fOr (fNot (fTru (fCall d_is_figures (fCons (fOp gRmp (fVar 1) (fC (.str "-"))) fNil)))) (fNot (fTru (fCall d_is_figures (fCons (fVar 3) fNil))))) fNever fNext)
    (fSeq (fSet 4 (fTup (fCons (fCall dInt2 (fCons (fVar 1) fNil)) (fCons (fCall dInt2 (fCons (fVar 3) fNil)) fNil))))
    (fSeq (fIfS (fOr (fNot (fTru (fCall d_is_fraction (fCons (fVar 4) fNil)))) (fTB (fOp gNe (fCall d_show_frac (fCons (fVar 4) fNil)) (fVar 0)))) fNever fNext)
    (fRet (fVar 4))))))))
theorem sc_read_frac : FnScope ["text", "top", "stroke", "bottom", "one"] ["text"] (defScope s_read_frac) := ⟨rfl, rfl, rfl, by decide +kernel, rfl, by decide +kernel, by decide +kernel⟩
theorem ok_read_frac  (F : Fun K "read_frac" "read_frac" s_read_frac f fd) (hb : Binds K fd ["text"] []) (hm : mg "read_frac" = some (.ref f)) (D_is_figures : Def P w K mg base k "is_figures" 1 d_is_figures) (D_is_fraction : Def P w K mg base k "is_fraction" 1 d_is_fraction) (D_show_frac : Def P w K mg base k "show_frac" 1 d_show_frac) (m_str : mg "str" = none) (m_isinstance : mg "isinstance" = none) (m_int : mg "int" = none) :
    Def P w K mg base (k + 1) "read_frac" 1 (dOf 5 1 (b_read_frac d_is_figures d_is_fraction d_show_frac)) :=
  def_of F sc_read_frac hb hm fun cdv A outer s H E hr => (sss_cons (ss_if (st_not (st_val (se_callB ct_isi rfl m_isinstance rfl (sa_cons (se_var 0 (pv 0)) (sa_cons (se_ty rfl m_str rfl) sa_nil))))) (sss_one ss_never) sss_nil)
    (sss_cons (ss_asg (se_bm1 PySem.F.slot_str_partition PySem.F.type_str_partition mt_part gs_part (se_var 0 (pv 0)) se_str) (sg_tup rfl (sgs_cons (sg_name 1 sc_read_frac.nd rfl (Or.inl rfl)) (sgs_cons (sg_name 2 sc_read_frac.nd rfl (Or.inl rfl)) (sgs_cons (sg_name 3 sc_read_frac.nd rfl (Or.inl rfl)) sgs_nil))) (gl_cons (gl_cons (gl_cons gl_nil)))))
    (sss_cons (ss_if (st_not (st_val (se_var 2 (pv 2)))) (sss_one (ss_set 3 sc_read_frac.nd rfl (Or.inl rfl) se_str)) sss_nil)
    (sss_cons (ss_if (SW.st (sw_or (st_not (st_val (se_call D_is_figures hr rfl (sa_cons (se_bm1 PySem.F.slot_str_removeprefix PySem.F.type_str_removeprefix mt_rmp gs_rmp (se_var 1 (pv 1)) se_str) sa_nil) (len_cons len_nil)))) (sw_or1 (st_not (st_val (se_call D_is_figures hr rfl (sa_cons (se_var 3 (pv 3)) sa_nil) (len_cons len_nil))))))) (sss_one ss_never) sss_nil)
    (sss_cons (ss_set 4 sc_read_frac.nd rfl (Or.inl rfl) (se_tup (sa_cons (se_callTy ct_int2 rfl m_int rfl (sa_cons (se_var 1 (pv 1)) sa_nil)) (sa_cons (se_callTy ct_int2 rfl m_int rfl (sa_cons (se_var 3 (pv 3)) sa_nil)) sa_nil))))
    (sss_cons (ss_if (SW.st (sw_or (st_not (st_val (se_call D_is_fraction hr rfl (sa_cons (se_var 4 (pv 4)) sa_nil) (len_cons len_nil)))) (sw_or1 (st_cmp (ot_ne hr.units) (se_call D_show_frac hr rfl (sa_cons (se_var 4 (pv 4)) sa_nil) (len_cons len_nil)) (se_var 0 (pv 0)) (nomark _))))) (sss_one ss_never) sss_nil)
    (sss_one (ss_ret (se_var 4 (pv 4))))))))))
noncomputable def bx_read_frac (c_NoFraction : Addr) (d_is_figures d_is_fraction d_show_frac : List T → Option T) : FX :=
    (fOrX (fIfX (fNot (fTru (fCall dIsi (fCons (fVar 0) (fCons (fC (.ty "str")) fNil))))) (fRaise c_NoFraction (fCons (fC (.str "a fraction is read from a text")) fNil)) fNoX)
    (fSeqX (fIfS (fNot (fTru (fCall dIsi (fCons (fVar 0) (fCons (fC (.ty "str")) fNil))))) fNever fNext)
    (fSeqX (fAsg (fOp gPart (fVar 0) (fC (.str "/"))) (gnTup (gnCons (gnName 1) (gnCons (gnName 2) (gnCons (gnName 3) gnNil)))))
    (fSeqX (fIfS (fNot (fTru (fVar 2))) (fSet 3 (fC (.str "1"))) fNext)
    (fOrX (fIfX (fOr (fNot (fTru (fCall d_is_figures (fCons (fOp gRmp (fVar 1) (fC (.str "-"))) fNil)))) (fNot (fTru (fCall d_is_figures (fCons (fVar 3) fNil))))) (fRaise c_NoFraction (fCons (fC (.str "a fraction is written in figures")) fNil)) fNoX)
    (fSeqX (fIfS (fOr (fNot (fTru (fCall d_is_figures (fCons (fOp gRmp (fVar 1) (fC (.str "-"))) fNil)))) (fNot (fTru (fCall d_is_figures (fCons (fVar 3) fNil))))) fNever fNext)
    (fSeqX (fSet 4 (fTup (fCons (fCall dInt2 (fCons (fVar 1) fNil)) (fCons (fCall dInt2 (fCons (fVar 3) fNil)) fNil))))
    (fIfX (fOr (fNot (fTru (fCall d_is_fraction (fCons (fVar 4) fNil)))) (fTB (fOp gNe (fCall d_show_frac (fCons (fVar 4) fNil)) (fVar 0)))) (fRaise c_NoFraction (fCons (fC (.str "a fraction is written in lowest terms and without more signs than it needs")) fNil)) fNoX))))))))
theorem okX_read_frac  (F : Fun K "read_frac" "read_frac" s_read_frac f fd) (hb : Binds K fd ["text"] []) (hm : mg "read_frac" = some (.ref f)) (D_is_figures : Def P w K mg base k "is_figures" 1 d_is_figures) (D_is_fraction : Def P w K mg base k "is_fraction" 1 d_is_fraction) (D_show_frac : Def P w K mg base k "show_frac" 1 d_show_frac) (er_NoFraction : ErrK K c_NoFraction up_NoFraction none) (mc_NoFraction : mg "NoFraction" = some (.ref c_NoFraction)) (m_str : mg "str" = none) (m_isinstance : mg "isinstance" = none) (m_int : mg "int" = none) :
    DefX P w K mg base (k + 1) "read_frac" 1 (dOfX 5 1 (bx_read_frac c_NoFraction d_is_figures d_is_fraction d_show_frac)) :=
  defX_of F sc_read_frac hb hm fun cdv A outer s H E hr => (sxs_or (sxs_here (sx_if (fun _ _ z => z) (st_not (st_val (se_callB ct_isi rfl m_isinstance rfl (sa_cons (se_var 0 (pv 0)) (sa_cons (se_ty rfl m_str rfl) sa_nil))))) (sxs_here (sx_raise rfl (fun _ _ z => z) er_NoFraction rfl mc_NoFraction (sa_cons se_str sa_nil))) sxs_no))
    (sxs_cons (fun _ _ z => z) (ss_if (st_not (st_val (se_callB ct_isi rfl m_isinstance rfl (sa_cons (se_var 0 (pv 0)) (sa_cons (se_ty rfl m_str rfl) sa_nil))))) (sss_one ss_never) sss_nil)
    (sxs_cons (fun _ _ z => z) (ss_asg (se_bm1 PySem.F.slot_str_partition PySem.F.type_str_partition mt_part gs_part (se_var 0 (pv 0)) se_str) (sg_tup rfl (sgs_cons (sg_name 1 sc_read_frac.nd rfl (Or.inl rfl)) (sgs_cons (sg_name 2 sc_read_frac.nd rfl (Or.inl rfl)) (sgs_cons (sg_name 3 sc_read_frac.nd rfl (Or.inl rfl)) sgs_nil))) (gl_cons (gl_cons (gl_cons gl_nil)))))
    (sxs_cons (fun _ _ z => z) (ss_if (st_not (st_val (se_var 2 (pv 2)))) (sss_one (ss_set 3 sc_read_frac.nd rfl (Or.inl rfl) se_str)) sss_nil)
    (sxs_or (sxs_here (sx_if (fun _ _ z => z) (SW.st (sw_or (st_not (st_val (se_call D_is_figures hr rfl (sa_cons (se_bm1 PySem.F.slot_str_removeprefix PySem.F.type_str_removeprefix mt_rmp gs_rmp (se_var 1 (pv 1)) se_str) sa_nil) (len_cons len_nil)))) (sw_or1 (st_not (st_val (se_call D_is_figures hr rfl (sa_cons (se_var 3 (pv 3)) sa_nil) (len_cons len_nil))))))) (sxs_here (sx_raise rfl (fun _ _ z => z) er_NoFraction rfl mc_NoFraction (sa_cons se_str sa_nil))) sxs_no))
    (sxs_cons (fun _ _ z => z) (ss_if (SW.st (sw_or (st_not (st_val (se_call D_is_figures hr rfl (sa_cons (se_bm1 PySem.F.slot_str_removeprefix PySem.F.type_str_removeprefix mt_rmp gs_rmp (se_var 1 (pv 1)) se_str) sa_nil) (len_cons len_nil)))) (sw_or1 (st_not (st_val (se_call D_is_figures hr rfl (sa_cons (se_var 3 (pv 3)) sa_nil) (len_cons len_nil))))))) (sss_one ss_never) sss_nil)
    (sxs_cons (fun _ _ z => z) (ss_set 4 sc_read_frac.nd rfl (Or.inl rfl) (se_tup (sa_cons (se_callTy ct_int2 rfl m_int rfl (sa_cons (se_var 1 (pv 1)) sa_nil)) (sa_cons (se_callTy ct_int2 rfl m_int rfl (sa_cons (se_var 3 (pv 3)) sa_nil)) sa_nil))))
    (sxs_here (sx_if (fun _ _ z => z) (SW.st (sw_or (st_not (st_val (se_call D_is_fraction hr rfl (sa_cons (se_var 4 (pv 4)) sa_nil) (len_cons len_nil)))) (sw_or1 (st_cmp (ot_ne hr.units) (se_call D_show_frac hr rfl (sa_cons (se_var 4 (pv 4)) sa_nil) (len_cons len_nil)) (se_var 0 (pv 0)) (nomark _))))) (sxs_here (sx_raise rfl (fun _ _ z => z) er_NoFraction rfl mc_NoFraction (sa_cons se_str sa_nil))) sxs_no)))))))))
theorem nd_is_figures_0 : (["sign"] : List Str).Nodup := by decide +kernel
noncomputable abbrev s_is_figures : Stmt := top 24
noncomputable def b_is_figures : FS :=
    (fRet (fAndV (fChain gLe gLe (fC (.int 1)) (fCall dLen (fCons (fVar 0) fNil)) (fC (.int 30))) (fCall dAll (fCons (fComp 1 [] (fiStr (fVar 0)) (gnName 0) fAlways (fOp gInS (fVar 0) (fC (.str "0123456789")))) fNil))))
theorem sc_is_figures : FnScope ["text"] ["text"] (defScope s_is_figures) := ⟨rfl, rfl, rfl, by decide +kernel, rfl, by decide +kernel, by decide +kernel⟩
theorem ok_is_figures  (F : Fun K "is_figures" "is_figures" s_is_figures f fd) (hb : Binds K fd ["text"] []) (hm : mg "is_figures" = some (.ref f)) (m_len : mg "len" = none) (m_all : mg "all" = none) (g_MOST_FIGURES : mg "MOST_FIGURES" = some (.int 30 t_MOST_FIGURES)) :
    Def P w K mg base (k + 1) "is_figures" 1 (dOf 1 1 (b_is_figures)) :=
  def_of F sc_is_figures hb hm fun cdv A outer s H E hr => (sss_one (ss_ret (se_and (se_chain ot_le ot_le se_int (se_callB ct_len rfl m_len PySem.boot_len (sa_cons (se_var 0 (pv 0)) sa_nil)) (se_globI rfl g_MOST_FIGURES)) (se_one (se_callB (ct_all rfl) rfl m_all rfl (sa_cons (se_comp (N' := ["sign"]) (no := 1) (cap := []) rfl rfl (blkScope_of rfl) rfl (cap_of rfl) (si_str (se_var 0 (pv 0))) (fun _ _ _ _ _ _ => (sg_name 0 nd_is_figures_0 rfl (Or.inl rfl))) (fun _ _ _ _ _ _ => sts_nil) (fun _ _ _ _ _ _ => (se_cmp ot_inS (se_var 0 (pv 0)) se_str rfl))) sa_nil))))))
noncomputable abbrev s__law_cell : Stmt := top 26
noncomputable def b__law_cell : FS :=
    (fSeq (fIfS (fTB (fOp gLt (fVar 1) (fCall dLen (fCons (fVar 0) fNil)))) (fRet (fOp gIx (fVar 0) (fVar 1))) fNext)
    (fSeq (fSet 2 (fOp gAdd (fOp gMulI (fC (.int 7919)) (fVar 1)) (fC (.int 5))))
    (fSeq (fIfS (fTB (fOp gGt (fCall dLen (fCons (fVar 0) fNil)) (fC (.int 0)))) (fSet 2 (fOp gMod (fOp gAdd (fOp gIx (fVar 0) (fOp gMod (fOp gMulI (fC (.int 7)) (fVar 1)) (fCall dLen (fCons (fVar 0) fNil)))) (fOp gMulI (fC (.int 7919)) (fVar 1))) (fC (.int 2147483647)))) fNext)
    (fRet (fOp gMod (fOp gMulI (fVar 2) (fVar 2)) (fC (.int 2147483629)))))))
theorem sc__law_cell : FnScope ["_law_script", "_law_k", "_law_number"] ["_law_script", "_law_k"] (defScope s__law_cell) := ⟨rfl, rfl, rfl, by decide +kernel, rfl, by decide +kernel, by decide +kernel⟩
theorem ok__law_cell  (F : Fun K "_law_cell" "_law_cell" s__law_cell f fd) (hb : Binds K fd ["_law_script", "_law_k"] []) (hm : mg "_law_cell" = some (.ref f)) (m_len : mg "len" = none) :
    Def P w K mg base (k + 1) "_law_cell" 2 (dOf 3 2 (b__law_cell)) :=
  def_of F sc__law_cell hb hm fun cdv A outer s H E hr => (sss_cons (ss_if (st_cmp ot_lt (se_var 1 (pv 1)) (se_callB ct_len rfl m_len PySem.boot_len (sa_cons (se_var 0 (pv 0)) sa_nil)) (nomark _)) (sss_one (ss_ret (se_ix xt_ix (se_var 0 (pv 0)) (se_var 1 (pv 1)) (fun _ _ => rfl)))) sss_nil)
    (sss_cons (ss_set 2 sc__law_cell.nd rfl (Or.inl rfl) (se_op ot_add (se_op ot_mulI se_int (se_var 1 (pv 1))) se_int))
    (sss_cons (ss_if (st_cmp ot_gt (se_callB ct_len rfl m_len PySem.boot_len (sa_cons (se_var 0 (pv 0)) sa_nil)) se_int (nomark _)) (sss_one (ss_set 2 sc__law_cell.nd rfl (Or.inl rfl) (se_op ot_mod (se_op ot_add (se_ix xt_ix (se_var 0 (pv 0)) (se_op ot_mod (se_op ot_mulI se_int (se_var 1 (pv 1))) (se_callB ct_len rfl m_len PySem.boot_len (sa_cons (se_var 0 (pv 0)) sa_nil))) (fun _ _ => rfl)) (se_op ot_mulI se_int (se_var 1 (pv 1)))) se_int))) sss_nil)
    (sss_one (ss_ret (se_op ot_mod (se_op ot_mulI (se_var 2 (pv 2)) (se_var 2 (pv 2))) se_int))))))
noncomputable abbrev s__law_mix : Stmt := top 27
noncomputable def b__law_mix : FS :=
    (fSeq (fSet 2 (fOp gMod (fOp gAdd (fOp gAdd (fVar 0) (fOp gMulI (fC (.int 7919)) (fVar 1))) (fC (.int 11))) (fC (.int 2147483647))))
    (fSeq (fSet 2 (fOp gMod (fOp gAdd (fOp gMulI (fVar 2) (fVar 2)) (fOp gMulI (fC (.int 48271)) (fVar 1))) (fC (.int 2147483629))))
    (fRet (fOp gMod (fOp gAdd (fOp gAdd (fOp gMulI (fVar 2) (fVar 2)) (fOp gMulI (fC (.int 7)) (fVar 2))) (fVar 1)) (fC (.int 2147483587))))))
theorem sc__law_mix : FnScope ["_law_cell_here", "_law_k", "_law_number"] ["_law_cell_here", "_law_k"] (defScope s__law_mix) := ⟨rfl, rfl, rfl, by decide +kernel, rfl, by decide +kernel, by decide +kernel⟩
theorem ok__law_mix  (F : Fun K "_law_mix" "_law_mix" s__law_mix f fd) (hb : Binds K fd ["_law_cell_here", "_law_k"] []) (hm : mg "_law_mix" = some (.ref f)) :
    Def P w K mg base (k + 1) "_law_mix" 2 (dOf 3 2 (b__law_mix)) :=
  def_of F sc__law_mix hb hm fun cdv A outer s H E hr => (sss_cons (ss_set 2 sc__law_mix.nd rfl (Or.inl rfl) (se_op ot_mod (se_op ot_add (se_op ot_add (se_var 0 (pv 0)) (se_op ot_mulI se_int (se_var 1 (pv 1)))) se_int) se_int))
    (sss_cons (ss_set 2 sc__law_mix.nd rfl (Or.inl rfl) (se_op ot_mod (se_op ot_add (se_op ot_mulI (se_var 2 (pv 2)) (se_var 2 (pv 2))) (se_op ot_mulI se_int (se_var 1 (pv 1)))) se_int))
    (sss_one (ss_ret (se_op ot_mod (se_op ot_add (se_op ot_add (se_op ot_mulI (se_var 2 (pv 2)) (se_var 2 (pv 2))) (se_op ot_mulI se_int (se_var 2 (pv 2)))) (se_var 1 (pv 1))) se_int)))))
noncomputable abbrev s__law_same : Stmt := top 28
noncomputable def b__law_same (d__law_same : List T → Option T) : FS :=
    (fSeq (fIfS (fTru (fCall dIsi (fCons (fVar 1) (fCons (fTup (fCons (fC (.ty "list")) (fCons (fC (.ty "tuple")) fNil))) fNil)))) (fSeq (fIfS (fOr (fTB (fOp gNe (fCall dIsi (fCons (fVar 1) (fCons (fC (.ty "list")) fNil))) (fCall dIsi (fCons (fVar 0) (fCons (fC (.ty "list")) fNil))))) (fNot (fTru (fCall dIsi (fCons (fVar 0) (fCons (fTup (fCons (fC (.ty "list")) (fCons (fC (.ty "tuple")) fNil))) fNil)))))) (fRet (fC (.bl false))) fNext)
    (fSeq (fIfS (fTB (fOp gNe (fCall dLen (fCons (fVar 0) fNil)) (fCall dLen (fCons (fVar 1) fNil)))) (fRet (fC (.bl false))) fNext)
    (fSeq (fFor (fiZip (fCons (fVar 0) (fCons (fVar 1) fNil))) (gnTup (gnCons (gnName 2) (gnCons (gnName 3) gnNil))) (fIfS (fNot (fTru (fCall d__law_same (fCons (fVar 2) (fCons (fVar 3) fNil))))) (fRet (fC (.bl false))) fNext))
    (fRet (fC (.bl true)))))) fNext)
    (fSeq (fIfS (fTB (fOp gIs (fVar 1) (fC .non))) (fRet (fOp gIs (fVar 0) (fC .non))) fNext)
    (fSeq (fIfS (fTru (fCall dIsi (fCons (fVar 1) (fCons (fC (.ty "str")) fNil)))) (fRet (fAndV (fCall dIsi (fCons (fVar 0) (fCons (fC (.ty "str")) fNil))) (fOp gEq (fVar 0) (fVar 1)))) fNext)
    (fRet (fAndV (fCall dIsi (fCons (fVar 0) (fCons (fC (.ty "int")) fNil))) (fAndV (fUn gNot (fCall dIsi (fCons (fVar 0) (fCons (fC (.ty "bool")) fNil)))) (fOp gEq (fVar 0) (fVar 1))))))))
theorem sc__law_same : FnScope ["_law_found", "_law_due_here", "_law_one", "_law_other"] ["_law_found", "_law_due_here"] (defScope s__law_same) := ⟨rfl, rfl, rfl, by decide +kernel, rfl, by decide +kernel, by decide +kernel⟩
theorem ok__law_same  (F : Fun K "_law_same" "_law_same" s__law_same f fd) (hb : Binds K fd ["_law_found", "_law_due_here"] []) (hm : mg "_law_same" = some (.ref f)) (D__law_same : Def P w K mg base k "_law_same" 2 d__law_same) (m_list : mg "list" = none) (m_tuple : mg "tuple" = none) (m_isinstance : mg "isinstance" = none) (m_len : mg "len" = none) (m_zip : mg "zip" = none) (m_str : mg "str" = none) (m_int : mg "int" = none) (m_bool : mg "bool" = none) :
    Def P w K mg base (k + 1) "_law_same" 2 (dOf 4 2 (b__law_same d__law_same)) :=
  def_of F sc__law_same hb hm fun cdv A outer s H E hr => (sss_cons (ss_if (st_val (se_callB ct_isi rfl m_isinstance rfl (sa_cons (se_var 1 (pv 1)) (sa_cons (se_tup (sa_cons (se_ty rfl m_list rfl) (sa_cons (se_ty rfl m_tuple rfl) sa_nil))) sa_nil)))) (sss_cons (ss_if (SW.st (sw_or (st_cmp (ot_ne hr.units) (se_callB ct_isi rfl m_isinstance rfl (sa_cons (se_var 1 (pv 1)) (sa_cons (se_ty rfl m_list rfl) sa_nil))) (se_callB ct_isi rfl m_isinstance rfl (sa_cons (se_var 0 (pv 0)) (sa_cons (se_ty rfl m_list rfl) sa_nil))) (nomark _)) (sw_or1 (st_not (st_val (se_callB ct_isi rfl m_isinstance rfl (sa_cons (se_var 0 (pv 0)) (sa_cons (se_tup (sa_cons (se_ty rfl m_list rfl) (sa_cons (se_ty rfl m_tuple rfl) sa_nil))) sa_nil)))))))) (sss_one (ss_ret se_bl)) sss_nil)
    (sss_cons (ss_if (st_cmp (ot_ne hr.units) (se_callB ct_len rfl m_len PySem.boot_len (sa_cons (se_var 0 (pv 0)) sa_nil)) (se_callB ct_len rfl m_len PySem.boot_len (sa_cons (se_var 1 (pv 1)) sa_nil)) (nomark _)) (sss_one (ss_ret se_bl)) sss_nil)
    (sss_cons (ss_for PassesOwn.never rfl (si_zip rfl m_zip (sa_cons (se_var 0 (pv 0)) (sa_cons (se_var 1 (pv 1)) sa_nil))) (sg_tup rfl (sgs_cons (sg_name 2 sc__law_same.nd rfl (Or.inl rfl)) (sgs_cons (sg_name 3 sc__law_same.nd rfl (Or.inl rfl)) sgs_nil)) (gl_cons (gl_cons gl_nil))) (sss_one (ss_if (st_not (st_val (se_call D__law_same hr rfl (sa_cons (se_var 2 (pv 2)) (sa_cons (se_var 3 (pv 3)) sa_nil)) (len_cons (len_cons len_nil))))) (sss_one (ss_ret se_bl)) sss_nil)))
    (sss_one (ss_ret se_bl))))) sss_nil)
    (sss_cons (ss_if (st_cmp ot_is (se_var 1 (pv 1)) se_non (nomark _)) (sss_one (ss_ret (se_cmp ot_is (se_var 0 (pv 0)) se_non (nomark _)))) sss_nil)
    (sss_cons (ss_if (st_val (se_callB ct_isi rfl m_isinstance rfl (sa_cons (se_var 1 (pv 1)) (sa_cons (se_ty rfl m_str rfl) sa_nil)))) (sss_one (ss_ret (se_and (se_callB ct_isi rfl m_isinstance rfl (sa_cons (se_var 0 (pv 0)) (sa_cons (se_ty rfl m_str rfl) sa_nil))) (se_one (se_cmp (ot_eq hr.units) (se_var 0 (pv 0)) (se_var 1 (pv 1)) (nomark _)))))) sss_nil)
    (sss_one (ss_ret (se_and (se_callB ct_isi rfl m_isinstance rfl (sa_cons (se_var 0 (pv 0)) (sa_cons (se_ty rfl m_int rfl) sa_nil))) (se_and (se_not (se_callB ct_isi rfl m_isinstance rfl (sa_cons (se_var 0 (pv 0)) (sa_cons (se_ty rfl m_bool rfl) sa_nil)))) (se_one (se_cmp (ot_eq hr.units) (se_var 0 (pv 0)) (se_var 1 (pv 1)) (nomark _))))))))))
noncomputable abbrev s__law_frac : Stmt := top 29
noncomputable def b__law_frac (n : Nat) : FS :=
    (fSeq (fSet 2 (fCall dAbs (fCons (fVar 0) fNil)))
    (fSeq (fSet 3 (fCall dAbs (fCons (fVar 1) fNil)))
    (fSeq (whileT (fTB (fOp gGt (fVar 3) (fC (.int 0)))) (fPar 2 3 (fCons (fVar 3) (fCons (fOp gMod (fVar 2) (fVar 3)) fNil))) n)
    (fSeq (fIfS (fTB (fOp gLt (fVar 1) (fC (.int 0)))) (fSet 2 (fOp gSub (fC (.int 0)) (fVar 2))) fNext)
    (fRet (fTup (fCons (fOp gDiv (fVar 0) (fVar 2)) (fCons (fOp gDiv (fVar 1) (fVar 2)) fNil))))))))
theorem sc__law_frac : FnScope ["_law_top", "_law_bottom", "_law_one", "_law_other"] ["_law_top", "_law_bottom"] (defScope s__law_frac) := ⟨rfl, rfl, rfl, by decide +kernel, rfl, by decide +kernel, by decide +kernel⟩
theorem ok__law_frac (n : Nat) (F : Fun K "_law_frac" "_law_frac" s__law_frac f fd) (hb : Binds K fd ["_law_top", "_law_bottom"] []) (hm : mg "_law_frac" = some (.ref f)) (m_abs : mg "abs" = none) :
    Def P w K mg base (k + 1) "_law_frac" 2 (dOf 4 2 (b__law_frac n)) :=
  def_of F sc__law_frac hb hm fun cdv A outer s H E hr => (sss_cons (ss_set 2 sc__law_frac.nd rfl (Or.inl rfl) (se_callB ct_abs rfl m_abs rfl (sa_cons (se_var 0 (pv 0)) sa_nil)))
    (sss_cons (ss_set 3 sc__law_frac.nd rfl (Or.inl rfl) (se_callB ct_abs rfl m_abs rfl (sa_cons (se_var 1 (pv 1)) sa_nil)))
    (sss_cons (ss_while n PassesOwn.never (st_cmp ot_gt (se_var 3 (pv 3)) se_int (nomark _)) (sss_one (ss_par rfl sc__law_frac.nd rfl rfl (by decide) rfl rfl (sa_cons (se_var 3 (pv 3)) (sa_cons (se_op ot_mod (se_var 2 (pv 2)) (se_var 3 (pv 3))) sa_nil)) rfl)))
    (sss_cons (ss_if (st_cmp ot_lt (se_var 1 (pv 1)) se_int (nomark _)) (sss_one (ss_set 2 sc__law_frac.nd rfl (Or.inl rfl) (se_op ot_sub se_int (se_var 2 (pv 2))))) sss_nil)
    (sss_one (ss_ret (se_tup (sa_cons (se_op ot_div (se_var 0 (pv 0)) (se_var 2 (pv 2))) (sa_cons (se_op ot_div (se_var 1 (pv 1)) (se_var 2 (pv 2))) sa_nil)))))))))
noncomputable abbrev s__law_big : Stmt := top 30
noncomputable def b__law_big (d__law_mix : List T → Option T) : FS :=
    (fSeq (fSet 1 (fCall d__law_mix (fCons (fVar 0) (fCons (fC (.int 1)) fNil))))
    (fSeq (fIfS (fTB (fOp gEq (fOp gMod (fVar 0) (fC (.int 2))) (fC (.int 1)))) (fRet (fLst (fCons (fOp gAdd (fOp gSub (fOp gMod (fOp gDiv (fVar 0) (fC (.int 2))) (fOp gSub (fOp gMulI (fC (.int 2)) (fOp gPow (fC (.int 10)) (fC (.int 30)))) (fC (.int 1)))) (fOp gPow (fC (.int 10)) (fC (.int 30)))) (fC (.int 1))) (fCons (fOp gAdd (fOp gMod (fOp gDiv (fOp gDiv (fVar 0) (fC (.int 2))) (fOp gSub (fOp gMulI (fC (.int 2)) (fOp gPow (fC (.int 10)) (fC (.int 30)))) (fC (.int 1)))) (fOp gSub (fOp gPow (fC (.int 10)) (fC (.int 30))) (fC (.int 1)))) (fC (.int 1))) fNil)))) fNext)
    (fSeq (fSet 2 (fOp gAdd (fOp gMulI (fCall d__law_mix (fCons (fVar 0) (fCons (fC (.int 2)) fNil))) (fOp gPow (fC (.int 10)) (fC (.int 20)))) (fVar 1)))
    (fSeq (fSet 3 (fOp gIx (fLst (fCons (fOp gSub (fOp gMod (fOp gDiv (fVar 1) (fC (.int 4))) (fC (.int 9))) (fC (.int 4))) (fCons (fOp gMod (fOp gDiv (fVar 1) (fC (.int 4))) (fC (.int 1000))) (fCons (fVar 2) (fCons (fOp gSub (fC (.int 0)) (fVar 2)) fNil))))) (fOp gMod (fVar 1) (fC (.int 4)))))
    (fRet (fLst (fCons (fVar 3) (fCons (fOp gIx (fLst (fCons (fC (.int 1)) (fCons (fOp gAdd (fC (.int 1)) (fOp gMod (fOp gDiv (fVar 1) (fC (.int 40))) (fC (.int 12)))) (fCons (fOp gAdd (fC (.int 1)) (fOp gMulI (fCall d__law_mix (fCons (fVar 0) (fCons (fC (.int 3)) fNil))) (fOp gPow (fC (.int 10)) (fC (.int 18))))) (fCons (fOp gAdd (fC (.int 1)) (fOp gMod (fOp gDiv (fVar 1) (fC (.int 7))) (fC (.int 720)))) fNil))))) (fOp gMod (fOp gDiv (fVar 1) (fC (.int 3))) (fC (.int 4)))) fNil))))))))
theorem sc__law_big : FnScope ["_law_cell_here", "_law_number", "_law_far", "_law_top"] ["_law_cell_here"] (defScope s__law_big) := ⟨rfl, rfl, rfl, by decide +kernel, rfl, by decide +kernel, by decide +kernel⟩
theorem ok__law_big  (F : Fun K "_law_big" "_law_big" s__law_big f fd) (hb : Binds K fd ["_law_cell_here"] []) (hm : mg "_law_big" = some (.ref f)) (D__law_mix : Def P w K mg base k "_law_mix" 2 d__law_mix) :
    Def P w K mg base (k + 1) "_law_big" 1 (dOf 4 1 (b__law_big d__law_mix)) :=
  def_of F sc__law_big hb hm fun cdv A outer s H E hr => (sss_cons (ss_set 1 sc__law_big.nd rfl (Or.inl rfl) (se_call D__law_mix hr rfl (sa_cons (se_var 0 (pv 0)) (sa_cons se_int sa_nil)) (len_cons (len_cons len_nil))))
    (sss_cons (ss_if (st_cmp (ot_eq hr.units) (se_op ot_mod (se_var 0 (pv 0)) se_int) se_int (nomark _)) (sss_one (ss_ret (se_lst (sa_cons (se_op ot_add (se_op ot_sub (se_op ot_mod (se_op ot_div (se_var 0 (pv 0)) se_int) (se_op ot_sub (se_op ot_mulI se_int (se_op ot_pow se_int se_int)) se_int)) (se_op ot_pow se_int se_int)) se_int) (sa_cons (se_op ot_add (se_op ot_mod (se_op ot_div (se_op ot_div (se_var 0 (pv 0)) se_int) (se_op ot_sub (se_op ot_mulI se_int (se_op ot_pow se_int se_int)) se_int)) (se_op ot_sub (se_op ot_pow se_int se_int) se_int)) se_int) sa_nil))))) sss_nil)
    (sss_cons (ss_set 2 sc__law_big.nd rfl (Or.inl rfl) (se_op ot_add (se_op ot_mulI (se_call D__law_mix hr rfl (sa_cons (se_var 0 (pv 0)) (sa_cons se_int sa_nil)) (len_cons (len_cons len_nil))) (se_op ot_pow se_int se_int)) (se_var 1 (pv 1))))
    (sss_cons (ss_set 3 sc__law_big.nd rfl (Or.inl rfl) (se_ix xt_ix (se_lst (sa_cons (se_op ot_sub (se_op ot_mod (se_op ot_div (se_var 1 (pv 1)) se_int) se_int) se_int) (sa_cons (se_op ot_mod (se_op ot_div (se_var 1 (pv 1)) se_int) se_int) (sa_cons (se_var 2 (pv 2)) (sa_cons (se_op ot_sub se_int (se_var 2 (pv 2))) sa_nil))))) (se_op ot_mod (se_var 1 (pv 1)) se_int) (fun _ _ => rfl)))
    (sss_one (ss_ret (se_lst (sa_cons (se_var 3 (pv 3)) (sa_cons (se_ix xt_ix (se_lst (sa_cons se_int (sa_cons (se_op ot_add se_int (se_op ot_mod (se_op ot_div (se_var 1 (pv 1)) se_int) se_int)) (sa_cons (se_op ot_add se_int (se_op ot_mulI (se_call D__law_mix hr rfl (sa_cons (se_var 0 (pv 0)) (sa_cons se_int sa_nil)) (len_cons (len_cons len_nil))) (se_op ot_pow se_int se_int))) (sa_cons (se_op ot_add se_int (se_op ot_mod (se_op ot_div (se_var 1 (pv 1)) se_int) se_int)) sa_nil))))) (se_op ot_mod (se_op ot_div (se_var 1 (pv 1)) se_int) se_int) (fun _ _ => rfl)) sa_nil)))))))))
noncomputable abbrev s__law_text : Stmt := top 31
noncomputable def b__law_text : FS :=
    (fSeq (fIfS (fTB (fOp gEq (fOp gIx (fVar 0) (fC (.int 1))) (fC (.int 1)))) (fRet (fCall dStr (fCons (fOp gIx (fVar 0) (fC (.int 0))) fNil))) fNext)
    (fRet (fOp gAdd (fOp gAdd (fCall dStr (fCons (fOp gIx (fVar 0) (fC (.int 0))) fNil)) (fC (.str "/"))) (fCall dStr (fCons (fOp gIx (fVar 0) (fC (.int 1))) fNil)))))
theorem sc__law_text : FnScope ["_law_one"] ["_law_one"] (defScope s__law_text) := ⟨rfl, rfl, rfl, by decide +kernel, rfl, by decide +kernel, by decide +kernel⟩
theorem ok__law_text  (F : Fun K "_law_text" "_law_text" s__law_text f fd) (hb : Binds K fd ["_law_one"] []) (hm : mg "_law_text" = some (.ref f)) (m_str : mg "str" = none) :
    Def P w K mg base (k + 1) "_law_text" 1 (dOf 1 1 (b__law_text)) :=
  def_of F sc__law_text hb hm fun cdv A outer s H E hr => (sss_cons (ss_if (st_cmp (ot_eq hr.units) (se_ix xt_ix (se_var 0 (pv 0)) se_int (fun _ _ => rfl)) se_int (nomark _)) (sss_one (ss_ret (se_callTy ct_str rfl m_str rfl (sa_cons (se_ix xt_ix (se_var 0 (pv 0)) se_int (fun _ _ => rfl)) sa_nil)))) sss_nil)
    (sss_one (ss_ret (se_op ot_add (se_op ot_add (se_callTy ct_str rfl m_str rfl (sa_cons (se_ix xt_ix (se_var 0 (pv 0)) se_int (fun _ _ => rfl)) sa_nil)) se_str) (se_callTy ct_str rfl m_str rfl (sa_cons (se_ix xt_ix (se_var 0 (pv 0)) se_int (fun _ _ => rfl)) sa_nil))))))
noncomputable abbrev s__law_sign : Stmt := top 32
noncomputable def b__law_sign : FS :=
    (fSeq (fSet 1 (fC (.str " !\"#$&'()*+,-./0123456789:;<=>?@ABCDEFGHIJKLMNOPQRSTUVWXYZ[]^_abcdefghijklmnopqrstuvwxyz{|}~\n")))
    (fSeq (fSet 1 (fOp gAdd (fVar 1) (fC (.str "00112--//"))))
    (fRet (fOp gIx (fVar 1) (fOp gMod (fVar 0) (fCall dLen (fCons (fVar 1) fNil)))))))
theorem sc__law_sign : FnScope ["_law_number", "_law_some"] ["_law_number"] (defScope s__law_sign) := ⟨rfl, rfl, rfl, by decide +kernel, rfl, by decide +kernel, by decide +kernel⟩
theorem ok__law_sign  (F : Fun K "_law_sign" "_law_sign" s__law_sign f fd) (hb : Binds K fd ["_law_number"] []) (hm : mg "_law_sign" = some (.ref f)) (m_len : mg "len" = none) :
    Def P w K mg base (k + 1) "_law_sign" 1 (dOf 2 1 (b__law_sign)) :=
  def_of F sc__law_sign hb hm fun cdv A outer s H E hr => (sss_cons (ss_set 1 sc__law_sign.nd rfl (Or.inl rfl) se_str)
    (sss_cons (ss_set 1 sc__law_sign.nd rfl (Or.inl rfl) (se_op ot_add (se_var 1 (pv 1)) se_str))
    (sss_one (ss_ret (se_ix xt_ix (se_var 1 (pv 1)) (se_op ot_mod (se_var 0 (pv 0)) (se_callB ct_len rfl m_len PySem.boot_len (sa_cons (se_var 1 (pv 1)) sa_nil))) (fun _ _ => rfl))))))
noncomputable abbrev s__law_spoiled : Stmt := top 33
noncomputable def b__law_spoiled (d__law_sign : List T → Option T) : FS :=
    (fSeq (fSet 3 (fOp gMod (fOp gDiv (fVar 2) (fC (.int 8))) (fOp gAdd (fCall dLen (fCons (fVar 0) fNil)) (fC (.int 1)))))
    (fSeq (fSet 4 (fOp gMod (fVar 2) (fC (.int 8))))
    (fSeq (fIfS (fTB (fOp gLt (fVar 4) (fC (.int 2)))) (fRet (fOp gAdd (fOp gAdd (fSlS (fVar 0) fNoPart (fPart (fVar 3))) (fCall d__law_sign (fCons (fOp gDiv (fVar 2) (fC (.int 1000))) fNil))) (fSlS (fVar 0) (fPart (fVar 3)) fNoPart))) fNext)
    (fSeq (fIfS (fTB (fOp gEq (fVar 4) (fC (.int 2)))) (fRet (fOp gAdd (fOp gAdd (fSlS (fVar 0) fNoPart (fPart (fVar 3))) (fCall d__law_sign (fCons (fOp gDiv (fVar 2) (fC (.int 1000))) fNil))) (fSlS (fVar 0) (fPart (fOp gAdd (fVar 3) (fC (.int 1)))) fNoPart))) fNext)
    (fSeq (fIfS (fTB (fOp gEq (fVar 4) (fC (.int 3)))) (fRet (fOp gAdd (fSlS (fVar 0) fNoPart (fPart (fVar 3))) (fSlS (fVar 0) (fPart (fOp gAdd (fVar 3) (fC (.int 1)))) fNoPart))) fNext)
    (fSeq (fIfS (fTB (fOp gEq (fVar 4) (fC (.int 4)))) (fRet (fOp gAdd (fOp gAdd (fCall dStr (fCons (fOp gMulI (fOp gIx (fVar 1) (fC (.int 0))) (fC (.int 7))) fNil)) (fC (.str "/"))) (fCall dStr (fCons (fOp gMulI (fOp gIx (fVar 1) (fC (.int 1))) (fC (.int 7))) fNil)))) fNext)
    (fSeq (fIfS (fTB (fOp gEq (fVar 4) (fC (.int 5)))) (fRet (fOp gIx (fLst (fCons (fOp gRepS (fC (.str "9")) (fC (.int 31))) (fCons (fOp gAdd (fC (.str "1/")) (fOp gRepS (fC (.str "9")) (fC (.int 31)))) (fCons (fOp gAdd (fC (.str "-")) (fOp gRepS (fC (.str "9")) (fC (.int 30)))) (fCons (fOp gAdd (fC (.str "1/")) (fOp gRepS (fC (.str "9")) (fC (.int 30)))) fNil))))) (fOp gMod (fOp gDiv (fVar 2) (fC (.int 8))) (fC (.int 4))))) fNext)
    (fSeq (fIfS (fTB (fOp gEq (fVar 4) (fC (.int 6)))) (fRet (fOp gIx (fLst (fCons (fOp gAdd (fVar 0) (fC (.str "/1"))) (fCons (fC (.str "-0")) (fCons (fC (.str "0/1")) (fCons (fC (.str "5/0")) (fCons (fC (.str "-/3")) (fCons (fC (.str "3/")) (fCons (fC (.str "/4")) (fCons (fC (.str "--5")) (fCons (fC (.str "")) (fCons (fC (.str "-")) (fCons (fC (.str "07")) (fCons (fC (.str "1/02")) (fCons (fC (.str "+1")) fNil)))))))))))))) (fOp gMod (fOp gDiv (fVar 2) (fC (.int 8))) (fC (.int 13))))) fNext)
    (fRet (fVar 0))))))))))
theorem sc__law_spoiled : FnScope ["_law_text_here", "_law_one", "_law_cell_here", "_law_at", "_law_way"] ["_law_text_here", "_law_one", "_law_cell_here"] (defScope s__law_spoiled) := ⟨rfl, rfl, rfl, by decide +kernel, rfl, by decide +kernel, by decide +kernel⟩
theorem ok__law_spoiled  (F : Fun K "_law_spoiled" "_law_spoiled" s__law_spoiled f fd) (hb : Binds K fd ["_law_text_here", "_law_one", "_law_cell_here"] []) (hm : mg "_law_spoiled" = some (.ref f)) (D__law_sign : Def P w K mg base k "_law_sign" 1 d__law_sign) (m_len : mg "len" = none) (m_str : mg "str" = none) :
    Def P w K mg base (k + 1) "_law_spoiled" 3 (dOf 5 3 (b__law_spoiled d__law_sign)) :=
  def_of F sc__law_spoiled hb hm fun cdv A outer s H E hr => (sss_cons (ss_set 3 sc__law_spoiled.nd rfl (Or.inl rfl) (se_op ot_mod (se_op ot_div (se_var 2 (pv 2)) se_int) (se_op ot_add (se_callB ct_len rfl m_len PySem.boot_len (sa_cons (se_var 0 (pv 0)) sa_nil)) se_int)))
    (sss_cons (ss_set 4 sc__law_spoiled.nd rfl (Or.inl rfl) (se_op ot_mod (se_var 2 (pv 2)) se_int))
    (sss_cons (ss_if (st_cmp ot_lt (se_var 4 (pv 4)) se_int (nomark _)) (sss_one (ss_ret (se_op ot_add (se_op ot_add (se_sliceS (se_var 0 (pv 0)) so_none (so_some (se_var 3 (pv 3)))) (se_call D__law_sign hr rfl (sa_cons (se_op ot_div (se_var 2 (pv 2)) se_int) sa_nil) (len_cons len_nil))) (se_sliceS (se_var 0 (pv 0)) (so_some (se_var 3 (pv 3))) so_none)))) sss_nil)
    (sss_cons (ss_if (st_cmp (ot_eq hr.units) (se_var 4 (pv 4)) se_int (nomark _)) (sss_one (ss_ret (se_op ot_add (se_op ot_add (se_sliceS (se_var 0 (pv 0)) so_none (so_some (se_var 3 (pv 3)))) (se_call D__law_sign hr rfl (sa_cons (se_op ot_div (se_var 2 (pv 2)) se_int) sa_nil) (len_cons len_nil))) (se_sliceS (se_var 0 (pv 0)) (so_some (se_op ot_add (se_var 3 (pv 3)) se_int)) so_none)))) sss_nil)
    (sss_cons (ss_if (st_cmp (ot_eq hr.units) (se_var 4 (pv 4)) se_int (nomark _)) (sss_one (ss_ret (se_op ot_add (se_sliceS (se_var 0 (pv 0)) so_none (so_some (se_var 3 (pv 3)))) (se_sliceS (se_var 0 (pv 0)) (so_some (se_op ot_add (se_var 3 (pv 3)) se_int)) so_none)))) sss_nil)
    (sss_cons (ss_if (st_cmp (ot_eq hr.units) (se_var 4 (pv 4)) se_int (nomark _)) (sss_one (ss_ret (se_op ot_add (se_op ot_add (se_callTy ct_str rfl m_str rfl (sa_cons (se_op ot_mulI (se_ix xt_ix (se_var 1 (pv 1)) se_int (fun _ _ => rfl)) se_int) sa_nil)) se_str) (se_callTy ct_str rfl m_str rfl (sa_cons (se_op ot_mulI (se_ix xt_ix (se_var 1 (pv 1)) se_int (fun _ _ => rfl)) se_int) sa_nil))))) sss_nil)
    (sss_cons (ss_if (st_cmp (ot_eq hr.units) (se_var 4 (pv 4)) se_int (nomark _)) (sss_one (ss_ret (se_ix xt_ix (se_lst (sa_cons (se_op ot_repS se_str se_int) (sa_cons (se_op ot_add se_str (se_op ot_repS se_str se_int)) (sa_cons (se_op ot_add se_str (se_op ot_repS se_str se_int)) (sa_cons (se_op ot_add se_str (se_op ot_repS se_str se_int)) sa_nil))))) (se_op ot_mod (se_op ot_div (se_var 2 (pv 2)) se_int) se_int) (fun _ _ => rfl)))) sss_nil)
    (sss_cons (ss_if (st_cmp (ot_eq hr.units) (se_var 4 (pv 4)) se_int (nomark _)) (sss_one (ss_ret (se_ix xt_ix (se_lst (sa_cons (se_op ot_add (se_var 0 (pv 0)) se_str) (sa_cons se_str (sa_cons se_str (sa_cons se_str (sa_cons se_str (sa_cons se_str (sa_cons se_str (sa_cons se_str (sa_cons se_str (sa_cons se_str (sa_cons se_str (sa_cons se_str (sa_cons se_str sa_nil)))))))))))))) (se_op ot_mod (se_op ot_div (se_var 2 (pv 2)) se_int) se_int) (fun _ _ => rfl)))) sss_nil)
    (sss_one (ss_ret (se_var 0 (pv 0))))))))))))
theorem nd__law_number_in_0 : (["_law_sign_here"] : List Str).Nodup := by decide +kernel
noncomputable abbrev s__law_number_in : Stmt := top 34
noncomputable def b__law_number_in : FS :=
    (fSeq (fIfS (fOr (fTB (fOp gEq (fVar 0) (fC (.str "")))) (fOr (fTB (fOp gGt (fCall dLen (fCons (fVar 0) fNil)) (fC (.int 30)))) (fTB (fOp gGt (fCall dLen (fCons (fComp 1 [] (fiStr (fVar 0)) (gnName 0) (fTB (fOp gNotInS (fVar 0) (fC (.str "0123456789")))) (fVar 0)) fNil)) (fC (.int 0)))))) (fRet (fC .non)) fNext)
    (fSeq (fIfS (fAnd (fTB (fOp gEq (fOp gIx (fVar 0) (fC (.int 0))) (fC (.str "0")))) (fTB (fOp gGt (fCall dLen (fCons (fVar 0) fNil)) (fC (.int 1))))) (fRet (fC .non)) fNext)
    (fRet (fCall dInt2 (fCons (fVar 0) fNil)))))
theorem sc__law_number_in : FnScope ["_law_figures"] ["_law_figures"] (defScope s__law_number_in) := ⟨rfl, rfl, rfl, by decide +kernel, rfl, by decide +kernel, by decide +kernel⟩
theorem ok__law_number_in  (F : Fun K "_law_number_in" "_law_number_in" s__law_number_in f fd) (hb : Binds K fd ["_law_figures"] []) (hm : mg "_law_number_in" = some (.ref f)) (m_len : mg "len" = none) (m_int : mg "int" = none) :
    Def P w K mg base (k + 1) "_law_number_in" 1 (dOf 1 1 (b__law_number_in)) :=
  def_of F sc__law_number_in hb hm fun cdv A outer s H E hr => (sss_cons (ss_if (SW.st (sw_or (st_cmp (ot_eq hr.units) (se_var 0 (pv 0)) se_str (nomark _)) (sw_or (st_cmp ot_gt (se_callB ct_len rfl m_len PySem.boot_len (sa_cons (se_var 0 (pv 0)) sa_nil)) se_int (nomark _)) (sw_or1 (st_cmp ot_gt (se_callB ct_len rfl m_len PySem.boot_len (sa_cons (se_comp (N' := ["_law_sign_here"]) (no := 1) (cap := []) rfl rfl (blkScope_of rfl) rfl (cap_of rfl) (si_str (se_var 0 (pv 0))) (fun _ _ _ _ _ _ => (sg_name 0 nd__law_number_in_0 rfl (Or.inl rfl))) (fun _ _ _ _ _ _ => (sts_one (st_cmp ot_notinS (se_var 0 (pv 0)) se_str rfl))) (fun _ _ _ _ _ _ => (se_var 0 (pv 0)))) sa_nil)) se_int (nomark _)))))) (sss_one (ss_ret se_non)) sss_nil)
    (sss_cons (ss_if (SW.st (sw_and (st_cmp (ot_eq hr.units) (se_ix xt_ix (se_var 0 (pv 0)) se_int (fun _ _ => rfl)) se_str (nomark _)) (sw_and1 (st_cmp ot_gt (se_callB ct_len rfl m_len PySem.boot_len (sa_cons (se_var 0 (pv 0)) sa_nil)) se_int (nomark _))))) (sss_one (ss_ret se_non)) sss_nil)
    (sss_one (ss_ret (se_callTy ct_int2 rfl m_int rfl (sa_cons (se_var 0 (pv 0)) sa_nil))))))
noncomputable abbrev s__law_due : Stmt := top 35
noncomputable def b__law_due (d__law_number_in d__law_frac : List T → Option T) : FS :=
    (fSeq (fAsg (fOp gPart (fVar 0) (fC (.str "/"))) (gnSeq (gnCons (gnName 1) (gnCons (gnName 2) (gnCons (gnName 3) gnNil)))))
    (fSeq (fSet 4 (fC (.int 1)))
    (fSeq (fIfS (fTB (fOp gEq (fSlS (fVar 1) fNoPart (fPart (fC (.int 1)))) (fC (.str "-")))) (fSeq (fSet 4 (fUn gNeg (fC (.int 1))))
    (fSet 1 (fSlS (fVar 1) (fPart (fC (.int 1))) fNoPart))) fNext)
    (fSeq (fSet 5 (fCall d__law_number_in (fCons (fVar 1) fNil)))
    (fSeq (fSet 6 (fC (.int 1)))
    (fSeq (fIfS (fTB (fOp gNe (fVar 2) (fC (.str "")))) (fSet 6 (fCall d__law_number_in (fCons (fVar 3) fNil))) fNext)
    (fSeq (fIfS (fOr (fTB (fOp gIs (fVar 5) (fC .non))) (fOr (fTB (fOp gIs (fVar 6) (fC .non))) (fOr (fTB (fOp gEq (fVar 6) (fC (.int 0)))) (fOr (fAnd (fTB (fOp gEq (fVar 6) (fC (.int 1)))) (fTB (fOp gNe (fVar 2) (fC (.str ""))))) (fAnd (fTB (fOp gEq (fVar 5) (fC (.int 0)))) (fTB (fOp gLt (fVar 4) (fC (.int 0))))))))) (fRet (fC .non)) fNext)
    (fSeq (fIfS (fTB (fOp gNe (fCall d__law_frac (fCons (fOp gMulI (fVar 4) (fVar 5)) (fCons (fVar 6) fNil))) (fTup (fCons (fOp gMulI (fVar 4) (fVar 5)) (fCons (fVar 6) fNil))))) (fRet (fC .non)) fNext)
    (fRet (fTup (fCons (fOp gMulI (fVar 4) (fVar 5)) (fCons (fVar 6) fNil))))))))))))
theorem sc__law_due : FnScope ["_law_text_here", "_law_ahead", "_law_mark", "_law_behind", "_law_turn", "_law_top", "_law_bottom"] ["_law_text_here"] (defScope s__law_due) := ⟨rfl, rfl, rfl, by decide +kernel, rfl, by decide +kernel, by decide +kernel⟩
theorem ok__law_due  (F : Fun K "_law_due" "_law_due" s__law_due f fd) (hb : Binds K fd ["_law_text_here"] []) (hm : mg "_law_due" = some (.ref f)) (D__law_number_in : Def P w K mg base k "_law_number_in" 1 d__law_number_in) (D__law_frac : Def P w K mg base k "_law_frac" 2 d__law_frac) :
    Def P w K mg base (k + 1) "_law_due" 1 (dOf 7 1 (b__law_due d__law_number_in d__law_frac)) :=
  def_of F sc__law_due hb hm fun cdv A outer s H E hr => (sss_cons (ss_asg (se_bm1 PySem.F.slot_str_partition PySem.F.type_str_partition mt_part gs_part (se_var 0 (pv 0)) se_str) (sg_seq rfl (sgs_cons (sg_name 1 sc__law_due.nd rfl (Or.inl rfl)) (sgs_cons (sg_name 2 sc__law_due.nd rfl (Or.inl rfl)) (sgs_cons (sg_name 3 sc__law_due.nd rfl (Or.inl rfl)) sgs_nil))) (gl_cons (gl_cons (gl_cons gl_nil)))))
    (sss_cons (ss_set 4 sc__law_due.nd rfl (Or.inl rfl) se_int)
    (sss_cons (ss_if (st_cmp (ot_eq hr.units) (se_sliceS (se_var 1 (pv 1)) so_none (so_some se_int)) se_str (nomark _)) (sss_cons (ss_set 4 sc__law_due.nd rfl (Or.inl rfl) (se_un ut_neg se_int))
    (sss_one (ss_set 1 sc__law_due.nd rfl (Or.inl rfl) (se_sliceS (se_var 1 (pv 1)) (so_some se_int) so_none)))) sss_nil)
    (sss_cons (ss_set 5 sc__law_due.nd rfl (Or.inl rfl) (se_call D__law_number_in hr rfl (sa_cons (se_var 1 (pv 1)) sa_nil) (len_cons len_nil)))
    (sss_cons (ss_set 6 sc__law_due.nd rfl (Or.inl rfl) se_int)
    (sss_cons (ss_if (st_cmp (ot_ne hr.units) (se_var 2 (pv 2)) se_str (nomark _)) (sss_one (ss_set 6 sc__law_due.nd rfl (Or.inl rfl) (se_call D__law_number_in hr rfl (sa_cons (se_var 3 (pv 3)) sa_nil) (len_cons len_nil)))) sss_nil)
    (sss_cons (ss_if (SW.st (sw_or (st_cmp ot_is (se_var 5 (pv 5)) se_non (nomark _)) (sw_or (st_cmp ot_is (se_var 6 (pv 6)) se_non (nomark _)) (sw_or (st_cmp (ot_eq hr.units) (se_var 6 (pv 6)) se_int (nomark _)) (sw_or (SW.st (sw_and (st_cmp (ot_eq hr.units) (se_var 6 (pv 6)) se_int (nomark _)) (sw_and1 (st_cmp (ot_ne hr.units) (se_var 2 (pv 2)) se_str (nomark _))))) (sw_or1 (SW.st (sw_and (st_cmp (ot_eq hr.units) (se_var 5 (pv 5)) se_int (nomark _)) (sw_and1 (st_cmp ot_lt (se_var 4 (pv 4)) se_int (nomark _))))))))))) (sss_one (ss_ret se_non)) sss_nil)
    (sss_cons (ss_if (st_cmp (ot_ne hr.units) (se_call D__law_frac hr rfl (sa_cons (se_op ot_mulI (se_var 4 (pv 4)) (se_var 5 (pv 5))) (sa_cons (se_var 6 (pv 6)) sa_nil)) (len_cons (len_cons len_nil))) (se_tup (sa_cons (se_op ot_mulI (se_var 4 (pv 4)) (se_var 5 (pv 5))) (sa_cons (se_var 6 (pv 6)) sa_nil))) (nomark _)) (sss_one (ss_ret se_non)) sss_nil)
    (sss_one (ss_ret (se_tup (sa_cons (se_op ot_mulI (se_var 4 (pv 4)) (se_var 5 (pv 5))) (sa_cons (se_var 6 (pv 6)) sa_nil)))))))))))))
noncomputable abbrev s__law_read_right : Stmt := top 36
noncomputable def b__law_read_right (c_EchoError c_NoFraction c_NoFit c_NoTable c_NoTurns c_TooMany : Addr) (d_read_frac d__law_same : List T → Option T) (dx_read_frac : List T → Option XI) : FS :=
    (fSeq (fSet 2 (fC .non))
    (fSeq (fSet 3 (fC .non))
    (fSeq (fTry (fSet 2 (fCall d_read_frac (fCons (fVar 0) fNil)))
    (fCallX dx_read_frac (fCons (fVar 0) fNil))
    (fhAs 4 [(c_NoFraction, true)] (fSet 3 (fVar 4)) fhNil))
    (fSeq (fIfS (fTB (fOp gIs (fVar 1) (fC .non))) (fRet (fAndV (fIsiX [(c_NoFraction, true)] (fVar 3)) (fUn gNot (fCall (dIsiXs [c_NoFit, c_NoTable, c_NoTurns, c_TooMany] [(c_NoFraction, false)]) (fCons (fVar 3) (fCons (fTup (fCons (fC (.ptr c_NoFit)) (fCons (fC (.ptr c_NoTable)) (fCons (fC (.ptr c_NoTurns)) (fCons (fC (.ptr c_TooMany)) fNil))))) fNil)))))) fNext)
    (fRet (fAndV (fOp gIs (fVar 3) (fC .non)) (fCall d__law_same (fCons (fVar 2) (fCons (fVar 1) fNil)))))))))
theorem sc__law_read_right : FnScope ["_law_thing", "_law_due_here", "_law_found", "_law_caught", "e"] ["_law_thing", "_law_due_here"] (defScope s__law_read_right) := ⟨rfl, rfl, rfl, by decide +kernel, rfl, by decide +kernel, by decide +kernel⟩
theorem ok__law_read_right  (F : Fun K "_law_read_right" "_law_read_right" s__law_read_right f fd) (hb : Binds K fd ["_law_thing", "_law_due_here"] []) (hm : mg "_law_read_right" = some (.ref f)) (D_read_frac : Def P w K mg base k "read_frac" 1 d_read_frac) (D__law_same : Def P w K mg base k "_law_same" 2 d__law_same) (DX_read_frac : DefX P w K mg base k "read_frac" 1 dx_read_frac) (tk_EchoError : TakesX K c_EchoError [(c_NoFraction, true)]) (hix_NoFraction : ∀ a ∈ [(c_NoFraction, true)], IsiX K c_NoFraction a.1 a.2) (hix_NoFit : ∀ a ∈ [(c_NoFraction, false)], IsiX K c_NoFit a.1 a.2) (hix_NoTable : ∀ a ∈ [(c_NoFraction, false)], IsiX K c_NoTable a.1 a.2) (hix_NoTurns : ∀ a ∈ [(c_NoFraction, false)], IsiX K c_NoTurns a.1 a.2) (hix_TooMany : ∀ a ∈ [(c_NoFraction, false)], IsiX K c_TooMany a.1 a.2) (hix_NoFit_NoTable_NoTurns_TooMany : ∀ a ∈ [(c_NoFraction, false)], IsiXs K [c_NoFit, c_NoTable, c_NoTurns, c_TooMany] a.1 a.2) (mc_EchoError : mg "EchoError" = some (.ref c_EchoError)) (mc_NoFit : mg "NoFit" = some (.ref c_NoFit)) (mc_NoFraction : mg "NoFraction" = some (.ref c_NoFraction)) (mc_NoTable : mg "NoTable" = some (.ref c_NoTable)) (mc_NoTurns : mg "NoTurns" = some (.ref c_NoTurns)) (mc_TooMany : mg "TooMany" = some (.ref c_TooMany)) (m_isinstance : mg "isinstance" = none) :
    Def P w K mg base (k + 1) "_law_read_right" 2 (dOf 5 2 (b__law_read_right c_EchoError c_NoFraction c_NoFit c_NoTable c_NoTurns c_TooMany d_read_frac d__law_same dx_read_frac)) :=
  def_of F sc__law_read_right hb hm fun cdv A outer s H E hr => (sss_cons (ss_set 2 sc__law_read_right.nd rfl (Or.inl rfl) se_non)
    (sss_cons (ss_set 3 sc__law_read_right.nd rfl (Or.inl rfl) se_non)
    (sss_cons (ss_try (fun _ _ z => z) rfl rfl
    (sss_one (ss_set 2 sc__law_read_right.nd rfl (Or.inl rfl) (se_call D_read_frac hr rfl (sa_cons (se_var 0 (pv 0)) sa_nil) (len_cons len_nil))))
    (sxs_here (sx_asg (sx_call (fun _ _ z => z) DX_read_frac hr rfl (sa_cons (se_var 0 (pv 0)) sa_nil) (len_cons len_nil))))
    (sh_as (i := 4) sc__law_read_right.nd rfl rfl rfl rfl mc_EchoError tk_EchoError (fun _ => (sss_one (ss_set 3 sc__law_read_right.nd rfl (Or.inl rfl) (se_var 4 (pv 4))))) sh_nil))
    (sss_cons (ss_if (st_cmp ot_is (se_var 1 (pv 1)) se_non (nomark _)) (sss_one (ss_ret (se_and (se_isiX hix_NoFraction rfl m_isinstance rfl mc_NoFraction (se_var 3 (pv 3))) (se_one (se_not (se_callB (ct_isiXs hix_NoFit_NoTable_NoTurns_TooMany) rfl m_isinstance rfl (sa_cons (se_var 3 (pv 3)) (sa_cons (se_tup (sa_cons (se_ptr rfl mc_NoFit) (sa_cons (se_ptr rfl mc_NoTable) (sa_cons (se_ptr rfl mc_NoTurns) (sa_cons (se_ptr rfl mc_TooMany) sa_nil))))) sa_nil)))))))) sss_nil)
    (sss_one (ss_ret (se_and (se_cmp ot_is (se_var 3 (pv 3)) se_non (nomark _)) (se_one (se_call D__law_same hr rfl (sa_cons (se_var 2 (pv 2)) (sa_cons (se_var 1 (pv 1)) sa_nil)) (len_cons (len_cons len_nil)))))))))))
end My

set_option maxHeartbeats 4000000
namespace My
open PySem PySem.Spec PyProof.Rows L2 TM
variable {K : PySem.W.Frag}
noncomputable abbrev s_law : Stmt := top 37
noncomputable def b_law (d__law_cell d__law_big d__law_frac d__law_text d_show_frac d__law_same d__law_read_right d__law_mix d__law_spoiled d__law_due : List T → Option T) : FS :=
    (fSeq (fFor (fiRng1 (fCons (fCall dMax (fCons (fC (.int 4)) (fCons (fCall dMin (fCons (fC (.int 30)) (fCons (fCall dLen (fCons (fVar 0) fNil)) fNil))) fNil))) fNil)) (gnName 1) (fSeq (fSet 2 (fCall d__law_cell (fCons (fVar 0) (fCons (fVar 1) fNil))))
    (fSeq (fSet 3 (fCall d__law_big (fCons (fVar 2) fNil)))
    (fSeq (fSet 4 (fCall d__law_frac (fCons (fOp gIx (fVar 3) (fC (.int 0))) (fCons (fOp gIx (fVar 3) (fC (.int 1))) fNil))))
    (fSeq (fSet 5 (fCall d__law_text (fCons (fVar 4) fNil)))
    (fSeq (fIfS (fOr (fNot (fTru (fCall d__law_same (fCons (fCall d_show_frac (fCons (fVar 4) fNil)) (fCons (fVar 5) fNil))))) (fNot (fTru (fCall d__law_read_right (fCons (fVar 5) (fCons (fVar 4) fNil)))))) (fRet (fC (.bl false))) fNext)
    (fSeq (fSet 6 (fCall d__law_frac (fCons (fOp gAdd (fOp gMulI (fOp gIx (fVar 4) (fC (.int 0))) (fOp gPow (fC (.int 10)) (fC (.int 30)))) (fC (.int 1))) (fCons (fOp gIx (fVar 4) (fC (.int 1))) fNil))))
    (fSeq (fIfS (fNot (fTru (fCall d__law_same (fCons (fCall d_show_frac (fCons (fVar 6) fNil)) (fCons (fCall d__law_text (fCons (fVar 6) fNil)) fNil))))) (fRet (fC (.bl false))) fNext)
    (fSeq (fSet 7 (fCall d__law_spoiled (fCons (fVar 5) (fCons (fVar 4) (fCons (fCall d__law_mix (fCons (fVar 2) (fCons (fOp gAdd (fC (.int 20)) (fVar 1)) fNil))) fNil)))))
    (fIfS (fNot (fTru (fCall d__law_read_right (fCons (fVar 7) (fCons (fCall d__law_due (fCons (fVar 7) fNil)) fNil))))) (fRet (fC (.bl false))) fNext))))))))))
    (fSeq (fSet 8 (fOp gIx (fLst (fCons (fC .non) (fCons (fC (.int 5)) (fCons (fC (.bl true)) (fCons (fLst (fCons (fC (.str "1")) fNil)) (fCons (fTup (fCons (fC (.str "1")) fNil)) (fCons (fTup (fCons (fC (.int 1)) (fCons (fC (.int 2)) fNil))) (fCons fDic (fCons (fLst (fCons (fC (.int 1)) (fCons (fC (.int 2)) fNil))) fNil))))))))) (fOp gMod (fCall d__law_mix (fCons (fCall d__law_cell (fCons (fVar 0) (fCons (fC (.int 0)) fNil))) (fCons (fC (.int 4)) fNil))) (fC (.int 8)))))
    (fRet (fCall d__law_read_right (fCons (fVar 8) (fCons (fC .non) fNil))))))
theorem sc_law : FnScope ["_law_script", "_law_k", "_law_cell_here", "_law_drawn", "_law_one", "_law_text_here", "_law_great", "_law_other", "_law_odd"] ["_law_script"] (defScope s_law) := ⟨rfl, rfl, rfl, by decide +kernel, rfl, by decide +kernel, by decide +kernel⟩
theorem fn_law  (F : Fun K "law" "law" s_law f fd) (D__law_cell : Def P w K mg base k "_law_cell" 2 d__law_cell) (D__law_big : Def P w K mg base k "_law_big" 1 d__law_big) (D__law_frac : Def P w K mg base k "_law_frac" 2 d__law_frac) (D__law_text : Def P w K mg base k "_law_text" 1 d__law_text) (D_show_frac : Def P w K mg base k "show_frac" 1 d_show_frac) (D__law_same : Def P w K mg base k "_law_same" 2 d__law_same) (D__law_read_right : Def P w K mg base k "_law_read_right" 2 d__law_read_right) (D__law_mix : Def P w K mg base k "_law_mix" 2 d__law_mix) (D__law_spoiled : Def P w K mg base k "_law_spoiled" 3 d__law_spoiled) (D__law_due : Def P w K mg base k "_law_due" 1 d__law_due) (m_range : mg "range" = none) (m_len : mg "len" = none) (m_min : mg "min" = none) (m_max : mg "max" = none) :
    FnOk P w K mg base CX0 (k + 1) f fd ["_law_script"] (spT K 1 (dOf 9 1 (b_law d__law_cell d__law_big d__law_frac d__law_text d_show_frac d__law_same d__law_read_right d__law_mix d__law_spoiled d__law_due))) :=
  fnok_of F sc_law fun cdv A outer s H E hr => (sss_setAt (ss_for PassesOwn.never rfl (si_rng1 rfl m_range (sa_cons (se_callB (ct_max rfl) rfl m_max rfl (sa_cons se_int (sa_cons (se_callB (ct_min rfl) rfl m_min rfl (sa_cons se_int (sa_cons (se_callB ct_len rfl m_len PySem.boot_len (sa_cons (se_var 0 (pv 0)) sa_nil)) sa_nil))) sa_nil))) sa_nil)) (sg_name 1 sc_law.nd rfl (Or.inl rfl)) (sss_cons (ss_set 2 sc_law.nd rfl (Or.inl rfl) (se_call D__law_cell hr rfl (sa_cons (se_var 0 (pv 0)) (sa_cons (se_var 1 (pv 1)) sa_nil)) (len_cons (len_cons len_nil))))
    (sss_cons (ss_set 3 sc_law.nd rfl (Or.inl rfl) (se_call D__law_big hr rfl (sa_cons (se_var 2 (pv 2)) sa_nil) (len_cons len_nil)))
    (sss_cons (ss_set 4 sc_law.nd rfl (Or.inl rfl) (se_call D__law_frac hr rfl (sa_cons (se_ix xt_ix (se_var 3 (pv 3)) se_int (fun _ _ => rfl)) (sa_cons (se_ix xt_ix (se_var 3 (pv 3)) se_int (fun _ _ => rfl)) sa_nil)) (len_cons (len_cons len_nil))))
    (sss_cons (ss_set 5 sc_law.nd rfl (Or.inl rfl) (se_call D__law_text hr rfl (sa_cons (se_var 4 (pv 4)) sa_nil) (len_cons len_nil)))
    (sss_cons (ss_if (SW.st (sw_or (st_not (st_val (se_call D__law_same hr rfl (sa_cons (se_call D_show_frac hr rfl (sa_cons (se_var 4 (pv 4)) sa_nil) (len_cons len_nil)) (sa_cons (se_var 5 (pv 5)) sa_nil)) (len_cons (len_cons len_nil))))) (sw_or1 (st_not (st_val (se_call D__law_read_right hr rfl (sa_cons (se_var 5 (pv 5)) (sa_cons (se_var 4 (pv 4)) sa_nil)) (len_cons (len_cons len_nil)))))))) (sss_one (ss_ret se_bl)) sss_nil)
    (sss_cons (ss_set 6 sc_law.nd rfl (Or.inl rfl) (se_call D__law_frac hr rfl (sa_cons (se_op ot_add (se_op ot_mulI (se_ix xt_ix (se_var 4 (pv 4)) se_int (fun _ _ => rfl)) (se_op ot_pow se_int se_int)) se_int) (sa_cons (se_ix xt_ix (se_var 4 (pv 4)) se_int (fun _ _ => rfl)) sa_nil)) (len_cons (len_cons len_nil))))
    (sss_cons (ss_if (st_not (st_val (se_call D__law_same hr rfl (sa_cons (se_call D_show_frac hr rfl (sa_cons (se_var 6 (pv 6)) sa_nil) (len_cons len_nil)) (sa_cons (se_call D__law_text hr rfl (sa_cons (se_var 6 (pv 6)) sa_nil) (len_cons len_nil)) sa_nil)) (len_cons (len_cons len_nil))))) (sss_one (ss_ret se_bl)) sss_nil)
    (sss_cons (ss_set 7 sc_law.nd rfl (Or.inl rfl) (se_call D__law_spoiled hr rfl (sa_cons (se_var 5 (pv 5)) (sa_cons (se_var 4 (pv 4)) (sa_cons (se_call D__law_mix hr rfl (sa_cons (se_var 2 (pv 2)) (sa_cons (se_op ot_add se_int (se_var 1 (pv 1))) sa_nil)) (len_cons (len_cons len_nil))) sa_nil))) (len_cons (len_cons (len_cons len_nil)))))
    (sss_one (ss_if (st_not (st_val (se_call D__law_read_right hr rfl (sa_cons (se_var 7 (pv 7)) (sa_cons (se_call D__law_due hr rfl (sa_cons (se_var 7 (pv 7)) sa_nil) (len_cons len_nil)) sa_nil)) (len_cons (len_cons len_nil))))) (sss_one (ss_ret se_bl)) sss_nil))))))))))) sc_law.nd rfl (Or.inl rfl) (by (with_reducible refine se_ix xt_ix (se_lst (sa_cons se_non (sa_cons se_int (sa_cons se_bl (sa_cons (se_lst (sa_cons se_str sa_nil st_con)) (sa_cons (se_tup (sa_cons se_str sa_nil st_con)) (sa_cons (se_tup (sa_cons se_int (sa_cons se_int sa_nil st_con) st_con)) (sa_cons se_dic (sa_cons (se_lst (sa_cons se_int (sa_cons se_int sa_nil st_con) st_con)) sa_nil st_lst) st_dic) st_tup) st_tup) st_lst) st_con) st_con) st_con)) ?_ ?_); (exact (se_op ot_mod (se_call D__law_mix hr rfl (sa_cons (se_call D__law_cell hr rfl (sa_cons (se_var 0 (pv 0)) (sa_cons se_int sa_nil)) (len_cons (len_cons len_nil))) (sa_cons se_int sa_nil)) (len_cons (len_cons len_nil))) se_int)); exact fun _ _ => rfl)
    (sss_one (ss_ret (se_call D__law_read_right hr rfl (sa_cons (se_var 8 (pv 8)) (sa_cons se_non sa_nil)) (len_cons (len_cons len_nil))))) rfl (Or.inr rfl))
end My

namespace My
open PySem PySem.Spec PyProof.Rows L2 TM
theorem le17 : (17 : Nat) ≤ sizeLine := small_le (by decide)
theorem lt6 : (6 : Nat) < sizeLine := small1000 (by decide)
theorem gEq_pair {a b c d : Int} : gEq (.tup [.int a, .int b]) (.tup [.int c, .int d]) = some (.bl (decide (a = c) && decide (b = d))) := by
  have e : gEq (.tup [.int a, .int b]) (.tup [.int c, .int d]) = some (.bl ((a == c) && ((b == d) && true))) := rfl
  rw [e, Bool.and_true, Bool.beq_eq_decide_eq, Bool.beq_eq_decide_eq]
theorem gEq_bools {x y : Bool} : gEq (.lst [.bl x, .bl y]) (.lst [.bl x, .bl y]) = some (.bl true) := by
  have e : gEq (.lst [.bl x, .bl y]) (.lst [.bl x, .bl y]) = some (.bl ((x == x) && ((y == y) && true))) := rfl
  rw [e, beq_self_eq_true, beq_self_eq_true]
  rfl
theorem while_common : ∀ (n : Nat) (u : Option Sl) (x y : Nat), y < n → whileT (fTB (fOp gNe (fVar 1) (fC (.int 0)))) (fPar 0 1 (fCons (fVar 1) (fCons (fOp gMod (fVar 0) (fVar 1)) fNil))) n [some (.sh (.int x)), some (.sh (.int y)), u]
    = some (.nx [some (.sh (.int (Nat.gcd x y))), some (.sh (.int 0)), u])
  | 0, _, _, _, h => by omega
  | n + 1, u, x, y, h => by
    unfold whileT
    by_cases hy : y = 0
    · subst hy
      have h0 : ((0 : Nat) : Int) = 0 := rfl
      walk_at "ev"
      simp
    · have hy' : ¬ ((y : Int) = 0) := by omega
      have hm : Int.fmod (x : Int) (y : Int) = ((x % y : Nat) : Int) := by rw [Int.fmod_eq_emod_of_nonneg _ (by omega)]; rfl
      have hg : Nat.gcd x y = Nat.gcd y (x % y) := by rw [Nat.gcd_comm x y, Nat.gcd_rec y x, Nat.gcd_comm]
      have ih := while_common n u y (x % y) (by have := Nat.mod_lt x (Nat.pos_of_ne_zero hy); omega)
      rw [hg]
      clear hg h hy
      walk_at "ev"
theorem while_law : ∀ (n : Nat) (u v : Option Sl) (x y : Nat), y < n → whileT (fTB (fOp gGt (fVar 3) (fC (.int 0)))) (fPar 2 3 (fCons (fVar 3) (fCons (fOp gMod (fVar 2) (fVar 3)) fNil))) n [u, v, some (.sh (.int x)), some (.sh (.int y))]
    = some (.nx [u, v, some (.sh (.int (Nat.gcd x y))), some (.sh (.int 0))])
  | 0, _, _, _, _, h => by omega
  | n + 1, u, v, x, y, h => by
    unfold whileT
    by_cases hy : y = 0
    · subst hy
      have h0 : ((0 : Nat) : Int) = 0 := rfl
      walk_at "ev"
      simp
    · have hy' : ¬ ((y : Int) = 0) := by omega
      have hy2 : (0 : Int) < y := by omega
      have hm : Int.fmod (x : Int) (y : Int) = ((x % y : Nat) : Int) := by rw [Int.fmod_eq_emod_of_nonneg _ (by omega)]; rfl
      have hg : Nat.gcd x y = Nat.gcd y (x % y) := by rw [Nat.gcd_comm x y, Nat.gcd_rec y x, Nat.gcd_comm]
      have ih := while_law n u v y (x % y) (by have := Nat.mod_lt x (Nat.pos_of_ne_zero hy); omega)
      rw [hg]
      clear hg h hy
      walk_at "ev"
theorem while_no {ft : FT} {fb : FS} {τ τ' : TEnv} {n : Nat} (h : ft τ = some (false, τ')) (hn : 0 < n) : whileT ft fb n τ = some (.nx τ') := by
  obtain ⟨m, rfl⟩ : ∃ m, n = m + 1 := ⟨n - 1, by omega⟩
  unfold whileT
  rw [h]
  rfl
theorem B_pos : 0 < B := by decide +kernel
theorem bits_le {x : Int} (h : x.natAbs < B) : ¬ ((Builtin.Int.intBits x : Int) > 4000) := by
  unfold Builtin.Int.intBits
  by_cases h0 : x = 0
  · subst h0; decide
  · rw [if_neg (by simpa using h0)]
    have : x.natAbs.log2 < 4000 := (Nat.log2_lt (by omega)).mpr h
    omega
noncomputable def mCommon : List T → Option T
  | [.int a, .int b] => if a.natAbs < B ∧ b.natAbs < B then some (.int (Int.gcd a b)) else none
  | _ => none
theorem mCommon_eq {a b : Int} (ha : a.natAbs < B) (hb : b.natAbs < B) : mCommon [.int a, .int b] = some (.int (Int.gcd a b)) := if_pos ⟨ha, hb⟩
theorem sp_common (ts : List T) (t : T) (h : mCommon ts = some t) : dOf 3 2 (b_common B (fun _ => none)) ts = some t := by
  unfold mCommon at h
  split at h
  · next a b =>
    split at h
    · next hb =>
      cases h
      have hw := while_common B none a.natAbs b.natAbs (hb.2)
      have hbits := bits_le (x := ((b.natAbs : Nat) : Int)) (by simpa using hb.2)
      have hgt : gGt (.int (Builtin.Int.intBits ((b.natAbs : Nat) : Int))) (.int 4000) = some (.bl false) := by
        show some (T.bl (decide _)) = _
        rw [decide_eq_false hbits]
      have hno : whileT (fTB (fOp gGt (fUn gBits (fVar 1)) (fC (.int 4000)))) (fSeq (fPar 0 1 (fCons (fVar 1) (fCons (fOp gMod (fVar 0) (fVar 1)) fNil))) (fIfS (fTB (fOp gGt (fUn gBits (fVar 1)) (fC (.int 4000)))) (fAsg (fCall (fun _ => none) (fCons (fVar 0) (fCons (fVar 1) fNil))) (gnTup (gnCons (gnName 0) (gnCons (gnName 1) (gnCons (gnName 2) gnNil))))) fNext)) B [some (.sh (.int (a.natAbs : Nat))), some (.sh (.int (b.natAbs : Nat))), none]
          = some (.nx [some (.sh (.int (a.natAbs : Nat))), some (.sh (.int (b.natAbs : Nat))), none]) := while_no (by
            clear hw hbits
            walk_at "ev") B_pos
      unfold dOf b_common
      clear hb hbits hgt
      walk_at "ev"
      rfl
    · cases h
  · cases h
noncomputable def sg (a b : Int) : Int := if b < 0 then -(Int.gcd a b : Int) else (Int.gcd a b : Int)
noncomputable def frT (a b : Int) : T := .tup [.int (a.fdiv (sg a b)), .int (b.fdiv (sg a b))]
noncomputable def mFrac : List T → Option T
  | [.int a, .int b] => if a.natAbs < B ∧ b.natAbs < B ∧ b ≠ 0 then some (frT a b) else none
  | _ => none
theorem mFrac_eq {a b : Int} (ha : a.natAbs < B) (hb : b.natAbs < B) (h0 : b ≠ 0) : mFrac [.int a, .int b] = some (frT a b) := if_pos ⟨ha, hb, h0⟩
theorem gcd_ne {a b : Int} (h0 : b ≠ 0) : ¬ ((Int.gcd a b : Nat) : Int) = 0 := by
  intro h
  have : Int.gcd a b = 0 := by omega
  rw [Int.gcd_eq_zero_iff] at this
  exact h0 this.2
theorem gcd_B {a b : Int} (hb : b.natAbs < B) (h0 : b ≠ 0) : Int.gcd a b < B := by
  have h1 : Int.gcd a b ∣ b.natAbs := Int.gcd_dvd_natAbs_right a b
  have := Nat.le_of_dvd (by omega) h1
  omega
theorem sp_law_frac (ts : List T) (t : T) (h : mFrac ts = some t) : dOf 4 2 (b__law_frac B) ts = some t := by
  unfold mFrac at h
  split at h
  · next a b =>
    split at h
    · next hb =>
      cases h
      obtain ⟨ha, hb, h0⟩ := hb
      have h2 := gcd_ne (a := a) h0
      have h3 := gcd_B (a := a) hb h0
      have h4 : ((Int.gcd a b : Nat) : Int).natAbs < B := by omega
      have h5 : ¬ -((Int.gcd a b : Nat) : Int) = 0 := by omega
      have h6 : (-((Int.gcd a b : Nat) : Int)).natAbs < B := by omega
      have hz : ∀ i : Int, 0 - i = -i := fun i => by omega
      have hw := while_law B (some (.sh (.int a))) (some (.sh (.int b))) a.natAbs b.natAbs hb
      have hg : Nat.gcd a.natAbs b.natAbs = Int.gcd a b := rfl
      unfold dOf b__law_frac
      by_cases hs : b < 0
      · have e : frT a b = .tup [.int (a.fdiv (-(Int.gcd a b : Int))), .int (b.fdiv (-(Int.gcd a b : Int)))] := by unfold frT sg; rw [if_pos hs]
        walk_at "ev"
      · have e : frT a b = .tup [.int (a.fdiv (Int.gcd a b : Int)), .int (b.fdiv (Int.gcd a b : Int))] := by unfold frT sg; rw [if_neg hs]
        walk_at "ev"
    · cases h
  · cases h
theorem small_B {i : Int} (h1 : -1000000 ≤ i) (h2 : i ≤ 1000000) : i.natAbs < B := ltB_of (by omega) (by omega)
theorem B_big : (10 : Nat) ^ 100 < B := by decide +kernel
theorem big_B {i : Int} (h1 : -(10 : Int) ^ 100 < i) (h2 : i < (10 : Int) ^ 100) : i.natAbs < B := by
  have := B_big
  have h3 : ((10 : Nat) ^ 100 : Nat) = 10000000000000000000000000000000000000000000000000000000000000000000000000000000000000000000000000000 := by decide +kernel
  have h4 : (10 : Int) ^ 100 = 10000000000000000000000000000000000000000000000000000000000000000000000000000000000000000000000000000 := by decide +kernel
  omega
end My

namespace My
open PySem PySem.Spec PyProof.Rows L2 TM
noncomputable def S (l : List Nat) : Str := ⟨l.toArray⟩
theorem S_toList (x : Str) : S x.cps.toList = x := by cases x; simp [S]
theorem S_list (l : List Nat) : (S l).cps.toList = l := by simp [S]
theorem S_len (l : List Nat) : (S l).length = l.length := by simp [S, Str.length]
theorem S_app (a b : List Nat) : S a ++ S b = S (a ++ b) := by
  show (⟨(S a).cps ++ (S b).cps⟩ : Str) = _
  simp [S]
theorem S_inj {a b : List Nat} (h : S a = S b) : a = b := by
  have := congrArg (fun x : Str => x.cps.toList) h
  simpa [S] using this
theorem S_mk {x : Str} {l : List Nat} (h : x.cps.toList = l) : x = S l := by rw [← h, S_toList]
noncomputable def ds (n : Nat) : List Nat := (Nat.toDigits 10 n).map Char.toNat
theorem str_nat (n : Nat) : Str.ofString (toString ((n : Nat) : Int)) = S (ds n) := S_mk (PySem.W.KIN.signs_num n)
theorem str_neg (n : Nat) : Str.ofString (toString (-((n + 1 : Nat) : Int))) = S (45 :: ds (n + 1)) := by
  refine S_mk ?_
  rw [signs_ofString]
  show (("-" ++ Nat.repr (n + 1)).toList).map Char.toNat = _
  rw [String.toList_append, List.map_append, Nat.toList_repr]
  rfl
theorem ds_digits (n : Nat) : NumText.AllDigits (ds n) := by
  intro c hc
  obtain ⟨ch, hch, e⟩ := List.mem_map.mp hc
  have r := digit_range (Nat.isDigit_of_mem_toDigits (by decide) (by decide) hch)
  rw [← e]
  exact r
theorem ds_val (n : Nat) : NumText.digitsVal (ds n) = n := PySem.W.KIN.val_back n
theorem ds_ne (n : Nat) : ds n ≠ [] := by
  intro e
  have h : 1 ≤ (Nat.toDigits 10 n).length := Nat.length_toDigits_pos
  have := congrArg List.length e
  unfold ds at this
  rw [List.length_map] at this
  simp at this
theorem ds_lt {n : Nat} (h : n < 10) : ds n = [48 + n] := by
  unfold ds
  rw [Nat.toDigits_of_lt_base h, NumText.digitChar_of n h]
  have : ∀ m : Nat, m < 10 → (Char.ofNat (48 + m)).toNat = 48 + m := by decide
  simp [this n h]
theorem ds_step {m d : Nat} (hm : 0 < m) (hd : d < 10) : ds (10 * m + d) = ds m ++ ds d := by
  unfold ds
  rw [← Nat.toDigits_append_toDigits (by decide) hm hd, List.map_append]
theorem ds_pad : ∀ (k q r : Nat), 0 < q → r < 10 ^ (k + 1) → ds (q * 10 ^ (k + 1) + r) = ds q ++ (List.replicate (k + 1 - (ds r).length) 48 ++ ds r)
  | 0, q, r, hq, hr => by
    have hr : r < 10 := by simpa using hr
    rw [show q * 10 ^ (0 + 1) + r = 10 * q + r by simp; omega, ds_step hq hr, ds_lt hr]
    rfl
  | k + 1, q, r, hq, hr => by
    have h1 : r / 10 < 10 ^ (k + 1) := by
      rw [Nat.div_lt_iff_lt_mul (by decide)]
      rw [Nat.pow_succ] at hr
      exact hr
    have h2 : r % 10 < 10 := Nat.mod_lt _ (by decide)
    have h3 : q * 10 ^ (k + 1 + 1) + r = 10 * (q * 10 ^ (k + 1) + r / 10) + r % 10 := by
      rw [Nat.pow_succ 10 (k + 1), ← Nat.mul_assoc]
      have := Nat.div_add_mod r 10
      omega
    have h4 : 0 < q * 10 ^ (k + 1) + r / 10 := by
      have : 0 < q * 10 ^ (k + 1) := Nat.mul_pos hq (Nat.pow_pos (by decide))
      omega
    rw [h3, ds_step h4 h2, ds_pad k q (r / 10) hq h1]
    by_cases h5 : r / 10 = 0
    · have h6 : r < 10 := by omega
      have h7 : r % 10 = r := Nat.mod_eq_of_lt h6
      rw [h5, h7, ds_lt h6, ds_lt (show 0 < 10 by decide)]
      simp only [List.length_singleton, List.append_assoc, Nat.add_sub_cancel]
      congr 1
      rw [show k + 1 = k + 1 from rfl, List.replicate_succ' (n := k)]
      simp
    · have h6 : ds r = ds (r / 10) ++ ds (r % 10) := by
        rw [← ds_step (by omega) h2, Nat.div_add_mod]
      rw [h6, List.length_append, ds_lt h2, List.length_singleton]
      simp only [List.append_assoc]
      rw [show k + 1 + 1 - ((ds (r / 10)).length + 1) = k + 1 - (ds (r / 10)).length by omega]
theorem ds_len : ∀ (k n : Nat), n < 10 ^ (k + 1) → (ds n).length ≤ k + 1
  | 0, n, h => by rw [ds_lt (by simpa using h)]; exact Nat.le_refl _
  | k + 1, n, h => by
    by_cases h1 : n < 10
    · rw [ds_lt h1]; simp
    · have h2 : n / 10 < 10 ^ (k + 1) := by
        rw [Nat.div_lt_iff_lt_mul (by decide)]
        rw [Nat.pow_succ] at h
        exact h
      have e : ds n = ds (n / 10) ++ ds (n % 10) := by
        rw [← ds_step (by omega) (Nat.mod_lt _ (by decide)), Nat.div_add_mod]
      have := ds_len k (n / 10) h2
      rw [e, List.length_append, ds_lt (Nat.mod_lt n (by decide : 0 < 10)), List.length_singleton]
      omega
theorem ds_back {l : List Nat} (h : NumText.AllDigits l) (hn : l ≠ []) (h0 : ¬ (l.head? = some 48 ∧ 1 < l.length)) : ds (NumText.digitsVal l) = l := by
  cases l with
  | nil => exact absurd rfl hn
  | cons c r =>
    have hc := h.head
    have hh : r.length = 0 ∨ ∃ c' r', c :: r = c' :: r' ∧ 49 ≤ c' := by
      by_cases hr : r.length = 0
      · exact .inl hr
      · refine .inr ⟨c, r, rfl, ?_⟩
        have : c ≠ 48 := fun e => h0 ⟨by rw [e]; rfl, by simp; omega⟩
        omega
    unfold ds
    rw [NumText.toDigits_digitsVal r.length (c :: r) rfl h hh, List.map_map]
    conv => rhs; rw [← List.map_id (c :: r)]
    refine List.map_congr_left fun d hd => ?_
    have hd := h d hd
    have : ∀ m : Nat, m < 58 → (Char.ofNat m).toNat = m := by decide
    exact this d (by omega)
theorem ds_head {n : Nat} (h : (ds n).head? = some 48) : n = 0 ∨ False := by
  by_cases hn : n < 10
  · rw [ds_lt hn] at h
    simp at h
    exact .inl h
  · exfalso
    have hall := ds_digits n
    have key : ∀ m : Nat, 0 < m → (ds m).head? ≠ some 48 := by
      intro m
      induction m using Nat.strongRecOn with
      | _ m ih =>
        intro hm e
        by_cases h1 : m < 10
        · rw [ds_lt h1] at e; simp at e; omega
        · have e2 : ds m = ds (m / 10) ++ ds (m % 10) := by rw [← ds_step (by omega) (Nat.mod_lt _ (by decide)), Nat.div_add_mod]
          rw [e2] at e
          have hne := ds_ne (m / 10)
          rw [List.head?_append, Option.or_of_isSome (by cases hd : ds (m / 10) with | nil => exact absurd hd hne | cons a b => rfl)] at e
          exact ih (m / 10) (by omega) (by omega) e
    exact key n (by omega) h
end My

namespace My
open PySem PySem.Spec PyProof.Rows L2 TM
theorem t_minus : Str.ofString "-" = S [45] := by decide +kernel
theorem t_stroke : Str.ofString "/" = S [47] := by decide +kernel
theorem t_none : Str.ofString "" = S [] := by decide +kernel
theorem t_one : Str.ofString "1" = S [49] := by decide +kernel
theorem t_nought : Str.ofString "0" = S [48] := by decide +kernel
theorem S_at (l : List Nat) (c i : Nat) : StrLaws.At (S l) (S [c]) (S l).length i ↔ l[i]? = some c := by
  have := StrLaws.subAt_one (S l) c i
  rw [S_list] at this
  exact this
theorem rmp_minus (l : List Nat) : Txt.removeprefix (S (45 :: l)) (S [45]) = S l := by
  rw [StrLaws.removeprefix_eq, if_pos]
  · rw [S_list, S_len, S_len]
    show S ((l.take (l.length + 1 - 1))) = S l
    rw [Nat.add_sub_cancel, List.take_length]
  · rw [S_len, S_len, StrLaws.subAt_eq, S_list, S_list, S_len]
    simp
theorem rmp_other {l : List Nat} (h : l.head? ≠ some 45) : Txt.removeprefix (S l) (S [45]) = S l := by
  rw [StrLaws.removeprefix_eq, if_neg]
  rw [S_len, S_len, StrLaws.subAt_eq, S_list, S_list, S_len]
  cases l with
  | nil => simp
  | cons c r =>
    simp at h
    simp [h]
theorem part_no {l : List Nat} (h : 47 ∉ l) : Txt.partition (S l) (S [47]) = (S l, S [], S []) := by
  rcases partition_whole (S l) (S [47]) with ⟨e, _⟩ | ⟨i, e, h1, _⟩
  · exact e
  · exact absurd (List.mem_of_getElem? ((S_at l 47 i).mp h1)) h
theorem part_yes {a b : List Nat} (h : 47 ∉ a) : Txt.partition (S (a ++ 47 :: b)) (S [47]) = (S a, S [47], S b) := by
  have hg : (a ++ 47 :: b)[a.length]? = some 47 := by simp
  rcases partition_whole (S (a ++ 47 :: b)) (S [47]) with ⟨_, h1⟩ | ⟨i, e, h1, h2⟩
  · exact absurd ((S_at _ 47 a.length).mpr hg) (h1 a.length)
  · have h1' := (S_at _ 47 i).mp h1
    have hi : i = a.length := by
      rcases Nat.lt_trichotomy i a.length with hl | hl | hl
      · rw [List.getElem?_append_left hl] at h1'
        exact absurd (List.mem_of_getElem? h1') h
      · exact hl
      · exact absurd ((S_at _ 47 a.length).mpr hg) (h2 a.length hl)
    subst hi
    rw [e]
    have e1 : Builtin.Str.strSub (S (a ++ 47 :: b)) 0 a.length = S a := S_mk (by rw [StrLaws.strSub_toList, S_list]; simp)
    have e2 : Builtin.Str.strSub (S (a ++ 47 :: b)) (a.length + (S [47]).length) (S (a ++ 47 :: b)).length = S b := S_mk (by
      rw [StrLaws.strSub_toList, S_list, S_len, S_len]
      simp only [List.length_append, List.length_cons, List.length_nil, Nat.zero_add]
      rw [List.drop_append, List.drop_eq_nil_of_le (by omega), List.nil_append, show a.length + 1 - a.length = 1 by omega, show a.length + (b.length + 1) - (a.length + 1) = b.length by omega]
      show b.take b.length = b
      exact List.take_length)
    rw [e1, e2]
theorem sl_first (l : List Nat) : Txt.slice (S l) none (some 1) = S (l.take 1) := by
  cases l with
  | nil =>
    have h := Txt.slice_le (S []) none (some 1)
    rw [S_len] at h
    refine S_mk ?_
    have : (Txt.slice (S []) none (some 1)).cps.size = 0 := by
      have : (Txt.slice (S []) none (some 1)).length = 0 := by simpa using h
      exact this
    rw [Array.eq_empty_of_size_eq_zero this]
    rfl
  | cons c r =>
    have h := slice_closes_to (x := S (c :: r)) (j := 1) ⟨by decide, by rw [S_list, List.length_cons]; omega⟩
    rw [eq_of_beq h, S_list]
    rfl
theorem sl_rest (c : Nat) (r : List Nat) : Txt.slice (S (c :: r)) (some 1) none = S r := by
  rw [slice_from_eq (b := (S (c :: r)).length) (by decide) (by rw [S_len, List.length_cons]; omega) rfl, S_list, S_len]
  show S (r.take (((r.length + 1 : Nat) : Int) - 1).toNat) = S r
  rw [show (((r.length + 1 : Nat) : Int) - 1).toNat = r.length by omega, List.take_length]
theorem in_figs (c : Nat) : gInS (.str ⟨#[c]⟩) (.str "0123456789") = some (.bl (decide (48 ≤ c ∧ c ≤ 57))) ∧ gNotInS (.str ⟨#[c]⟩) (.str "0123456789") = some (.bl (!decide (48 ≤ c ∧ c ≤ 57))) := by
  have hl : (Str.ofString "0123456789") = S [48, 49, 50, 51, 52, 53, 54, 55, 56, 57] := by decide +kernel
  have hm : (Builtin.Str.occurrences (Str.ofString "0123456789") ⟨#[c]⟩ 0 (Str.ofString "0123456789").length 1).isEmpty = !decide (48 ≤ c ∧ c ≤ 57) := by
    rw [hl]
    rcases StrLaws.occ_head (S [48, 49, 50, 51, 52, 53, 54, 55, 56, 57]) ⟨#[c]⟩ 1 (Nat.le_refl 1) with ⟨e, h⟩ | ⟨i, r, e, h, _⟩
    · rw [e]
      have : ¬ (48 ≤ c ∧ c ≤ 57) := fun hc => by
        have : c ∈ [48, 49, 50, 51, 52, 53, 54, 55, 56, 57] := by simp; omega
        obtain ⟨i, hi⟩ := List.mem_iff_getElem?.mp this
        exact h i ((S_at _ c i).mpr hi)
      rw [decide_eq_false this]
      rfl
    · rw [e]
      have : c ∈ [48, 49, 50, 51, 52, 53, 54, 55, 56, 57] := List.mem_of_getElem? ((S_at _ c i).mp h)
      have : 48 ≤ c ∧ c ≤ 57 := by simp at this; omega
      rw [decide_eq_true this]
      rfl
  refine ⟨?_, ?_⟩
  · show some (T.bl (!(Builtin.Str.occurrences (Str.ofString "0123456789") ⟨#[c]⟩ 0 (Str.ofString "0123456789").length 1).isEmpty)) = _
    rw [hm, Bool.not_not]
  · show some (T.bl (Builtin.Str.occurrences (Str.ofString "0123456789") ⟨#[c]⟩ 0 (Str.ofString "0123456789").length 1).isEmpty) = _
    rw [hm]
theorem zf_digits {l : List Nat} (h : NumText.AllDigits l) (hn : l ≠ []) (hl : l.length ≤ 36) : Txt.zfill (S l) 36 = S (List.replicate (36 - l.length) 48 ++ l) := by
  unfold Txt.zfill
  rw [S_len]
  by_cases h1 : (36 : Int) ≤ (l.length : Int)
  · rw [if_pos h1, show 36 - l.length = 0 by omega]
    rfl
  · rw [if_neg h1]
    show PySem.zfilled (S l) (36 - l.length) = _
    unfold PySem.zfilled
    cases l with
    | nil => exact absurd rfl hn
    | cons c r =>
      have hc := h.head
      have e : (S (c :: r)).cps[0]? = some c := by simp [S]
      rw [e]
      have : ∀ y : Str, (match some c with | some 43 => y | some 45 => y | _ => Builtin.Str.padded (S (c :: r)) (36 - (c :: r).length) 0 48) = Builtin.Str.padded (S (c :: r)) (36 - (c :: r).length) 0 48 := by
        intro y
        split
        · next h => cases h; omega
        · next h => cases h; omega
        · rfl
      refine (this _).trans ?_
      refine S_mk ?_
      simp [Builtin.Str.padded, S]
theorem join_one (a : List Nat) : Txt.join (S []) [S a] = S a := by
  show Builtin.Str.glued (S []) [S a] = _
  rw [StrLaws.glued_eq_join]
  rfl
theorem join_two (a b : List Nat) : Txt.join (S []) [S a, S b] = S (a ++ b) := by
  show Builtin.Str.glued (S []) [S a, S b] = _
  rw [StrLaws.glued_eq_join]
  show S a ++ S [] ++ S b = _
  rw [S_app, S_app, List.append_nil]
end My

namespace My
open PySem PySem.Spec PyProof.Rows L2 TM
noncomputable abbrev s (t : T) : Option Sl := some (.sh t)
noncomputable abbrev tx (l : List Nat) : T := .str (S l)
noncomputable def isD (c : Nat) : Bool := decide (48 ≤ c ∧ c ≤ 57)
noncomputable def isF (l : List Nat) : Bool := (decide (1 ≤ l.length) && decide (l.length ≤ 30)) && l.all isD
theorem isF_iff {l : List Nat} : isF l = true ↔ (l ≠ [] ∧ l.length ≤ 30) ∧ NumText.AllDigits l := by
  unfold isF NumText.AllDigits
  simp only [Bool.and_eq_true, decide_eq_true_eq, List.all_eq_true, isD]
  constructor
  · rintro ⟨⟨h1, h2⟩, h3⟩
    exact ⟨⟨fun e => by rw [e] at h1; simp at h1, h2⟩, h3⟩
  · rintro ⟨⟨h1, h2⟩, h3⟩
    exact ⟨⟨by cases l with | nil => exact absurd rfl h1 | cons a b => simp, h2⟩, h3⟩
noncomputable abbrev dFi : List T → Option T := dOf 1 1 b_is_figures
theorem comp_mapA {α : Type} {φ : α → T} {fe : FE} {g : α → T} {ρ : TEnv} (hr : allSh ρ = true) : ∀ (l : List α) (u : Option Sl) (acc : List T), (∀ x ∈ l, fe (some (.sh (φ x)) :: ρ) = some (g x, some (.sh (φ x)) :: ρ)) → acc.length + l.length ≤ sizeLine → compT (gnName 0) fAlways fe (l.map φ) (u :: ρ) acc = some (acc ++ l.map g)
  | [], u, acc, _, _ => by simp [compT]
  | x :: l, u, acc, h, hl => by
    have hl' : acc.length + (l.length + 1) ≤ sizeLine := hl
    rw [List.map_cons, compT, show gnName 0 (φ x) (u :: ρ) = some (some (.sh (φ x)) :: ρ) from rfl, Option.bind_some, show fAlways (some (.sh (φ x)) :: ρ) = some (true, some (.sh (φ x)) :: ρ) from rfl, Option.bind_some, if_pos rfl, h x List.mem_cons_self, Option.bind_some, if_pos ⟨hr, by omega⟩,
      comp_mapA hr l _ _ (fun z hz => h z (List.mem_cons_of_mem _ hz)) (by rw [List.length_append]; simp; omega), List.map_cons, List.append_assoc]
    rfl
theorem op_q {g : T → T → Option T} {f1 f2 : FE} {τ τ1 τ2 : TEnv} {a b t : T} (h1 : f1 τ = some (a, τ1)) (h2 : f2 τ1 = some (b, τ2)) (h3 : g a b = some t) : fOp g f1 f2 τ = some (t, τ2) := by
  unfold fOp
  rw [h1, Option.bind_some]
  dsimp only
  rw [h2, Option.bind_some]
  dsimp only
  rw [h3]
  rfl
theorem signs_S (l : List Nat) : signsT (S l) = l.map fun c => T.str ⟨#[c]⟩ := by unfold signsT; rw [S_list]
theorem bools_map (f : Nat → Bool) : ∀ l : List Nat, boolsOf (l.map fun c => T.bl (f c)) = some (l.map f)
  | [] => rfl
  | c :: l => by
    show (boolsOf (l.map fun c => T.bl (f c))).bind _ = _
    rw [bools_map f l]
    rfl
theorem len_S {l : List Nat} (h : l.length ≤ 1000) : dLen [tx l] = some (.int l.length) := by
  show (if (S l).length ≤ sizeLine then some (T.int (S l).length) else none) = _
  rw [S_len, if_pos (small_le h)]
theorem fi_ok (l : List Nat) (h : l.length ≤ 1000) : dFi [tx l] = some (.bl (isF l)) := by
  have hcomp : (fComp 1 [] (fiStr (fVar 0)) (gnName 0) fAlways (fOp gInS (fVar 0) (fC (.str "0123456789")))) [s (tx l)] = some (.lst (l.map fun c => .bl (isD c)), [s (tx l)]) := by
    show (compT (gnName 0) fAlways (fOp gInS (fVar 0) (fC (.str "0123456789"))) (signsT (S l)) [none] []).bind _ = _
    rw [signs_S, comp_mapA (g := fun c => .bl (isD c)) rfl l none [] (fun c _ => ?_) (by simpa using small_le h)]
    · rfl
    · exact op_q rfl rfl (in_figs c).1
  have hall : dAll [.lst (l.map fun c => .bl (isD c))] = some (.bl (l.all isD)) := by
    show (boolsOf _).bind _ = _
    rw [bools_map]
    show some (T.bl ((l.map isD).all id)) = _
    rw [List.all_map]
    rfl
  have hlen := len_S h
  have hch : (fChain gLe gLe (fC (.int 1)) (fCall dLen (fCons (fVar 0) fNil)) (fC (.int 30))) [s (tx l)] = some (.bl (decide (1 ≤ l.length) && decide (l.length ≤ 30)), [s (tx l)]) := by
    have h0 : (fCall dLen (fCons (fVar 0) fNil)) [s (tx l)] = some (.int l.length, [s (tx l)]) := by
      show (dLen [tx l]).bind _ = _
      rw [hlen]
      rfl
    unfold fChain
    rw [show fC (.int 1) [s (tx l)] = some (.int 1, [s (tx l)]) from rfl, Option.bind_some]
    dsimp only
    rw [h0, Option.bind_some]
    show (some (T.bl (decide ((1 : Int) ≤ (l.length : Int))))).bind _ = _
    rw [Option.bind_some]
    by_cases h1 : 1 ≤ l.length
    · rw [decide_eq_true (show (1 : Int) ≤ (l.length : Int) by omega), decide_eq_true h1]
      show some (T.bl (decide ((l.length : Int) ≤ 30)), _) = _
      rw [Bool.true_and]
      congr 3
      exact decide_eq_decide.mpr (by omega)
    · rw [decide_eq_false (show ¬ (1 : Int) ≤ (l.length : Int) by omega), decide_eq_false h1]
      rfl
  show (fRet (fAndV (fChain gLe gLe (fC (.int 1)) (fCall dLen (fCons (fVar 0) fNil)) (fC (.int 30))) (fCall dAll (fCons (fComp 1 [] (fiStr (fVar 0)) (gnName 0) fAlways (fOp gInS (fVar 0) (fC (.str "0123456789")))) fNil))) [s (tx l)]).bind _ = _
  unfold isF
  generalize (fChain gLe gLe (fC (.int 1)) (fCall dLen (fCons (fVar 0) fNil)) (fC (.int 30))) = fc at *
  generalize (fComp 1 [] (fiStr (fVar 0)) (gnName 0) fAlways (fOp gInS (fVar 0) (fC (.str "0123456789")))) = fm at *
  generalize (decide (1 ≤ l.length) && decide (l.length ≤ 30)) = b at *
  cases b with
  | true =>
    rw [Bool.true_and]
    unfold fRet fAndV
    rw [hch, Option.bind_some]
    dsimp only
    show ((((fm [s (tx l)]).bind _).bind _).bind _).bind _ = _
    rw [hcomp]
    show ((((dAll [.lst (l.map fun c => .bl (isD c))]).bind _)).bind _).bind _ = _
    rw [hall]
    rfl
  | false =>
    unfold fRet fAndV
    rw [hch]
    rfl
noncomputable abbrev dFg : List T → Option T := dOf 3 1 (b_figures 3)
theorem dstr_nat {n : Nat} (h : n < 10 ^ 100) : dStr [.int n] = some (tx (ds n)) := by
  show (if (n : Int).natAbs.log2 < 1920 then some (T.str (Str.ofString (toString (n : Int)))) else none) = _
  rw [if_pos, str_nat]
  show n.log2 < 1920
  by_cases h0 : n = 0
  · rw [h0]; decide
  · refine (Nat.log2_lt h0).mpr (Nat.lt_trans h (by decide +kernel))
theorem gstr {a b : List Nat} (h : a.length + b.length ≤ 1000) : gAdd (tx a) (tx b) = some (tx (a ++ b)) := by
  rw [gAdd_str (by rw [S_len, S_len]; exact small_le h), S_app]
theorem gjoin_one {a : List Nat} (h : a.length ≤ 1000) : gJoin (.str "") (.lst [tx a]) = some (tx a) := by
  show (if ((S a).length + 0) + 1 * (Str.ofString "").length ≤ 16777216 then some (T.str (Txt.join (Str.ofString "") [S a])) else none) = _
  rw [t_none, S_len, S_len, if_pos (by simp; omega), join_one]
theorem gjoin_two {a b : List Nat} (h : a.length + b.length ≤ 1000) : gJoin (.str "") (.lst [tx a, tx b]) = some (tx (a ++ b)) := by
  show (if ((S a).length + ((S b).length + 0)) + 2 * (Str.ofString "").length ≤ 16777216 then some (T.str (Txt.join (Str.ofString "") [S a, S b])) else none) = _
  rw [t_none, S_len, S_len, S_len, if_pos (by simp; omega), join_two]
noncomputable def fgT : FT := (fTB (fOp gGe (fVar 0) (fOp gPow (fC (.int 10)) (fC (.int 36)))))
noncomputable def fgB : FS := (fSeq (fAsg (fCall dDm (fCons (fVar 0) (fCons (fOp gPow (fC (.int 10)) (fC (.int 36))) fNil))) (gnTup (gnCons (gnName 0) (gnCons (gnName 2) gnNil))))
    (fApp 1 (fOp gZf (fCall dStr (fCons (fVar 2) fNil)) (fC (.int 36)))))
theorem pow36 : (fOp gPow (fC (.int 10)) (fC (.int 36))) = fun τ => some (.int 1000000000000000000000000000000000000, τ) := by funext τ; kernel_rfl
theorem fgT_ok (n : Nat) (us : List T) (o : Option Sl) : fgT [s (.int n), some (.own us), o] = some (decide (10 ^ 36 ≤ n), [s (.int n), some (.own us), o]) := by
  unfold fgT
  rw [pow36]
  show some (decide ((1000000000000000000000000000000000000 : Int) ≤ (n : Int)), _) = _
  congr 2
  exact decide_eq_decide.mpr (by omega)
theorem fgB_ok (n : Nat) (h : n < 10 ^ 72) (us : List T) (hu : us.length ≤ 10) (o : Option Sl) : fgB [s (.int n), some (.own us), o] = some (.nx [s (.int ((n / 10 ^ 36 : Nat) : Int)), some (.own (us ++ [tx (List.replicate (36 - (ds (n % 10 ^ 36)).length) 48 ++ ds (n % 10 ^ 36))])), s (.int ((n % 10 ^ 36 : Nat) : Int))]) := by
  have hr : n % 10 ^ 36 < 10 ^ 36 := Nat.mod_lt _ (by decide +kernel)
  have hd : dDm [.int n, .int 1000000000000000000000000000000000000] = some (.tup [.int ((n / 10 ^ 36 : Nat) : Int), .int ((n % 10 ^ 36 : Nat) : Int)]) := by
    show (if CDivB (n : Int) 1000000000000000000000000000000000000 then some (T.tup [.int ((n : Int).fdiv 1000000000000000000000000000000000000), .int ((n : Int).fmod 1000000000000000000000000000000000000)]) else none) = _
    rw [if_pos ⟨by decide, big_B (by decide) (by decide)⟩, Int.fdiv_eq_ediv_of_nonneg _ (by decide), Int.fmod_eq_emod_of_nonneg _ (by decide)]
    rfl
  have hs : dStr [.int ((n % 10 ^ 36 : Nat) : Int)] = some (tx (ds (n % 10 ^ 36))) := dstr_nat (Nat.lt_trans hr (by decide +kernel))
  have hz : gZf (tx (ds (n % 10 ^ 36))) (.int 36) = some (tx (List.replicate (36 - (ds (n % 10 ^ 36)).length) 48 ++ ds (n % 10 ^ 36))) := by
    show (if PadOk 36 = true then some (T.str (Txt.zfill (S (ds (n % 10 ^ 36))) 36)) else none) = _
    rw [if_pos (by decide +kernel), zf_digits (ds_digits _) (ds_ne _) (ds_len 35 _ hr)]
  have hl : us.length < sizeLine := small1000 (by omega)
  unfold fgB
  rw [pow36]
  generalize n % 10 ^ 36 = r at *
  generalize n / 10 ^ 36 = q at *
  generalize (List.replicate (36 - (ds r).length) 48 ++ ds r) = z at *
  clear h hr hu
  walk_at "ev"
end My

namespace My
open PySem PySem.Spec PyProof.Rows L2 TM
theorem while_step {ft : FT} {fb : FS} {n : Nat} {τ τ1 τ2 : TEnv} (h1 : ft τ = some (true, τ1)) (h2 : fb τ1 = some (.nx τ2)) : whileT ft fb (n + 1) τ = whileT ft fb n τ2 := by
  rw [whileT, h1, Option.bind_some, if_pos rfl, h2]
  rfl
theorem fgW_small {n : Nat} (h : n < 10 ^ 36) (us : List T) (o : Option Sl) (k : Nat) : whileT fgT fgB (k + 1) [s (.int n), some (.own us), o] = some (.nx [s (.int n), some (.own us), o]) :=
  while_no (by rw [fgT_ok, decide_eq_false (by omega)]) (by omega)
theorem fg_ok {n : Nat} (h : n < 10 ^ 72) : dFg [.int n] = some (tx (ds n)) := by
  have rest : ∀ (m : Nat) (us : List T) (o : Option Sl) (w : List Nat), m < 10 ^ 36 → us.length ≤ 10 → gJoin (.str "") (.lst (us ++ [tx (ds m)]).reverse) = some (tx w) →
      (fSeq (fApp 1 (fCall dStr (fCons (fVar 0) fNil))) (fRet (fOp gJoin (fC (.str "")) (fRevOwn 1 (fPart (fUn gNeg (fC (.int 1)))))))) [s (.int m), some (.own us), o] = some (.rt (tx w)) := by
    intro m us o w hm hu hj
    have hs : dStr [.int m] = some (tx (ds m)) := dstr_nat (Nat.lt_trans hm (by decide +kernel))
    have hl : us.length < sizeLine := small1000 (by omega)
    have hv : ∀ vs : List T, (fRevOwn 1 (fPart (fUn gNeg (fC (.int 1))))) [s (.int m), some (.own vs), o] = some (.lst vs.reverse, [s (.int m), some (.own vs), o]) := fun _ => rfl
    generalize (fRevOwn 1 (fPart (fUn gNeg (fC (.int 1))))) = fr at *
    clear hu hm
    walk_at "ev"
  show ((fSeq (fSetOwn 1 fNil) (fSeq (whileT fgT fgB 3) (fSeq (fApp 1 (fCall dStr (fCons (fVar 0) fNil))) (fRet (fOp gJoin (fC (.str "")) (fRevOwn 1 (fPart (fUn gNeg (fC (.int 1)))))))))) [s (.int n), none, none]).bind _ = _
  have h0 : fSetOwn 1 fNil [s (.int n), none, none] = some (.nx [s (.int n), some (.own []), none]) := rfl
  by_cases h1 : n < 10 ^ 36
  · have hr := rest n [] none (ds n) h1 (by simp) (by
      show gJoin (.str "") (.lst [tx (ds n)]) = _
      exact gjoin_one (Nat.le_trans (ds_len 35 n h1) (by decide)))
    have hw := fgW_small h1 [] none 2
    unfold fSeq at hr ⊢
    rw [h0, Option.bind_some]
    dsimp only
    rw [hw, Option.bind_some]
    dsimp only
    rw [hr]
    rfl
  · have hq : n / 10 ^ 36 < 10 ^ 36 := by
      rw [Nat.div_lt_iff_lt_mul (by decide +kernel)]
      exact Nat.lt_of_lt_of_le h (by decide +kernel)
    have hq0 : 0 < n / 10 ^ 36 := Nat.div_pos (by omega) (by decide +kernel)
    have hr0 : n % 10 ^ 36 < 10 ^ 36 := Nat.mod_lt _ (by decide +kernel)
    have he : ds n = ds (n / 10 ^ 36) ++ (List.replicate (36 - (ds (n % 10 ^ 36)).length) 48 ++ ds (n % 10 ^ 36)) := by
      have := ds_pad 35 (n / 10 ^ 36) (n % 10 ^ 36) hq0 hr0
      rw [Nat.mul_comm, Nat.div_add_mod] at this
      exact this
    have hL1 := ds_len 35 _ hq
    have hL2 := ds_len 35 _ hr0
    have hb := fgB_ok n h [] (by simp) none
    have hr := rest (n / 10 ^ 36) [tx (List.replicate (36 - (ds (n % 10 ^ 36)).length) 48 ++ ds (n % 10 ^ 36))] (s (.int ((n % 10 ^ 36 : Nat) : Int))) (ds n) hq (by simp) (by
      show gJoin (.str "") (.lst [tx (ds (n / 10 ^ 36)), tx (List.replicate (36 - (ds (n % 10 ^ 36)).length) 48 ++ ds (n % 10 ^ 36))]) = _
      rw [he]
      refine gjoin_two ?_
      rw [List.length_append, List.length_replicate]
      omega)
    have hw : whileT fgT fgB 3 [s (.int n), some (.own []), none] = some (.nx [s (.int ((n / 10 ^ 36 : Nat) : Int)), some (.own ([] ++ [tx (List.replicate (36 - (ds (n % 10 ^ 36)).length) 48 ++ ds (n % 10 ^ 36))])), s (.int ((n % 10 ^ 36 : Nat) : Int))]) := by
      rw [while_step (by rw [fgT_ok, decide_eq_true (by omega)]) hb]
      exact fgW_small hq _ _ 1
    unfold fSeq at hr ⊢
    rw [h0, Option.bind_some]
    dsimp only
    rw [hw, Option.bind_some]
    dsimp only
    rw [List.nil_append, hr]
    rfl
noncomputable def shw (a : Int) (b : Nat) : List Nat := (if a < 0 then [45] else []) ++ (ds a.natAbs ++ if b = 1 then [] else 47 :: ds b)
noncomputable abbrev frc (a : Int) (b : Nat) : T := .tup [.int a, .int b]
noncomputable abbrev dSf : List T → Option T := dOf 3 1 (b_show_frac dFg)
noncomputable abbrev dTx : List T → Option T := dOf 1 1 b__law_text
theorem sf_ok {a : Int} {b : Nat} (ha : a.natAbs < 10 ^ 72) (hb : b < 10 ^ 72) : dSf [frc a b] = some (tx (shw a b)) := by
  have h1 := fg_ok ha
  have h2 := fg_ok hb
  have hL1 := ds_len 71 _ ha
  have hL2 := ds_len 71 _ hb
  have h3 := dAbs_nat a
  have h4 : gIx (frc a b) (.int 0) = some (.int a) := rfl
  have h5 : gIx (frc a b) (.int 1) = some (.int b) := rfl
  have h6 : gEq (.int b) (.int 1) = some (.bl (decide (b = 1))) := by
    rw [gEq_int]
    congr 2
    exact decide_eq_decide.mpr (by omega)
  have h7 : gLt (.int a) (.int 0) = some (.bl (decide (a < 0))) := rfl
  show ((fSeq (fSet 1 (fIf (fTB (fOp gLt (fOp gIx (fVar 0) (fC (.int 0))) (fC (.int 0)))) (fC (.str "-")) (fC (.str ""))))
    (fSeq (fSet 2 (fCall dFg (fCons (fCall dAbs (fCons (fOp gIx (fVar 0) (fC (.int 0))) fNil)) fNil)))
    (fSeq (fIfS (fTB (fOp gEq (fOp gIx (fVar 0) (fC (.int 1))) (fC (.int 1)))) (fRet (fOp gAdd (fVar 1) (fVar 2))) fNext)
    (fRet (fOp gAdd (fOp gAdd (fOp gAdd (fVar 1) (fVar 2)) (fC (.str "/"))) (fCall dFg (fCons (fOp gIx (fVar 0) (fC (.int 1))) fNil))))))) [s (frc a b), none, none]).bind _ = _
  rw [t_minus, t_none, t_stroke]
  have hsg : ∃ sg : List Nat, sg.length ≤ 1 ∧ (if a < 0 then ([45] : List Nat) else []) = sg ∧ fIf (fTB (fOp gLt (fOp gIx (fVar 0) (fC (.int 0))) (fC (.int 0)))) (fC (.str (S [45]))) (fC (.str (S []))) [s (frc a b), none, none] = some (tx sg, [s (frc a b), none, none]) := by
    by_cases hn : a < 0
    · refine ⟨[45], by decide, if_pos hn, ?_⟩
      rw [decide_eq_true hn] at h7
      clear h1 h2 hL1 hL2 ha hb h6
      walk_at "ev"
    · refine ⟨[], by decide, if_neg hn, ?_⟩
      rw [decide_eq_false hn] at h7
      clear h1 h2 hL1 hL2 ha hb h6
      walk_at "ev"
  obtain ⟨sg, hsl, hse, hsg⟩ := hsg
  unfold shw
  rw [hse]
  have g1 : gAdd (tx sg) (tx (ds a.natAbs)) = some (tx (sg ++ ds a.natAbs)) := gstr (by omega)
  have g2 : gAdd (tx (sg ++ ds a.natAbs)) (tx [47]) = some (tx ((sg ++ ds a.natAbs) ++ [47])) := gstr (by rw [List.length_append]; simp; omega)
  have g3 : gAdd (tx ((sg ++ ds a.natAbs) ++ [47])) (tx (ds b)) = some (tx (((sg ++ ds a.natAbs) ++ [47]) ++ ds b)) := gstr (by rw [List.length_append, List.length_append]; simp; omega)
  generalize fIf (fTB (fOp gLt (fOp gIx (fVar 0) (fC (.int 0))) (fC (.int 0)))) (fC (.str (S [45]))) (fC (.str (S []))) = fi at *
  generalize dFg = dF at *
  by_cases hb1 : b = 1
  · rw [decide_eq_true hb1] at h6
    rw [if_pos hb1, List.append_nil]
    generalize ds a.natAbs = da at *
    generalize ds b = db at *
    clear h2 hL1 hL2 ha hb hsl hse g2 g3 h7 hb1
    walk_at "ev"
  · rw [decide_eq_false hb1] at h6
    rw [if_neg hb1]
    rw [show sg ++ (ds a.natAbs ++ 47 :: ds b) = ((sg ++ ds a.natAbs) ++ [47]) ++ ds b by simp]
    generalize ds a.natAbs = da at *
    generalize ds b = db at *
    clear hL1 hL2 ha hb hsl hse h7 hb1
    walk_at "ev"
theorem dstr_int {a : Int} (h : a.natAbs < 10 ^ 100) : dStr [.int a] = some (tx ((if a < 0 then [45] else []) ++ ds a.natAbs)) := by
  by_cases hn : a < 0
  · obtain ⟨m, hm⟩ : ∃ m : Nat, a = -((m + 1 : Nat) : Int) := ⟨a.natAbs - 1, by omega⟩
    rw [if_pos hn]
    subst hm
    rw [show (-((m + 1 : Nat) : Int)).natAbs = m + 1 by omega] at h ⊢
    show (if (-((m + 1 : Nat) : Int)).natAbs.log2 < 1920 then some (T.str (Str.ofString (toString (-((m + 1 : Nat) : Int))))) else none) = _
    rw [if_pos, str_neg]
    · rfl
    · rw [show (-((m + 1 : Nat) : Int)).natAbs = m + 1 by omega]
      exact (Nat.log2_lt (by omega)).mpr (Nat.lt_trans h (by decide +kernel))
  · obtain ⟨m, rfl⟩ := Int.eq_ofNat_of_zero_le (show 0 ≤ a by omega)
    rw [if_neg hn]
    exact dstr_nat h
theorem tx_ok {a : Int} {b : Nat} (ha : a.natAbs < 10 ^ 72) (hb : b < 10 ^ 72) : dTx [frc a b] = some (tx (shw a b)) := by
  have h1 := dstr_int (a := a) (Nat.lt_trans ha (by decide +kernel))
  have h2 := dstr_nat (Nat.lt_trans hb (by decide +kernel : 10 ^ 72 < 10 ^ 100))
  have hL1 := ds_len 71 _ ha
  have hL2 := ds_len 71 _ hb
  have h4 : gIx (frc a b) (.int 0) = some (.int a) := rfl
  have h5 : gIx (frc a b) (.int 1) = some (.int b) := rfl
  have h6 : gEq (.int b) (.int 1) = some (.bl (decide (b = 1))) := by
    rw [gEq_int]
    congr 2
    exact decide_eq_decide.mpr (by omega)
  have hsg : ((if a < 0 then [45] else []) : List Nat).length ≤ 1 := by split <;> simp
  unfold shw
  generalize (if a < 0 then [45] else [] : List Nat) = sg at *
  have g2 : gAdd (tx (sg ++ ds a.natAbs)) (tx [47]) = some (tx ((sg ++ ds a.natAbs) ++ [47])) := gstr (by rw [List.length_append]; simp; omega)
  have g3 : gAdd (tx ((sg ++ ds a.natAbs) ++ [47])) (tx (ds b)) = some (tx (((sg ++ ds a.natAbs) ++ [47]) ++ ds b)) := gstr (by rw [List.length_append, List.length_append]; simp; omega)
  show ((fSeq (fIfS (fTB (fOp gEq (fOp gIx (fVar 0) (fC (.int 1))) (fC (.int 1)))) (fRet (fCall dStr (fCons (fOp gIx (fVar 0) (fC (.int 0))) fNil))) fNext)
    (fRet (fOp gAdd (fOp gAdd (fCall dStr (fCons (fOp gIx (fVar 0) (fC (.int 0))) fNil)) (fC (.str "/"))) (fCall dStr (fCons (fOp gIx (fVar 0) (fC (.int 1))) fNil))))) [s (frc a b)]).bind _ = _
  rw [t_stroke]
  generalize dStr = dF at *
  by_cases hb1 : b = 1
  · rw [decide_eq_true hb1] at h6
    rw [if_pos hb1, List.append_nil]
    generalize ds a.natAbs = da at *
    generalize ds b = db at *
    clear h2 hL1 hL2 ha hb hsg g2 g3 hb1
    walk_at "ev"
  · rw [decide_eq_false hb1] at h6
    rw [if_neg hb1]
    rw [show sg ++ (ds a.natAbs ++ 47 :: ds b) = ((sg ++ ds a.natAbs) ++ [47]) ++ ds b by simp]
    generalize ds a.natAbs = da at *
    generalize ds b = db at *
    clear hL1 hL2 ha hb hsg hb1
    walk_at "ev"
noncomputable abbrev dIw : List T → Option T := dOf 1 1 b_is_whole
noncomputable abbrev dIf : List T → Option T := dOf 3 1 (b_is_fraction dIw mCommon)
theorem iw_int (a : Int) : dIw [.int a] = some (.bl true) := by kernel_rfl
theorem if_ok {a : Int} {b : Nat} (ha : a.natAbs < B) (hb : b < B) : dIf [frc a b] = some (.bl (decide (1 ≤ b) && decide (Int.gcd a b = 1))) := by
  have h1 := iw_int a
  have h2 := iw_int (b : Int)
  have h3 := mCommon_eq (a := a) (b := (b : Int)) ha (by simpa using hb)
  have h4 : gGe (.int b) (.int 1) = some (.bl (decide (1 ≤ b))) := by
    show some (T.bl (decide ((1 : Int) ≤ (b : Int)))) = _
    congr 2
    exact decide_eq_decide.mpr (by omega)
  have h5 : gEq (.int (Int.gcd a b : Nat)) (.int 1) = some (.bl (decide (Int.gcd a b = 1))) := by
    rw [gEq_int]
    congr 2
    exact decide_eq_decide.mpr (by omega)
  have e2 : ((2 : Nat) : Int) = 2 := rfl
  unfold dIf dOf b_is_fraction
  generalize dIw = d1 at *
  generalize mCommon = d2 at *
  generalize Int.gcd a b = g at *
  by_cases hb1 : 1 ≤ b
  · rw [decide_eq_true hb1] at h4 ⊢
    rw [Bool.true_and]
    clear ha hb hb1
    walk_at "ev"
  · rw [decide_eq_false hb1] at h4 ⊢
    rw [Bool.false_and]
    clear ha hb hb1
    walk_at "ev"
end My

namespace My
open PySem PySem.Spec PyProof.Rows L2 TM
noncomputable abbrev dNi : List T → Option T := dOf 1 1 b__law_number_in
noncomputable def lead (l : List Nat) : Bool := decide (l.head? = some 48) && decide (1 < l.length)
noncomputable def numT (l : List Nat) : T := if isF l && !lead l then .int (NumText.digitsVal l : Nat) else .non
theorem geq_tx {a b : List Nat} (ha : PyData.strOk (S a) = true) (hb : PyData.strOk (S b) = true) : gEq (tx a) (tx b) = some (.bl (decide (a = b))) ∧ gNe (tx a) (tx b) = some (.bl (!decide (a = b))) := by
  have h : ∀ l, PyData.strOk (S l) = true → SeqAt.shaped (.str (S l)) = true := fun l h => by
    show (PyData.strOk (S l) && decide (_ ≤ 64)) = true
    rw [h]; rfl
  have e : PyData.eqv (.str (S a)) (.str (S b)) = decide (a = b) := by
    show (S a == S b) = _
    rw [Bool.eq_iff_iff, beq_iff_eq, decide_eq_true_eq]
    exact ⟨S_inj, fun e => by rw [e]⟩
  refine ⟨?_, ?_⟩
  · show (if SeqAt.shaped (.str (S a)) = true ∧ SeqAt.shaped (.str (S b)) = true then some (T.bl (PyData.eqv (.str (S a)) (.str (S b)))) else none) = _
    rw [if_pos ⟨h a ha, h b hb⟩, e]
  · show (if SeqAt.shaped (.str (S a)) = true ∧ SeqAt.shaped (.str (S b)) = true then some (T.bl (!PyData.eqv (.str (S a)) (.str (S b)))) else none) = _
    rw [if_pos ⟨h a ha, h b hb⟩, e]
noncomputable def Ok (l : List Nat) : Prop := ∀ c ∈ l, c < 0x110000
theorem Ok.str {l : List Nat} (h : Ok l) : PyData.strOk (S l) = true := by
  unfold PyData.strOk
  simp only [S, List.all_toArray, List.all_eq_true, decide_eq_true_eq]
  exact h
theorem Ok.dig {l : List Nat} (h : NumText.AllDigits l) : Ok l := fun c hc => by have := h c hc; omega
theorem Ok.app {a b : List Nat} (ha : Ok a) (hb : Ok b) : Ok (a ++ b) := fun c hc => by
  rcases List.mem_append.mp hc with h | h
  · exact ha c h
  · exact hb c h
theorem Ok.cons {a : Nat} {b : List Nat} (ha : a < 0x110000) (hb : Ok b) : Ok (a :: b) := fun c hc => by
  rcases List.mem_cons.mp hc with h | h
  · rw [h]; exact ha
  · exact hb c h
theorem Ok.nil : Ok [] := fun c hc => absurd hc List.not_mem_nil
theorem Ok.left {a b : List Nat} (h : Ok (a ++ b)) : Ok a := fun c hc => h c (List.mem_append_left _ hc)
theorem Ok.right {a b : List Nat} (h : Ok (a ++ b)) : Ok b := fun c hc => h c (List.mem_append_right _ hc)
theorem comp_filter {fe : FE} {ft : FT} {p : Nat → Bool} {φ : Nat → T} (h1 : ∀ c, ft [some (.sh (φ c))] = some (p c, [some (.sh (φ c))])) (h2 : ∀ c, fe [some (.sh (φ c))] = some (φ c, [some (.sh (φ c))])) : ∀ (l : List Nat) (u : Option Sl) (acc : List T), allSh [u] = true → acc.length + l.length ≤ sizeLine → compT (gnName 0) ft fe (l.map φ) [u] acc = some (acc ++ (l.filter p).map φ)
  | [], u, acc, _, _ => by simp [compT]
  | c :: l, u, acc, hu, hl => by
    have hl' : acc.length + (l.length + 1) ≤ sizeLine := hl
    rw [List.map_cons, compT, show gnName 0 (φ c) [u] = some [some (.sh (φ c))] from rfl, Option.bind_some, h1, Option.bind_some]
    cases hp : p c with
    | true =>
      rw [if_pos rfl, h2, Option.bind_some, if_pos ⟨rfl, by omega⟩, comp_filter h1 h2 l _ _ rfl (by rw [List.length_append]; simp; omega), List.filter_cons_of_pos hp, List.map_cons, List.append_assoc]
      rfl
    | false =>
      rw [if_neg (by simp), if_pos (show allSh [some (Sl.sh (φ c))] = true from rfl)]
      dsimp only
      rw [comp_filter h1 h2 l _ _ rfl (by omega), List.filter_cons_of_neg (by simp [hp])]
theorem int_dig {l : List Nat} (h : NumText.AllDigits l) (hn : l ≠ []) (hl : l.length ≤ 600) : dInt2 [tx l] = some (.int (NumText.digitsVal l : Nat)) := by
  show (if (S l).length ≤ 640 then (PySem.intText? (S l)).map T.int else none) = _
  rw [S_len, if_pos (by omega), PySem.intText_digits (by rw [S_list]; exact h) (by rw [S_list]; exact hn) (by rw [S_len]; omega), S_list]
  rfl
theorem int_neg {l : List Nat} (h : NumText.AllDigits l) (hn : l ≠ []) (hl : l.length ≤ 600) : dInt2 [tx (45 :: l)] = some (.int (-(NumText.digitsVal l : Nat))) := by
  show (if (S (45 :: l)).length ≤ 640 then (PySem.intText? (S (45 :: l))).map T.int else none) = _
  rw [S_len, if_pos (by simp; omega), PySem.intText_neg (cs := l) (by rw [S_list]) h hn (by rw [S_len]; simp; omega)]
  rfl
theorem ni_ok {l : List Nat} (ho : Ok l) (h : l.length ≤ 900) : dNi [tx l] = some (numT l) := by
  have hlen := len_S (l := l) (by omega)
  have he := (geq_tx ho.str Ok.nil.str).1
  have hcomp : (fComp 1 [] (fiStr (fVar 0)) (gnName 0) (fTB (fOp gNotInS (fVar 0) (fC (.str "0123456789")))) (fVar 0)) [s (tx l)] = some (.lst ((l.filter fun c => !isD c).map fun c => .str ⟨#[c]⟩), [s (tx l)]) := by
    show (compT (gnName 0) (fTB (fOp gNotInS (fVar 0) (fC (.str "0123456789")))) (fVar 0) (signsT (S l)) [none] []).bind _ = _
    rw [signs_S, comp_filter (p := fun c => !isD c) (fun c => ?_) (fun c => rfl) l none [] rfl (by simpa using small_le (by omega))]
    · rfl
    · show ((fOp gNotInS (fVar 0) (fC (.str "0123456789"))) [s (.str ⟨#[c]⟩)]).bind _ = _
      rw [op_q rfl rfl (in_figs c).2]
      rfl
  have hl2 : dLen [.lst ((l.filter fun c => !isD c).map fun c => .str ⟨#[c]⟩)] = some (.int ((l.filter fun c => !isD c).length : Nat)) := by
    show some (T.int (((l.filter fun c => !isD c).map fun c => T.str ⟨#[c]⟩).length : Nat)) = _
    rw [List.length_map]
  have hg1 : gGt (.int (l.length : Nat)) (.int 30) = some (.bl (decide (30 < l.length))) := by
    show some (T.bl (decide ((30 : Int) < (l.length : Nat)))) = _
    congr 2
    exact decide_eq_decide.mpr (by omega)
  have hg2 : gGt (.int ((l.filter fun c => !isD c).length : Nat)) (.int 0) = some (.bl (!l.all isD)) := by
    show some (T.bl (decide ((0 : Int) < ((l.filter fun c => !isD c).length : Nat)))) = _
    congr 2
    rw [Bool.eq_iff_iff, decide_eq_true_eq, Bool.not_eq_true', ← Bool.not_eq_true, List.all_eq_true]
    constructor
    · intro h1 h2
      have : l.filter (fun c => !isD c) = [] := by
        rw [List.filter_eq_nil_iff]
        intro a ha
        simp [h2 a ha]
      rw [this] at h1
      simp at h1
    · intro h1
      have : l.filter (fun c => !isD c) ≠ [] := fun e => h1 fun c hc => by
        rw [List.filter_eq_nil_iff] at e
        simpa using e c hc
      have := List.length_pos_iff.mpr this
      omega
  have hg3 : gGt (.int (l.length : Nat)) (.int 1) = some (.bl (decide (1 < l.length))) := by
    show some (T.bl (decide ((1 : Int) < (l.length : Nat)))) = _
    congr 2
    exact decide_eq_decide.mpr (by omega)
  show ((fSeq (fIfS (fOr (fTB (fOp gEq (fVar 0) (fC (.str "")))) (fOr (fTB (fOp gGt (fCall dLen (fCons (fVar 0) fNil)) (fC (.int 30)))) (fTB (fOp gGt (fCall dLen (fCons (fComp 1 [] (fiStr (fVar 0)) (gnName 0) (fTB (fOp gNotInS (fVar 0) (fC (.str "0123456789")))) (fVar 0)) fNil)) (fC (.int 0)))))) (fRet (fC .non)) fNext)
    (fSeq (fIfS (fAnd (fTB (fOp gEq (fOp gIx (fVar 0) (fC (.int 0))) (fC (.str "0")))) (fTB (fOp gGt (fCall dLen (fCons (fVar 0) fNil)) (fC (.int 1))))) (fRet (fC .non)) fNext)
    (fRet (fCall dInt2 (fCons (fVar 0) fNil))))) [s (tx l)]).bind _ = _
  rw [t_none, t_nought]
  generalize dLen = dL at *
  generalize (fComp 1 [] (fiStr (fVar 0)) (gnName 0) (fTB (fOp gNotInS (fVar 0) (fC (.str "0123456789")))) (fVar 0)) = fm at *
  generalize ((l.filter fun c => !isD c).map fun c => T.str ⟨#[c]⟩) = fl at *
  generalize (l.filter fun c => !isD c).length = fn at *
  cases hf : isF l with
  | false =>
    have hnum : numT l = .non := by unfold numT; rw [hf]; rfl
    rw [hnum]
    by_cases c1 : l = []
    · rw [decide_eq_true c1] at he
      clear c1 hcomp hl2 hg1 hg2 hg3 hlen
      walk_at "ev"
    · rw [decide_eq_false c1] at he
      by_cases c2 : 30 < l.length
      · rw [decide_eq_true c2] at hg1
        clear hcomp hl2 hg2 hg3
        walk_at "ev"
      · rw [decide_eq_false c2] at hg1
        have c3 : l.all isD = false := by
          unfold isF at hf
          have : 1 ≤ l.length := by cases l with | nil => exact absurd rfl c1 | cons a b => simp
          rw [decide_eq_true this, decide_eq_true (by omega : l.length ≤ 30), Bool.true_and, Bool.true_and] at hf
          exact hf
        rw [c3] at hg2
        clear hg3 c3 hf
        walk_at "ev"
  | true =>
    obtain ⟨⟨c1, c2⟩, c3⟩ := isF_iff.mp hf
    rw [decide_eq_false c1] at he
    rw [decide_eq_false (by omega : ¬ 30 < l.length)] at hg1
    have c4 : l.all isD = true := by
      unfold isF at hf
      simp only [Bool.and_eq_true] at hf
      exact hf.2
    rw [c4] at hg2
    have hint := int_dig c3 c1 (by omega)
    obtain ⟨d, r, hd⟩ : ∃ d r, l = d :: r := by cases l with | nil => exact absurd rfl c1 | cons a b => exact ⟨a, b, rfl⟩
    have hix : gIx (tx l) (.int 0) = some (tx [d]) := by
      show (if (S l).length ≤ sizeLine then (atI (S l).cps.toList 0).map fun c => T.str ⟨#[c]⟩ else none) = _
      rw [S_len, if_pos (small_le (by omega)), S_list, hd, show (0 : Int) = ((0 : Nat) : Int) from rfl, atI_nat (v := d) rfl]
      rfl
    have he2 : gEq (tx [d]) (tx [48]) = some (.bl (decide (d = 48))) := by
      have ho1 : Ok [d] := fun c hc => ho c (by rw [hd]; simp at hc; simp [hc])
      rw [(geq_tx ho1.str (Ok.cons (by decide) Ok.nil).str).1]
      congr 2
      exact decide_eq_decide.mpr (by simp)
    have hld : lead l = (decide (d = 48) && decide (1 < l.length)) := by
      unfold lead
      rw [hd]
      congr 1
      exact decide_eq_decide.mpr (by simp)
    unfold numT
    rw [hf, hld, Bool.true_and]
    generalize NumText.digitsVal l = v at *
    generalize dInt2 = d9 at *
    by_cases c5 : d = 48
    · rw [decide_eq_true c5] at he2 ⊢
      by_cases c6 : 1 < l.length
      · rw [decide_eq_true c6] at hg3 ⊢
        clear c5 hf hld c4 c2 c6 hd
        walk_at "ev"
        try rfl
      · rw [decide_eq_false c6] at hg3 ⊢
        clear c5 hf hld c4 c2 c6 hd
        walk_at "ev"
        try rfl
    · rw [decide_eq_false c5] at he2 ⊢
      clear c5 hf hld c4 c2 hd hg3
      walk_at "ev"
      try rfl
end My

namespace My
open PySem PySem.Spec PyProof.Rows L2 TM
structure Rd (l a : List Nat) (neg : Bool) (p m b : List Nat) : Prop where
  ok : Ok l
  len : l.length ≤ 800
  head : a = (if neg then 45 :: p else p)
  hp : neg = false → p.head? ≠ some 45
  no : 47 ∉ a
  cs : (m = [] ∧ b = [] ∧ l = a) ∨ (m = [47] ∧ l = a ++ 47 :: b)
theorem split47 : ∀ l : List Nat, 47 ∈ l → ∃ a b, l = a ++ 47 :: b ∧ 47 ∉ a
  | [], h => absurd h List.not_mem_nil
  | c :: r, h => by
    by_cases hc : c = 47
    · exact ⟨[], r, by rw [hc]; rfl, List.not_mem_nil⟩
    · have h' : 47 ∈ r := by
        rcases List.mem_cons.mp h with h | h
        · exact absurd h.symm hc
        · exact h
      obtain ⟨a, b, e, hn⟩ := split47 r h'
      exact ⟨c :: a, b, by rw [e]; rfl, fun hm => by
        rcases List.mem_cons.mp hm with h | h
        · exact hc h.symm
        · exact hn h⟩
theorem rd_ex {l : List Nat} (ho : Ok l) (hl : l.length ≤ 800) : ∃ a neg p m b, Rd l a neg p m b := by
  have hd : ∀ a : List Nat, ∃ neg p, a = (if neg then 45 :: p else p) ∧ (neg = false → p.head? ≠ some 45) := fun a => by
    by_cases h : a.head? = some 45
    · cases a with
      | nil => cases h
      | cons c r =>
        simp at h
        exact ⟨true, r, by rw [h]; rfl, fun e => by cases e⟩
    · exact ⟨false, a, rfl, fun _ => h⟩
  by_cases h : 47 ∈ l
  · obtain ⟨a, b, e, hn⟩ := split47 l h
    obtain ⟨neg, p, h1, h2⟩ := hd a
    exact ⟨a, neg, p, [47], b, ho, hl, h1, h2, hn, .inr ⟨rfl, e⟩⟩
  · obtain ⟨neg, p, h1, h2⟩ := hd l
    exact ⟨l, neg, p, [], [], ho, hl, h1, h2, h, .inl ⟨rfl, rfl, rfl⟩⟩
section
variable {l a p m b : List Nat} {neg : Bool}
theorem Rd.okA (h : Rd l a neg p m b) : Ok a := by
  rcases h.cs with ⟨_, _, e⟩ | ⟨_, e⟩
  · rw [← e]; exact h.ok
  · have := h.ok; rw [e] at this; exact this.left
theorem Rd.okB (h : Rd l a neg p m b) : Ok b := by
  rcases h.cs with ⟨_, e, _⟩ | ⟨_, e⟩
  · rw [e]; exact Ok.nil
  · have := h.ok; rw [e] at this; exact fun c hc => this.right c (List.mem_cons_of_mem _ hc)
theorem Rd.okP (h : Rd l a neg p m b) : Ok p := by
  have := h.okA
  rw [h.head] at this
  cases neg with
  | true => exact fun c hc => this c (List.mem_cons_of_mem _ hc)
  | false => exact this
theorem Rd.okM (h : Rd l a neg p m b) : Ok m := by
  rcases h.cs with ⟨e, _, _⟩ | ⟨e, _⟩
  · rw [e]; exact Ok.nil
  · rw [e]; exact Ok.cons (by decide) Ok.nil
theorem Rd.lenA (h : Rd l a neg p m b) : a.length ≤ 800 := by
  have := h.len
  rcases h.cs with ⟨_, _, e⟩ | ⟨_, e⟩
  · rw [← e]; exact this
  · rw [e, List.length_append] at this; omega
theorem Rd.lenB (h : Rd l a neg p m b) : b.length ≤ 800 := by
  have := h.len
  rcases h.cs with ⟨_, e, _⟩ | ⟨_, e⟩
  · rw [e]; simp
  · rw [e, List.length_append, List.length_cons] at this; omega
theorem Rd.lenP (h : Rd l a neg p m b) : p.length ≤ 800 := by
  have := h.lenA
  rw [h.head] at this
  cases neg with
  | true => simp at this; omega
  | false => exact this
theorem Rd.part (h : Rd l a neg p m b) : gPart (tx l) (tx [47]) = some (.tup [tx a, tx m, tx b]) := by
  show (if ((S [47]).length == 0) = false ∧ (S l).length ≤ sizeLine then some (T.tup [.str (Txt.partition (S l) (S [47])).1, .str (Txt.partition (S l) (S [47])).2.1, .str (Txt.partition (S l) (S [47])).2.2]) else none) = _
  rw [if_pos ⟨by rw [S_len]; rfl, by rw [S_len]; exact small_le (by have := h.len; omega)⟩]
  rcases h.cs with ⟨e1, e2, e3⟩ | ⟨e1, e2⟩
  · rw [part_no (by rw [e3]; exact h.no), e1, e2, e3]
  · rw [e2, part_yes h.no, e1]
theorem Rd.rmp (h : Rd l a neg p m b) : gRmp (tx a) (tx [45]) = some (tx p) := by
  show (if (S a).length ≤ sizeLine then some (T.str (Txt.removeprefix (S a) (S [45]))) else none) = _
  rw [if_pos (by rw [S_len]; exact small_le (by have := h.lenA; omega)), h.head]
  cases hn : neg with
  | true => rw [if_pos rfl, rmp_minus]
  | false => rw [if_neg (by decide), rmp_other (h.hp hn)]
noncomputable abbrev dDu : List T → Option T := dOf 7 1 (b__law_due dNi mFrac)
noncomputable def nt (neg : Bool) : Int := if neg then -1 else 1
noncomputable def btT (m b : List Nat) : T := if m = [] then .int 1 else numT b
noncomputable def duC : FS := (fIfS (fTB (fOp gEq (fSlS (fVar 1) fNoPart (fPart (fC (.int 1)))) (fC (.str (S [45]))))) (fSeq (fSet 4 (fUn gNeg (fC (.int 1))))
    (fSet 1 (fSlS (fVar 1) (fPart (fC (.int 1))) fNoPart))) fNext)
theorem duC_ok (h : Rd l a neg p m b) : duC [s (tx l), s (tx a), s (tx m), s (tx b), s (.int 1), none, none] = some (.nx [s (tx l), s (tx p), s (tx m), s (tx b), s (.int (nt neg)), none, none]) := by
  have hz : (S a).length ≤ sizeLine := by rw [S_len]; exact small_le (by have := h.lenA; omega)
  have h1 : (fSlS (fVar 1) fNoPart (fPart (fC (.int 1)))) [s (tx l), s (tx a), s (tx m), s (tx b), s (.int 1), none, none] = some (tx (a.take 1), [s (tx l), s (tx a), s (tx m), s (tx b), s (.int 1), none, none]) := by
    show (if (S a).length ≤ sizeLine then some (T.str (Txt.slice (S a) none (some 1)), _) else none) = _
    rw [if_pos hz, sl_first]
  have ok1 : Ok (a.take 1) := fun c hc => h.okA c (List.mem_of_mem_take hc)
  have h2 := (geq_tx ok1.str (Ok.cons (by decide : 45 < 0x110000) Ok.nil).str).1
  have h0 := h.head
  unfold duC
  cases hn : neg with
  | true =>
    rw [hn, if_pos rfl] at h0
    subst h0
    have h3 : (fSlS (fVar 1) (fPart (fC (.int 1))) fNoPart) [s (tx l), s (tx (45 :: p)), s (tx m), s (tx b), s (.int (-1)), none, none] = some (tx p, [s (tx l), s (tx (45 :: p)), s (tx m), s (tx b), s (.int (-1)), none, none]) := by
      show (if (S (45 :: p)).length ≤ sizeLine then some (T.str (Txt.slice (S (45 :: p)) (some 1) none), _) else none) = _
      rw [if_pos hz, sl_rest]
    rw [decide_eq_true (by rfl)] at h2
    have hnt : nt true = -1 := rfl
    generalize (fSlS (fVar 1) fNoPart (fPart (fC (.int 1)))) = f1 at *
    generalize (fSlS (fVar 1) (fPart (fC (.int 1))) fNoPart) = f2 at *
    generalize List.take 1 (45 :: p) = q at *
    clear hz ok1 h
    walk_at "ev"
  | false =>
    rw [hn, if_neg (by decide)] at h0
    subst h0
    have : ¬ a.take 1 = [45] := fun e => h.hp hn (by cases a with | nil => simp at e | cons c r => simp at e; rw [e]; rfl)
    rw [decide_eq_false this] at h2
    have hnt : nt false = 1 := rfl
    generalize (fSlS (fVar 1) fNoPart (fPart (fC (.int 1)))) = f1 at *
    generalize List.take 1 a = q at *
    clear hz ok1 h this
    walk_at "ev"
noncomputable def duG : FS := (fSeq (fIfS (fOr (fTB (fOp gIs (fVar 5) (fC .non))) (fOr (fTB (fOp gIs (fVar 6) (fC .non))) (fOr (fTB (fOp gEq (fVar 6) (fC (.int 0)))) (fOr (fAnd (fTB (fOp gEq (fVar 6) (fC (.int 1)))) (fTB (fOp gNe (fVar 2) (fC (.str (S [])))))) (fAnd (fTB (fOp gEq (fVar 5) (fC (.int 0)))) (fTB (fOp gLt (fVar 4) (fC (.int 0))))))))) (fRet (fC .non)) fNext)
    (fSeq (fIfS (fTB (fOp gNe (fCall mFrac (fCons (fOp gMulI (fVar 4) (fVar 5)) (fCons (fVar 6) fNil))) (fTup (fCons (fOp gMulI (fVar 4) (fVar 5)) (fCons (fVar 6) fNil))))) (fRet (fC .non)) fNext)
    (fRet (fTup (fCons (fOp gMulI (fVar 4) (fVar 5)) (fCons (fVar 6) fNil))))))
theorem du_eq (h : Rd l a neg p m b) : dDu [tx l] = (duG [s (tx l), s (tx p), s (tx m), s (tx b), s (.int (nt neg)), s (numT p), s (btT m b)]).bind fun r => match r with
    | .rt t => some t
    | .nx _ => some .non
    | _ => none := by
  have h1 := h.part
  have h2 := duC_ok h
  have h3 := ni_ok h.okP (by have := h.lenP; omega)
  have h4 := ni_ok h.okB (by have := h.lenB; omega)
  have h5 := (geq_tx h.okM.str Ok.nil.str).2
  have hg : (gnSeq (gnCons (gnName 1) (gnCons (gnName 2) (gnCons (gnName 3) gnNil)))) (.tup [tx a, tx m, tx b]) [s (tx l), none, none, none, none, none, none] = some [s (tx l), s (tx a), s (tx m), s (tx b), none, none, none] := rfl
  have hbt : btT m b = if m = [] then .int 1 else numT b := rfl
  show ((fSeq (fAsg (fOp gPart (fVar 0) (fC (.str "/"))) (gnSeq (gnCons (gnName 1) (gnCons (gnName 2) (gnCons (gnName 3) gnNil)))))
    (fSeq (fSet 4 (fC (.int 1)))
    (fSeq (fIfS (fTB (fOp gEq (fSlS (fVar 1) fNoPart (fPart (fC (.int 1)))) (fC (.str "-")))) (fSeq (fSet 4 (fUn gNeg (fC (.int 1))))
    (fSet 1 (fSlS (fVar 1) (fPart (fC (.int 1))) fNoPart))) fNext)
    (fSeq (fSet 5 (fCall dNi (fCons (fVar 1) fNil)))
    (fSeq (fSet 6 (fC (.int 1)))
    (fSeq (fIfS (fTB (fOp gNe (fVar 2) (fC (.str "")))) (fSet 6 (fCall dNi (fCons (fVar 3) fNil))) fNext)
    (fSeq (fIfS (fOr (fTB (fOp gIs (fVar 5) (fC .non))) (fOr (fTB (fOp gIs (fVar 6) (fC .non))) (fOr (fTB (fOp gEq (fVar 6) (fC (.int 0)))) (fOr (fAnd (fTB (fOp gEq (fVar 6) (fC (.int 1)))) (fTB (fOp gNe (fVar 2) (fC (.str ""))))) (fAnd (fTB (fOp gEq (fVar 5) (fC (.int 0)))) (fTB (fOp gLt (fVar 4) (fC (.int 0))))))))) (fRet (fC .non)) fNext)
    (fSeq (fIfS (fTB (fOp gNe (fCall mFrac (fCons (fOp gMulI (fVar 4) (fVar 5)) (fCons (fVar 6) fNil))) (fTup (fCons (fOp gMulI (fVar 4) (fVar 5)) (fCons (fVar 6) fNil))))) (fRet (fC .non)) fNext)
    (fRet (fTup (fCons (fOp gMulI (fVar 4) (fVar 5)) (fCons (fVar 6) fNil)))))))))))) [s (tx l), none, none, none, none, none, none]).bind _ = _
  rw [t_stroke, t_minus, t_none]
  show ((fSeq (fAsg (fOp gPart (fVar 0) (fC (.str (S [47])))) (gnSeq (gnCons (gnName 1) (gnCons (gnName 2) (gnCons (gnName 3) gnNil)))))
    (fSeq (fSet 4 (fC (.int 1))) (fSeq duC (fSeq (fSet 5 (fCall dNi (fCons (fVar 1) fNil))) (fSeq (fSet 6 (fC (.int 1)))
    (fSeq (fIfS (fTB (fOp gNe (fVar 2) (fC (.str (S []))))) (fSet 6 (fCall dNi (fCons (fVar 3) fNil))) fNext) duG)))))) [s (tx l), none, none, none, none, none, none]).bind _ = _
  generalize (gnSeq (gnCons (gnName 1) (gnCons (gnName 2) (gnCons (gnName 3) gnNil)))) = gq at *
  generalize duC = fC1 at *
  generalize duG = fG1 at *
  generalize dNi = d1 at *
  rw [hbt]
  clear hbt
  generalize numT p = up at *
  generalize numT b = ub at *
  generalize nt neg = nn at *
  by_cases hm : m = []
  · rw [decide_eq_true hm] at h5
    rw [if_pos hm]
    clear hm h4 h
    walk_at "ev"
    try rfl
  · rw [decide_eq_false hm] at h5
    rw [if_neg hm]
    clear hm h
    walk_at "ev"
    try rfl
end
end My

namespace My
open PySem PySem.Spec PyProof.Rows L2 TM
section
variable {l a p m b : List Nat} {neg : Bool}
noncomputable def numO (l : List Nat) : Option Nat := if isF l && !lead l then some (NumText.digitsVal l) else none
theorem numT_o (l : List Nat) : numT l = match numO l with | some n => .int (n : Nat) | none => .non := by
  unfold numT numO
  split <;> rfl
noncomputable def botO (m b : List Nat) : Option Nat := if m = [] then some 1 else numO b
theorem btT_o (m b : List Nat) : btT m b = match botO m b with | some n => .int (n : Nat) | none => .non := by
  unfold btT botO
  split
  · rfl
  · exact numT_o b
noncomputable def dueV (neg : Bool) (p m b : List Nat) : Option (Int × Nat) := match numO p, botO m b with
  | some t, some bt => if bt = 0 ∨ (bt = 1 ∧ m ≠ []) ∨ (t = 0 ∧ neg = true) ∨ Int.gcd (nt neg * t) bt ≠ 1 then none else some (nt neg * t, bt)
  | _, _ => none
noncomputable def dueT : Option (Int × Nat) → T
  | some (x, b) => frc x b
  | none => .non
theorem val_lt : ∀ (k : Nat) {l : List Nat}, NumText.AllDigits l → l.length ≤ k → NumText.digitsVal l < 10 ^ k := by
  have key : ∀ (l : List Nat) (acc : Nat), NumText.AllDigits l → l.foldl (fun acc c => acc * 10 + (c - 48)) acc < (acc + 1) * 10 ^ l.length := by
    intro l
    induction l with
    | nil => intro acc _; simp
    | cons c r ih =>
      intro acc h
      have hc := h.head
      refine Nat.lt_of_lt_of_le (ih (acc * 10 + (c - 48)) h.tail) ?_
      rw [List.length_cons, Nat.pow_succ, ← Nat.mul_assoc]
      have : acc * 10 + (c - 48) + 1 ≤ (acc + 1) * 10 := by omega
      calc (acc * 10 + (c - 48) + 1) * 10 ^ r.length ≤ ((acc + 1) * 10) * 10 ^ r.length := Nat.mul_le_mul_right _ this
        _ = (acc + 1) * 10 ^ r.length * 10 := by rw [Nat.mul_assoc, Nat.mul_assoc, Nat.mul_comm 10]
  intro k l h hl
  have := key l 0 h
  refine Nat.lt_of_lt_of_le this ?_
  rw [Nat.zero_add, Nat.one_mul]
  exact Nat.pow_le_pow_right (by decide) hl
theorem numO_lt {n : Nat} (h : numO l = some n) : n < 10 ^ 30 ∧ isF l = true ∧ lead l = false ∧ n = NumText.digitsVal l := by
  unfold numO at h
  split at h
  · next hc =>
    cases h
    simp only [Bool.and_eq_true, Bool.not_eq_true'] at hc
    obtain ⟨⟨_, h2⟩, h3⟩ := isF_iff.mp hc.1
    exact ⟨val_lt 30 h3 h2, hc.1, hc.2, rfl⟩
  · cases h
theorem botO_lt {n : Nat} (h : botO m b = some n) : n < 10 ^ 30 := by
  unfold botO at h
  split at h
  · cases h; decide
  · exact (numO_lt h).1
theorem frT_ne {x : Int} {b : Nat} (hb : b ≠ 0) : gNe (frT x b) (frc x b) = some (.bl (decide (Int.gcd x b ≠ 1))) := by
  have e : ∀ c d : Int, gNe (.tup [.int c, .int d]) (frc x b) = some (.bl (!(decide (c = x) && decide (d = b)))) := fun c d => by
    have e : gNe (.tup [.int c, .int d]) (.tup [.int x, .int b]) = some (.bl (!((c == x) && ((d == (b : Int)) && true)))) := rfl
    rw [e, Bool.and_true, Bool.beq_eq_decide_eq, Bool.beq_eq_decide_eq]
  unfold frT
  rw [e]
  have hs : sg x b = (Int.gcd x b : Int) := by unfold sg; rw [if_neg (by omega)]
  rw [hs]
  congr 2
  by_cases h : Int.gcd x b = 1
  · rw [h]
    simp
  · have h0 : Int.gcd x b ≠ 0 := fun z => gcd_ne (a := x) (b := b) (by omega) (by rw [z]; rfl)
    rw [decide_eq_true h]
    have : ¬ ((b : Int).fdiv (Int.gcd x b : Int) = (b : Int)) := by
      rw [Int.fdiv_eq_ediv_of_nonneg _ (by omega)]
      intro z
      have z' : b / Int.gcd x b = b := by exact_mod_cast z
      have := Nat.div_lt_self (n := b) (k := Int.gcd x b) (by omega) (by omega)
      omega
    rw [decide_eq_false this, Bool.and_false]
    rfl
theorem du_ok (h : Rd l a neg p m b) : dDu [tx l] = some (dueT (dueV neg p m b)) := by
  rw [du_eq h, numT_o, btT_o]
  have h5 := (geq_tx h.okM.str Ok.nil.str).2
  unfold dueV
  cases e1 : numO p with
  | none =>
    dsimp only
    generalize (match botO m b with | some n => T.int (n : Nat) | none => .non) = ub
    have hi : gIs .non .non = some (.bl true) := rfl
    unfold duG
    clear h5 h e1
    walk_at "ev"
    rfl
  | some t =>
    cases e2 : botO m b with
    | none =>
      dsimp only
      have hi : gIs .non .non = some (.bl true) := rfl
      have hj : gIs (.int t) .non = some (.bl false) := rfl
      unfold duG
      clear h5 h e1 e2
      walk_at "ev"
      rfl
    | some bt =>
      dsimp only
      have b1 := (numO_lt e1).1
      have b2 := botO_lt e2
      have hi : ∀ i : Int, gIs (.int i) .non = some (.bl false) := fun _ => rfl
      have hz : ∀ n : Nat, gEq (.int n) (.int 0) = some (.bl (decide (n = 0))) := fun n => by
        rw [gEq_int]; congr 2; exact decide_eq_decide.mpr (by omega)
      have ho : ∀ n : Nat, gEq (.int n) (.int 1) = some (.bl (decide (n = 1))) := fun n => by
        rw [gEq_int]; congr 2; exact decide_eq_decide.mpr (by omega)
      have hz1 := hz bt
      have hz2 := hz t
      have ho1 := ho bt
      have hl : gLt (.int (nt neg)) (.int 0) = some (.bl neg) := by cases neg <;> rfl
      have hnb : (nt neg).natAbs < B := by cases neg <;> exact small_B (by decide) (by decide)
      have htb : (t : Int).natAbs < B := big_B (by omega) (by have : (10 : Int) ^ 100 = 10 ^ 30 * 10 ^ 70 := by decide +kernel
                                                              have : (t : Int) < 10 ^ 30 := by exact_mod_cast b1
                                                              omega)
      have hm1 : gMulI (.int (nt neg)) (.int t) = some (.int (nt neg * t)) := if_pos ⟨hnb, htb⟩
      have hf1 : bt ≠ 0 → mFrac [.int (nt neg * t), .int bt] = some (frT (nt neg * t) bt) := fun hb => mFrac_eq (by cases neg <;> simp [nt] <;> simpa using htb) (big_B (by omega) (by
        have : (10 : Int) ^ 100 = 10 ^ 30 * 10 ^ 70 := by decide +kernel
        have : (bt : Int) < 10 ^ 30 := by exact_mod_cast b2
        omega)) (by omega)
      have hf2 := fun hb : bt ≠ 0 => frT_ne (x := nt neg * t) hb
      unfold duG
      clear hz ho htb hnb e1 e2 h b1 b2
      generalize mFrac = mF at *
      generalize nt neg * (t : Int) = x at *
      generalize nt neg = nn at *
      generalize Int.gcd x bt = g at *
      by_cases c1 : bt = 0
      · rw [decide_eq_true c1] at hz1
        rw [if_pos (.inl c1)]
        clear c1 hf1 hf2
        walk_at "ev"
        rfl
      · rw [decide_eq_false c1] at hz1
        have hf1 := hf1 c1
        have hf2 := hf2 c1
        generalize frT x bt = fr at *
        by_cases c2 : bt = 1 ∧ m ≠ []
        · rw [if_pos (.inr (.inl c2))]
          rw [decide_eq_true c2.1] at ho1
          rw [decide_eq_false c2.2] at h5
          clear c2 c1 hf1 hf2
          walk_at "ev"
          rfl
        · have hA : ∀ τ : TEnv, τ = [s (tx l), s (tx p), s (tx m), s (tx b), s (.int nn), s (.int t), s (.int bt)] → (fAnd (fTB (fOp gEq (fVar 6) (fC (.int 1)))) (fTB (fOp gNe (fVar 2) (fC (.str (S [])))))) τ = some (false, τ) := by
            intro τ hτ
            subst hτ
            by_cases c3 : bt = 1
            · have c4 : m = [] := Classical.byContradiction fun z => c2 ⟨c3, z⟩
              rw [decide_eq_true c3] at ho1
              rw [decide_eq_true c4] at h5
              clear c2 c1 c3 c4 hf1 hf2
              walk_at "ev"
              try rfl
            · rw [decide_eq_false c3] at ho1
              clear c2 c1 c3 hf1 hf2 h5
              walk_at "ev"
              try rfl
          have hA := hA _ rfl
          generalize (fAnd (fTB (fOp gEq (fVar 6) (fC (.int 1)))) (fTB (fOp gNe (fVar 2) (fC (.str (S [])))))) = fA at *
          by_cases c3 : t = 0 ∧ neg = true
          · rw [if_pos (.inr (.inr (.inl c3)))]
            rw [decide_eq_true c3.1] at hz2
            rw [c3.2] at hl
            clear c3 c2 c1 hf1 hf2 ho1 h5
            walk_at "ev"
            rfl
          · have hB : ∀ τ : TEnv, τ = [s (tx l), s (tx p), s (tx m), s (tx b), s (.int nn), s (.int t), s (.int bt)] → (fAnd (fTB (fOp gEq (fVar 5) (fC (.int 0)))) (fTB (fOp gLt (fVar 4) (fC (.int 0))))) τ = some (false, τ) := by
              intro τ hτ
              subst hτ
              by_cases c4 : t = 0
              · have c5 : neg = false := by cases neg with | false => rfl | true => exact absurd ⟨c4, rfl⟩ c3
                rw [decide_eq_true c4] at hz2
                rw [c5] at hl
                clear c3 c2 c1 c4 c5 hf1 hf2 h5 ho1
                walk_at "ev"
                try rfl
              · rw [decide_eq_false c4] at hz2
                clear c3 c2 c1 c4 hf1 hf2 h5 ho1
                walk_at "ev"
                try rfl
            have hB := hB _ rfl
            generalize (fAnd (fTB (fOp gEq (fVar 5) (fC (.int 0)))) (fTB (fOp gLt (fVar 4) (fC (.int 0))))) = fB at *
            by_cases c4 : g = 1
            · rw [if_neg (by
                rintro (z | z | z | z)
                · exact c1 z
                · exact c2 z
                · exact c3 z
                · exact z c4)]
              rw [decide_eq_false (by simp [c4])] at hf2
              clear c1 c2 c3 c4 hz2 hl ho1 h5
              walk_at "ev"
              rfl
            · rw [if_pos (.inr (.inr (.inr c4)))]
              rw [decide_eq_true c4] at hf2
              clear c1 c2 c3 c4 hz2 hl ho1 h5
              walk_at "ev"
              rfl
end
end My

namespace My
open PySem PySem.Spec PyProof.Rows L2 TM
noncomputable abbrev dRf : List T → Option T := dOf 5 1 (b_read_frac dFi dIf dSf)
noncomputable abbrev dRfX : List T → Option XI := dOfX 5 1 (bx_read_frac 100 dFi dIf dSf)
theorem ds_notin (n : Nat) : 47 ∉ ds n ∧ 45 ∉ ds n := ⟨fun h => by have := ds_digits n 47 h; omega, fun h => by have := ds_digits n 45 h; omega⟩
theorem dig_notin {l : List Nat} (h : NumText.AllDigits l) : 47 ∉ l ∧ 45 ∉ l := ⟨fun z => by have := h 47 z; omega, fun z => by have := h 45 z; omega⟩
theorem split_inj {a b c d : List Nat} (ha : 47 ∉ a) (hc : 47 ∉ c) (h : a ++ 47 :: b = c ++ 47 :: d) : a = c ∧ b = d := by
  have h1 := part_yes (b := b) ha
  have h2 := part_yes (b := d) hc
  rw [h, h2] at h1
  simp only [Prod.mk.injEq] at h1
  exact ⟨(S_inj h1.1).symm, (S_inj h1.2.2).symm⟩
section
variable {l a p m b : List Nat} {neg : Bool}
noncomputable def bq (m b : List Nat) : List Nat := if m = [] then [49] else b
theorem sgn_eq {x : Int} (hp : NumText.AllDigits p) (hpn : p ≠ []) (h : (if x < 0 then [45] else []) ++ ds x.natAbs = (if neg then 45 :: p else p)) : ds x.natAbs = p ∧ (neg = true ↔ x < 0) := by
  have hd := ds_digits x.natAbs
  have hn := ds_ne x.natAbs
  by_cases hx : x < 0
  · rw [if_pos hx] at h
    cases neg with
    | true =>
      simp at h
      exact ⟨h, by simp [hx]⟩
    | false =>
      rw [if_neg (by decide)] at h
      have : 45 ∈ p := by rw [← h]; simp
      exact absurd this (dig_notin hp).2
  · rw [if_neg hx] at h
    cases neg with
    | true =>
      rw [if_pos rfl] at h
      have : 45 ∈ ds x.natAbs := by
        have h' : ds x.natAbs = 45 :: p := by simpa using h
        rw [h']; simp
      exact absurd this (ds_notin _).2
    | false =>
      rw [if_neg (by decide)] at h
      exact ⟨by simpa using h, by simp [hx]⟩
theorem lead_back (hf : isF l = true) (hl : lead l = false) : ds (NumText.digitsVal l) = l := by
  obtain ⟨⟨h1, h2⟩, h3⟩ := isF_iff.mp hf
  refine ds_back h3 h1 fun ⟨z1, z2⟩ => ?_
  unfold lead at hl
  rw [decide_eq_true z1, decide_eq_true z2] at hl
  cases hl
theorem back_lead (hf : isF l = true) (h : ds (NumText.digitsVal l) = l) : lead l = false := by
  obtain ⟨⟨h1, h2⟩, h3⟩ := isF_iff.mp hf
  cases hl : lead l with
  | false => rfl
  | true =>
    unfold lead at hl
    simp only [Bool.and_eq_true, decide_eq_true_eq] at hl
    rw [← h] at hl
    rcases ds_head hl.1 with z | z
    · rw [z, ds_lt (by decide)] at hl
      exact absurd hl.2 (by decide)
    · exact z.elim
theorem shw_iff (h : Rd l a neg p m b) (hp : isF p = true) (hb : isF (bq m b) = true) (hg : 1 ≤ NumText.digitsVal (bq m b)) :
    shw (nt neg * (NumText.digitsVal p : Nat)) (NumText.digitsVal (bq m b)) = l ↔ (lead p = false ∧ (m ≠ [] → lead b = false) ∧ ¬ (NumText.digitsVal (bq m b) = 1 ∧ m ≠ []) ∧ ¬ (NumText.digitsVal p = 0 ∧ neg = true)) := by
  obtain ⟨⟨p1, p2⟩, p3⟩ := isF_iff.mp hp
  have hx : (nt neg * (NumText.digitsVal p : Nat)).natAbs = NumText.digitsVal p := by cases neg <;> simp [nt]
  have hneg : nt neg * ((NumText.digitsVal p : Nat) : Int) < 0 ↔ neg = true ∧ NumText.digitsVal p ≠ 0 := by
    cases neg with
    | true => simp [nt]; omega
    | false => simp [nt]
  have hno : 47 ∉ (if nt neg * ((NumText.digitsVal p : Nat) : Int) < 0 then [45] else []) ++ ds (NumText.digitsVal p) := by
    intro z
    rcases List.mem_append.mp z with z | z
    · split at z
      · simp at z
      · simp at z
    · exact (ds_notin _).1 z
  unfold shw
  rw [hx]
  have e0 := h.head
  rcases h.cs with ⟨e1, e2, e3⟩ | ⟨e1, e2⟩
  · -- no stroke
    have hbq : bq m b = [49] := by unfold bq; rw [if_pos e1]
    have hv : NumText.digitsVal (bq m b) = 1 := by rw [hbq]; rfl
    rw [hv, if_pos rfl, List.append_nil, e3, e0]
    constructor
    · intro z
      have z' := z
      rw [show ds (NumText.digitsVal p) = ds (nt neg * ((NumText.digitsVal p : Nat) : Int)).natAbs by rw [hx]] at z'
      obtain ⟨y1, y2⟩ := sgn_eq p3 p1 z'
      rw [hx] at y1
      refine ⟨back_lead hp y1, fun q => absurd e1 q, fun q => q.2 e1, fun ⟨q1, q2⟩ => ?_⟩
      have := y2.mp q2
      rw [hneg] at this
      exact this.2 q1
    · rintro ⟨y1, _, _, y4⟩
      rw [lead_back hp y1]
      cases hn : neg with
      | true =>
        rw [hn] at y4 hneg
        rw [if_pos (hneg.mpr ⟨rfl, fun z => y4 ⟨z, rfl⟩⟩)]
        rfl
      | false =>
        rw [hn] at hneg
        rw [if_neg (fun z => by have := hneg.mp z; exact absurd this.1 (by decide))]
        rfl
  · have hm : m ≠ [] := by rw [e1]; simp
    have hbq : bq m b = b := by unfold bq; rw [if_neg hm]
    rw [hbq] at hb hg ⊢
    rw [e2, e0]
    constructor
    · intro z
      have hb1 : NumText.digitsVal b ≠ 1 := fun q => by
        rw [q, if_pos rfl, List.append_nil] at z
        exact hno (by rw [z]; simp)
      rw [if_neg hb1, ← List.append_assoc] at z
      have ha : 47 ∉ (if neg then 45 :: p else p) := by rw [← e0]; exact h.no
      obtain ⟨y1, y2⟩ := split_inj hno ha z
      rw [show ds (NumText.digitsVal p) = ds (nt neg * ((NumText.digitsVal p : Nat) : Int)).natAbs by rw [hx]] at y1
      obtain ⟨y3, y4⟩ := sgn_eq p3 p1 y1
      rw [hx] at y3
      refine ⟨back_lead hp y3, fun _ => back_lead hb y2, fun q => hb1 q.1, fun ⟨q1, q2⟩ => ?_⟩
      have := y4.mp q2
      rw [hneg] at this
      exact this.2 q1
    · rintro ⟨y1, y2, y3, y4⟩
      have hb1 : NumText.digitsVal b ≠ 1 := fun q => y3 ⟨q, hm⟩
      rw [if_neg hb1, lead_back hp y1, lead_back hb (y2 hm)]
      cases hn : neg with
      | true =>
        rw [hn] at y4 hneg
        rw [if_pos (hneg.mpr ⟨rfl, fun z => y4 ⟨z, rfl⟩⟩)]
        rfl
      | false =>
        rw [hn] at hneg
        rw [if_neg (fun z => by have := hneg.mp z; exact absurd this.1 (by decide))]
        rfl
end
end My

namespace My
open PySem PySem.Spec PyProof.Rows L2 TM
noncomputable def rT1 : FT := (fNot (fTru (fCall dIsi (fCons (fVar 0) (fCons (fC (.ty "str")) fNil)))))
noncomputable def rS2 : FS := (fAsg (fOp gPart (fVar 0) (fC (.str "/"))) (gnTup (gnCons (gnName 1) (gnCons (gnName 2) (gnCons (gnName 3) gnNil)))))
noncomputable def rS3 : FS := (fIfS (fNot (fTru (fVar 2))) (fSet 3 (fC (.str "1"))) fNext)
noncomputable def rT4 : FT := (fOr (fNot (fTru (fCall dFi (fCons (fOp gRmp (fVar 1) (fC (.str "-"))) fNil)))) (fNot (fTru (fCall dFi (fCons (fVar 3) fNil)))))
noncomputable def rS5 : FS := (fSet 4 (fTup (fCons (fCall dInt2 (fCons (fVar 1) fNil)) (fCons (fCall dInt2 (fCons (fVar 3) fNil)) fNil))))
noncomputable def rT6 : FT := (fOr (fNot (fTru (fCall dIf (fCons (fVar 4) fNil)))) (fTB (fOp gNe (fCall dSf (fCons (fVar 4) fNil)) (fVar 0))))
noncomputable def rR (t : Str) : FX := (fRaise 100 (fCons (fC (.str t)) fNil))
theorem rR_ok (t : Str) (τ : TEnv) : rR t τ = some (⟨100, [], []⟩, τ) := rfl
theorem rf_eq : b_read_frac dFi dIf dSf = fSeq (fIfS rT1 fNever fNext) (fSeq rS2 (fSeq rS3 (fSeq (fIfS rT4 fNever fNext) (fSeq rS5 (fSeq (fIfS rT6 fNever fNext) (fRet (fVar 4))))))) := rfl
theorem rx_eq : bx_read_frac 100 dFi dIf dSf = fOrX (fIfX rT1 (rR "a fraction is read from a text") fNoX) (fSeqX (fIfS rT1 fNever fNext) (fSeqX rS2 (fSeqX rS3 (fOrX (fIfX rT4 (rR "a fraction is written in figures") fNoX)
    (fSeqX (fIfS rT4 fNever fNext) (fSeqX rS5 (fIfX rT6 (rR "a fraction is written in lowest terms and without more signs than it needs") fNoX))))))) := rfl
section
variable {τ0 τ2 τ3 τ4 : TEnv} {T1 T4 T6 : FT} {S2 S3 S5 : FS} {R1 R4 R6 : FX} {t : T} {X : XI}
theorem run_x1 (h1 : T1 τ0 = some (true, τ0)) (hr : R1 τ0 = some (X, τ0)) {Z : FX} {W : FS} : (fSeq (fIfS T1 fNever fNext) W) τ0 = none ∧ (fOrX (fIfX T1 R1 fNoX) Z) τ0 = some (X, τ0) := by
  constructor
  · simp only [fSeq, fIfS, h1, Option.bind_some, if_true, fNever, Option.bind_none]
  · simp only [fOrX, fIfX, h1, Option.bind_some, if_true, hr]
theorem run_x4 (h1 : T1 τ0 = some (false, τ0)) (h2 : S2 τ0 = some (.nx τ2)) (h3 : S3 τ2 = some (.nx τ3)) (h4 : T4 τ3 = some (true, τ3)) (hr : R4 τ3 = some (X, τ3)) {W : FS} {Z : FX} : (fSeq (fIfS T1 fNever fNext) (fSeq S2 (fSeq S3 (fSeq (fIfS T4 fNever fNext) W)))) τ0 = none ∧
    (fOrX (fIfX T1 R1 fNoX) (fSeqX (fIfS T1 fNever fNext) (fSeqX S2 (fSeqX S3 (fOrX (fIfX T4 R4 fNoX) Z))))) τ0 = some (X, τ3) := by
  constructor
  · simp only [fSeq, fIfS, h1, h2, h3, h4, Option.bind_some, if_true, fNever, fNext, Option.bind_none, Bool.false_eq_true, if_false]
  · simp only [fOrX, fIfX, fSeqX, fIfS, h1, h2, h3, h4, Option.bind_some, if_true, hr, fNever, fNext, fNoX, Bool.false_eq_true, if_false]
theorem run_x6 (h1 : T1 τ0 = some (false, τ0)) (h2 : S2 τ0 = some (.nx τ2)) (h3 : S3 τ2 = some (.nx τ3)) (h4 : T4 τ3 = some (false, τ3)) (h5 : S5 τ3 = some (.nx τ4)) (h6 : T6 τ4 = some (true, τ4)) (hr : R6 τ4 = some (X, τ4)) {W : FS} : (fSeq (fIfS T1 fNever fNext) (fSeq S2 (fSeq S3 (fSeq (fIfS T4 fNever fNext) (fSeq S5 (fSeq (fIfS T6 fNever fNext) W)))))) τ0 = none ∧
    (fOrX (fIfX T1 R1 fNoX) (fSeqX (fIfS T1 fNever fNext) (fSeqX S2 (fSeqX S3 (fOrX (fIfX T4 R4 fNoX) (fSeqX (fIfS T4 fNever fNext) (fSeqX S5 (fIfX T6 R6 fNoX)))))))) τ0 = some (X, τ4) := by
  constructor
  · simp only [fSeq, fIfS, h1, h2, h3, h4, h5, h6, Option.bind_some, if_true, fNever, fNext, Option.bind_none, Bool.false_eq_true, if_false]
  · simp only [fOrX, fIfX, fSeqX, fIfS, h1, h2, h3, h4, h5, h6, Option.bind_some, if_true, hr, fNever, fNext, fNoX, Bool.false_eq_true, if_false]
theorem run_ok (h1 : T1 τ0 = some (false, τ0)) (h2 : S2 τ0 = some (.nx τ2)) (h3 : S3 τ2 = some (.nx τ3)) (h4 : T4 τ3 = some (false, τ3)) (h5 : S5 τ3 = some (.nx τ4)) (h6 : T6 τ4 = some (false, τ4)) {W : FS} : (fSeq (fIfS T1 fNever fNext) (fSeq S2 (fSeq S3 (fSeq (fIfS T4 fNever fNext) (fSeq S5 (fSeq (fIfS T6 fNever fNext) W)))))) τ0 = W τ4 := by
  simp only [fSeq, fIfS, h1, h2, h3, h4, h5, h6, Option.bind_some, fNever, fNext, Bool.false_eq_true, if_false]
end
section
variable {l a p m b : List Nat} {neg : Bool}
noncomputable abbrev Ra (l a m b : List Nat) (o : Option Sl) : TEnv := [s (tx l), s (tx a), s (tx m), s (tx b), o]
theorem tru_tx {l : List Nat} (h : l.length ≤ 1000) : tru (tx l) = some (!decide (l = [])) := by
  show (if (S l).length ≤ sizeLine then some (((S l).length : Int) != 0) else none) = _
  rw [S_len, if_pos (small_le h)]
  cases l with
  | nil => rfl
  | cons c r =>
    rw [decide_eq_false (by simp)]
    congr 1
theorem r1_ok (l : List Nat) : rT1 [s (tx l), none, none, none, none] = some (false, [s (tx l), none, none, none, none]) := rfl
theorem r2_ok (h : Rd l a neg p m b) : rS2 [s (tx l), none, none, none, none] = some (.nx (Ra l a m b none)) := by
  have h1 := h.part
  unfold rS2
  rw [t_stroke]
  walk_at "ev"
theorem r3_ok (h : Rd l a neg p m b) : rS3 (Ra l a m b none) = some (.nx (Ra l a m (bq m b) none)) := by
  have h1 := tru_tx (l := m) (by rcases h.cs with ⟨e, _⟩ | ⟨e, _⟩ <;> rw [e] <;> simp)
  unfold rS3
  rw [t_one]
  by_cases hm : m = []
  · rw [decide_eq_true hm] at h1
    unfold bq
    rw [if_pos hm]
    clear hm h
    simp only [fIfS, fNot, fTru, fVar, fSet, fC, List.getElem?_cons_succ, List.getElem?_cons_zero, Option.bind_some, h1, Bool.not_true, Bool.not_false, if_true, List.set_cons_succ, List.set_cons_zero]
  · rw [decide_eq_false hm] at h1
    unfold bq
    rw [if_neg hm]
    clear hm h
    simp only [fIfS, fNot, fTru, fVar, fSet, fC, fNext, List.getElem?_cons_succ, List.getElem?_cons_zero, Option.bind_some, h1, Bool.not_true, Bool.not_false, Bool.false_eq_true, if_false]
theorem bq_len (h : Rd l a neg p m b) : (bq m b).length ≤ 900 := by
  unfold bq
  split
  · simp
  · have := h.lenB; omega
theorem r4_ok (h : Rd l a neg p m b) : rT4 (Ra l a m (bq m b) none) = some (!(isF p && isF (bq m b)), Ra l a m (bq m b) none) := by
  have h1 := h.rmp
  have h2 := fi_ok p (by have := h.lenP; omega)
  have h3 := fi_ok (bq m b) (by have := bq_len h; omega)
  unfold rT4
  rw [t_minus]
  generalize dFi = dF at *
  generalize bq m b = q at *
  generalize isF q = c2 at *
  generalize isF p = c1 at *
  cases c1 with
  | true =>
    clear h
    walk_at "ev"
    try rfl
  | false =>
    clear h
    walk_at "ev"
    try rfl
theorem int_a (h : Rd l a neg p m b) (hp : isF p = true) : dInt2 [tx a] = some (.int (nt neg * (NumText.digitsVal p : Nat))) := by
  obtain ⟨⟨p1, p2⟩, p3⟩ := isF_iff.mp hp
  rw [h.head]
  cases neg with
  | true =>
    rw [if_pos rfl, int_neg p3 p1 (by omega)]
    simp [nt]
  | false =>
    rw [if_neg (by decide), int_dig p3 p1 (by omega)]
    simp [nt]
theorem r5_ok (h : Rd l a neg p m b) (hp : isF p = true) (hb : isF (bq m b) = true) : rS5 (Ra l a m (bq m b) none) = some (.nx (Ra l a m (bq m b) (s (frc (nt neg * (NumText.digitsVal p : Nat)) (NumText.digitsVal (bq m b)))))) := by
  have h1 := int_a h hp
  obtain ⟨⟨p1, p2⟩, p3⟩ := isF_iff.mp hb
  have h2 := int_dig p3 p1 (by omega)
  unfold rS5
  generalize dInt2 = dI at *
  generalize nt neg * ((NumText.digitsVal p : Nat) : Int) = x at *
  generalize NumText.digitsVal (bq m b) = y at *
  generalize bq m b = q at *
  clear h p1 p2 p3 hp hb
  walk_at "ev"
theorem Ok.shw (x : Int) (y : Nat) : Ok (shw x y) := by
  unfold My.shw
  refine Ok.app ?_ (Ok.app (Ok.dig (ds_digits _)) ?_)
  · split
    · exact Ok.cons (by decide) Ok.nil
    · exact Ok.nil
  · split
    · exact Ok.nil
    · exact Ok.cons (by decide) (Ok.dig (ds_digits _))
theorem r6_ok {x : Int} {y : Nat} (ho : Ok l) (hx : x.natAbs < 10 ^ 72) (hy : y < 10 ^ 72) (a m q : List Nat) : rT6 (Ra l a m q (s (frc x y))) = some (!((decide (1 ≤ y) && decide (Int.gcd x y = 1)) && decide (shw x y = l)), Ra l a m q (s (frc x y))) := by
  have hB : (10 : Nat) ^ 72 < B := by decide +kernel
  have h1 := if_ok (a := x) (b := y) (Nat.lt_trans hx hB) (Nat.lt_trans hy hB)
  have h2 := sf_ok hx hy
  have h3 := (geq_tx (Ok.shw x y).str ho.str).2
  unfold rT6
  generalize dIf = d1 at *
  generalize dSf = d2 at *
  generalize shw x y = w at *
  generalize frc x y = fr at *
  generalize decide (w = l) = c at *
  generalize (decide (1 ≤ y) && decide (Int.gcd x y = 1)) = cc at *
  cases cc with
  | true =>
    clear hx hy hB
    walk_at "ev"
    try rfl
  | false =>
    clear hx hy hB
    walk_at "ev"
    try rfl
theorem botO_eq (hb : isF (bq m b) = true) : botO m b = if m ≠ [] ∧ lead b = true then none else some (NumText.digitsVal (bq m b)) := by
  by_cases hm : m = []
  · have e : bq m b = [49] := if_pos hm
    rw [e, if_neg (fun z => z.1 hm)]
    unfold botO
    rw [if_pos hm]
    rfl
  · have e : bq m b = b := if_neg hm
    rw [e] at hb ⊢
    unfold botO numO
    rw [if_neg hm, hb]
    cases hl : lead b with
    | true => simp [hm]
    | false => simp
theorem rd_ok (h : Rd l a neg p m b) : (∃ x y, dueV neg p m b = some (x, y) ∧ dRf [tx l] = some (frc x y)) ∨ (dueV neg p m b = none ∧ dRf [tx l] = none ∧ dRfX [tx l] = some ⟨100, [], []⟩) := by
  have e1 : ∀ r, b_read_frac dFi dIf dSf [s (tx l), none, none, none, none] = r → dRf [tx l] = r.bind fun r => match r with
      | .rt t => some t
      | .nx _ => some .non
      | _ => none := fun r z => by rw [← z]; rfl
  have e2 : ∀ r, bx_read_frac 100 dFi dIf dSf [s (tx l), none, none, none, none] = r → dRfX [tx l] = r.bind fun p => some p.1 := fun r z => by rw [← z]; rfl
  rw [rf_eq] at e1
  rw [rx_eq] at e2
  have r1 := r1_ok l
  have r2 := r2_ok h
  have r3 := r3_ok h
  have r4 := r4_ok h
  cases hf : isF p && isF (bq m b) with
  | false =>
    rw [hf] at r4
    have := run_x4 (W := (fSeq rS5 (fSeq (fIfS rT6 fNever fNext) (fRet (fVar 4))))) (Z := (fSeqX (fIfS rT4 fNever fNext) (fSeqX rS5 (fIfX rT6 (rR "a fraction is written in lowest terms and without more signs than it needs") fNoX)))) (R1 := rR "a fraction is read from a text") (R4 := rR "a fraction is written in figures") r1 r2 r3 r4 (rR_ok _ _)
    refine .inr ⟨?_, e1 _ this.1, e2 _ this.2⟩
    unfold dueV
    have : numO p = none ∨ botO m b = none := by
      rcases Bool.and_eq_false_iff.mp hf with z | z
      · left; unfold numO; rw [z]; rfl
      · right
        unfold bq at z
        unfold botO
        split at z
        · exact absurd z (by decide)
        · next hm => rw [if_neg hm]; unfold numO; rw [z]; rfl
    rcases this with z | z
    · rw [z]
    · rw [z]
      cases numO p <;> rfl
  | true =>
    rw [hf] at r4
    obtain ⟨hp, hb⟩ := Bool.and_eq_true_iff.mp hf
    have r5 := r5_ok h hp hb
    obtain ⟨⟨p1, p2⟩, p3⟩ := isF_iff.mp hp
    obtain ⟨⟨q1, q2⟩, q3⟩ := isF_iff.mp hb
    have lp := val_lt 30 p3 p2
    have lq := val_lt 30 q3 q2
    have hpow : (10 : Nat) ^ 30 < 10 ^ 72 := by decide +kernel
    have r6 := r6_ok (x := nt neg * (NumText.digitsVal p : Nat)) (y := NumText.digitsVal (bq m b)) h.ok (by
      have : (nt neg * ((NumText.digitsVal p : Nat) : Int)).natAbs = NumText.digitsVal p := by cases neg <;> simp [nt]
      rw [this]; exact Nat.lt_trans lp hpow) (Nat.lt_trans lq hpow) a m (bq m b)
    have hsh := shw_iff h hp hb
    have hn1 : numO p = if lead p then none else some (NumText.digitsVal p) := by
      unfold numO; rw [hp]
      cases lead p <;> rfl
    have hn2 := botO_eq hb
    generalize hv : NumText.digitsVal p = vp at *
    generalize hw : NumText.digitsVal (bq m b) = vb at *
    cases hc : (decide (1 ≤ vb) && decide (Int.gcd (nt neg * (vp : Nat)) vb = 1)) && decide (shw (nt neg * (vp : Nat)) vb = l) with
    | true =>
      rw [hc] at r6
      simp only [Bool.and_eq_true, decide_eq_true_eq] at hc
      obtain ⟨⟨c1, c2⟩, c3⟩ := hc
      obtain ⟨y1, y2, y3, y4⟩ := (hsh c1).mp c3
      have := run_ok (W := fRet (fVar 4)) r1 r2 r3 r4 r5 r6
      refine .inl ⟨nt neg * (vp : Nat), vb, ?_, ?_⟩
      · unfold dueV
        rw [hn1, y1, if_neg (by decide), hn2, if_neg (fun z => absurd (y2 z.1) (by rw [z.2]; decide))]
        show (if vb = 0 ∨ (vb = 1 ∧ m ≠ []) ∨ (vp = 0 ∧ neg = true) ∨ Int.gcd (nt neg * (vp : Nat)) vb ≠ 1 then none else some (nt neg * ((vp : Nat) : Int), vb)) = _
        rw [if_neg]
        rintro (z | z | z | z)
        · omega
        · exact y3 z
        · exact y4 z
        · exact z c2
      · rw [e1 _ this]
        rfl
    | false =>
      rw [hc] at r6
      have := run_x6 (R1 := rR "a fraction is read from a text") (R4 := rR "a fraction is written in figures") (R6 := rR "a fraction is written in lowest terms and without more signs than it needs") (W := fRet (fVar 4)) r1 r2 r3 r4 r5 r6 (rR_ok _ _)
      refine .inr ⟨?_, e1 _ this.1, e2 _ this.2⟩
      unfold dueV
      rw [hn1, hn2]
      cases y1 : lead p with
      | true => rfl
      | false =>
        by_cases y2 : m ≠ [] ∧ lead b = true
        · rw [if_pos y2]; rfl
        · rw [if_neg y2]
          show (if vb = 0 ∨ (vb = 1 ∧ m ≠ []) ∨ (vp = 0 ∧ neg = true) ∨ Int.gcd (nt neg * (vp : Nat)) vb ≠ 1 then none else some (nt neg * ((vp : Nat) : Int), vb)) = _
          by_cases c1 : vb = 0
          · rw [if_pos (.inl c1)]
          · by_cases c2 : Int.gcd (nt neg * (vp : Nat)) vb = 1
            · rw [if_pos]
              refine Classical.byContradiction fun z => ?_
              have : shw (nt neg * (vp : Nat)) vb = l := (hsh (by omega)).mpr ⟨y1, fun hm => by cases hl : lead b with | false => rfl | true => exact absurd ⟨hm, hl⟩ y2, fun q => z (.inr (.inl q)), fun q => z (.inr (.inr (.inl q)))⟩
              rw [decide_eq_true (show 1 ≤ vb by omega), decide_eq_true c2, decide_eq_true this] at hc
              cases hc
            · rw [if_pos (.inr (.inr (.inr c2)))]
end
end My

namespace My
open PySem PySem.Spec PyProof.Rows L2 TM
noncomputable abbrev dRr : List T → Option T := dOf 5 2 (b__law_read_right 80 100 138 119 157 176 dRf (dSame 4) dRfX)
theorem rr_a {t : T} {x : Int} {y : Nat} (h : dRf [t] = some (frc x y)) : dRr [t, frc x y] = some (.bl true) := by
  have hs : dSame 4 [frc x y, frc x y] = some (.bl true) := dSame_eq 3 _ rfl
  have hi : gIs (frc x y) .non = some (.bl false) := rfl
  have hj : gIs .non .non = some (.bl true) := rfl
  have ht : (fTry (fSet 2 (fCall dRf (fCons (fVar 0) fNil))) (fCallX dRfX (fCons (fVar 0) fNil)) (fhAs 4 [(100, true)] (fSet 3 (fVar 4)) fhNil)) [s t, s (frc x y), s .non, s .non, none] = some (.nx [s t, s (frc x y), s (frc x y), s .non, none]) := by
    have h1 : (fSet 2 (fCall dRf (fCons (fVar 0) fNil))) [s t, s (frc x y), s .non, s .non, none] = some (.nx [s t, s (frc x y), s (frc x y), s .non, none]) := by
      generalize dRf = dF at *
      clear hs hi hj
      walk_at "ev"
    unfold fTry
    rw [h1]
  unfold dRr dOf b__law_read_right
  generalize (fTry (fSet 2 (fCall dRf (fCons (fVar 0) fNil))) (fCallX dRfX (fCons (fVar 0) fNil)) (fhAs 4 [(100, true)] (fSet 3 (fVar 4)) fhNil)) = ft at *
  generalize dSame 4 = dS at *
  clear h
  walk_at "ev"
theorem rr_b {t : T} (h1 : dRf [t] = none) (h2 : dRfX [t] = some ⟨100, [], []⟩) : dRr [t, .non] = some (.bl true) := by
  have hj : gIs .non .non = some (.bl true) := rfl
  have ht : (fTry (fSet 2 (fCall dRf (fCons (fVar 0) fNil))) (fCallX dRfX (fCons (fVar 0) fNil)) (fhAs 4 [(100, true)] (fSet 3 (fVar 4)) fhNil)) [s t, s .non, s .non, s .non, none] = some (.nx [s t, s .non, s .non, s (.exc 100 [] []), none]) := by
    have e1 : (fSet 2 (fCall dRf (fCons (fVar 0) fNil))) [s t, s .non, s .non, s .non, none] = none := by
      show (((dRf [t]).bind _).bind _) = none
      rw [h1]
      rfl
    have e2 : (fCallX dRfX (fCons (fVar 0) fNil)) [s t, s .non, s .non, s .non, none] = some (⟨100, [], []⟩, [s t, s .non, s .non, s .non, none]) := by
      show (dRfX [t]).bind _ = _
      rw [h2]
      rfl
    unfold fTry
    rw [e1]
    dsimp only
    rw [e2]
    rfl
  have hx : (fAndV (fIsiX [(100, true)] (fVar 3)) (fUn gNot (fCall (dIsiXs [138, 119, 157, 176] [(100, false)]) (fCons (fVar 3) (fCons (fTup (fCons (fC (.ptr 138)) (fCons (fC (.ptr 119)) (fCons (fC (.ptr 157)) (fCons (fC (.ptr 176)) fNil))))) fNil))))) [s t, s .non, s .non, s (.exc 100 [] []), none] = some (.bl true, [s t, s .non, s .non, s (.exc 100 [] []), none]) := by kernel_rfl
  unfold dRr dOf b__law_read_right
  generalize (fTry (fSet 2 (fCall dRf (fCons (fVar 0) fNil))) (fCallX dRfX (fCons (fVar 0) fNil)) (fhAs 4 [(100, true)] (fSet 3 (fVar 4)) fhNil)) = ft at *
  generalize (fAndV (fIsiX [(100, true)] (fVar 3)) (fUn gNot (fCall (dIsiXs [138, 119, 157, 176] [(100, false)]) (fCons (fVar 3) (fCons (fTup (fCons (fC (.ptr 138)) (fCons (fC (.ptr 119)) (fCons (fC (.ptr 157)) (fCons (fC (.ptr 176)) fNil))))) fNil))))) = fx at *
  clear h1 h2
  walk_at "ev"
theorem rr_text {l : List Nat} (ho : Ok l) (hl : l.length ≤ 800) : ∃ t, dDu [tx l] = some t ∧ dRr [tx l, t] = some (.bl true) := by
  obtain ⟨a, neg, p, m, b, h⟩ := rd_ex ho hl
  refine ⟨_, du_ok h, ?_⟩
  rcases rd_ok h with ⟨x, y, e, e1⟩ | ⟨e, e1, e2⟩
  · rw [e]; exact rr_a e1
  · rw [e]; exact rr_b e1 e2
noncomputable def oddL : List T := [.non, .int 5, .bl true, .lst [.str "1"], .tup [.str "1"], .tup [.int 1, .int 2], .dic, .lst [.int 1, .int 2]]
theorem odd_no (t : T) (h : dIsi [t, .ty "str"] = some (.bl false)) : dRr [t, .non] = some (.bl true) := by
  have h1 : rT1 [s t, none, none, none, none] = some (true, [s t, none, none, none, none]) := by
    unfold rT1
    generalize dIsi = d at *
    walk_at "ev"
  have h2 := run_x1 (R1 := rR "a fraction is read from a text") (Z := (fSeqX (fIfS rT1 fNever fNext) (fSeqX rS2 (fSeqX rS3 (fOrX (fIfX rT4 (rR "a fraction is written in figures") fNoX)
    (fSeqX (fIfS rT4 fNever fNext) (fSeqX rS5 (fIfX rT6 (rR "a fraction is written in lowest terms and without more signs than it needs") fNoX)))))))) (W := (fSeq rS2 (fSeq rS3 (fSeq (fIfS rT4 fNever fNext) (fSeq rS5 (fSeq (fIfS rT6 fNever fNext) (fRet (fVar 4)))))))) h1 (rR_ok _ _)
  refine rr_b ?_ ?_
  · show (b_read_frac dFi dIf dSf [s t, none, none, none, none]).bind _ = _
    rw [rf_eq, h2.1]
    rfl
  · show (bx_read_frac 100 dFi dIf dSf [s t, none, none, none, none]).bind _ = _
    rw [rx_eq, h2.2]
    rfl
theorem isF_ds {n : Nat} (h : n < 10 ^ 30) : isF (ds n) = true := isF_iff.mpr ⟨⟨ds_ne n, ds_len 29 n h⟩, ds_digits n⟩
theorem lead_ds (n : Nat) : lead (ds n) = false := by
  cases hl : lead (ds n) with
  | false => rfl
  | true =>
    unfold lead at hl
    simp only [Bool.and_eq_true, decide_eq_true_eq] at hl
    rcases ds_head hl.1 with z | z
    · rw [z, ds_lt (by decide)] at hl
      exact absurd hl.2 (by decide)
    · exact z.elim
theorem numO_ds {n : Nat} (h : n < 10 ^ 30) : numO (ds n) = some n := by
  unfold numO
  rw [isF_ds h, lead_ds, ds_val]
  rfl
theorem len_shw {x : Int} {y : Nat} (hx : x.natAbs < 10 ^ 72) (hy : y < 10 ^ 72) : (shw x y).length ≤ 200 := by
  have h1 := ds_len 71 _ hx
  have h2 := ds_len 71 _ hy
  unfold shw
  rw [List.length_append, List.length_append]
  have : (if x < 0 then [45] else [] : List Nat).length ≤ 1 := by split <;> simp
  have : (if y = 1 then [] else 47 :: ds y : List Nat).length ≤ 73 := by split <;> simp; omega
  omega
theorem rd_shw {x : Int} {y : Nat} (hx : x.natAbs < 10 ^ 30) (hy : y < 10 ^ 30) (h1 : 1 ≤ y) (hg : Int.gcd x y = 1) : dRr [tx (shw x y), frc x y] = some (.bl true) := by
  have hpow : (10 : Nat) ^ 30 < 10 ^ 72 := by decide +kernel
  have hlen := len_shw (Nat.lt_trans hx hpow) (Nat.lt_trans hy hpow)
  have hnt : nt (decide (x < 0)) * ((x.natAbs : Nat) : Int) = x := by
    by_cases c : x < 0
    · rw [decide_eq_true c]; show -1 * ((x.natAbs : Nat) : Int) = x; omega
    · rw [decide_eq_false c]; show 1 * ((x.natAbs : Nat) : Int) = x; omega
  have hh : (if x < 0 then [45] else []) ++ ds x.natAbs = (if decide (x < 0) = true then 45 :: ds x.natAbs else ds x.natAbs) := by
    by_cases c : x < 0
    · rw [if_pos c, decide_eq_true c]; rfl
    · rw [if_neg c, decide_eq_false c]; rfl
  have hno : 47 ∉ (if x < 0 then [45] else []) ++ ds x.natAbs := by
    intro z
    rcases List.mem_append.mp z with z | z
    · split at z <;> simp at z
    · exact (ds_notin _).1 z
  have hhd : decide (x < 0) = false → (ds x.natAbs).head? ≠ some 45 := fun _ z => (ds_notin x.natAbs).2 (List.mem_of_mem_head? (by rw [z]; rfl))
  have key : ∃ m b, Rd (shw x y) ((if x < 0 then [45] else []) ++ ds x.natAbs) (decide (x < 0)) (ds x.natAbs) m b ∧ botO m b = some y ∧ ¬ (y = 1 ∧ m ≠ []) := by
    by_cases c : y = 1
    · refine ⟨[], [], ⟨Ok.shw x y, by omega, hh, hhd, hno, .inl ⟨rfl, rfl, ?_⟩⟩, by rw [c]; rfl, fun z => z.2 rfl⟩
      unfold shw
      rw [if_pos c, List.append_nil]
    · refine ⟨[47], ds y, ⟨Ok.shw x y, by omega, hh, hhd, hno, .inr ⟨rfl, ?_⟩⟩, ?_, fun z => c z.1⟩
      · unfold shw
        rw [if_neg c, List.append_assoc]
      · unfold botO
        rw [if_neg (by simp)]
        exact numO_ds hy
  obtain ⟨m, b, h, e1, e2⟩ := key
  have hd : dueV (decide (x < 0)) (ds x.natAbs) m b = some (x, y) := by
    unfold dueV
    rw [numO_ds hx, e1]
    show (if y = 0 ∨ (y = 1 ∧ m ≠ []) ∨ (x.natAbs = 0 ∧ decide (x < 0) = true) ∨ Int.gcd (nt (decide (x < 0)) * (x.natAbs : Nat)) y ≠ 1 then none else some (nt (decide (x < 0)) * ((x.natAbs : Nat) : Int), y)) = _
    rw [hnt, if_neg]
    rintro (z | z | z | z)
    · omega
    · exact e2 z
    · have := of_decide_eq_true z.2; omega
    · exact z hg
  rcases rd_ok h with ⟨x', y', e, e3⟩ | ⟨e, _⟩
  · rw [hd] at e
    cases e
    exact rr_a e3
  · rw [hd] at e
    cases e
end My

namespace My
open PySem PySem.Spec PyProof.Rows L2 TM
theorem gDiv_ok {i j : Int} (h : CDivB i j) : gDiv (.int i) (.int j) = some (.int (i.fdiv j)) := if_pos h
theorem gMod_ok {i j : Int} (h : CNz i j) : gMod (.int i) (.int j) = some (.int (i.fmod j)) := if_pos h
theorem gMul_ok {i j : Int} (h : CMulB i j) : gMulI (.int i) (.int j) = some (.int (i * j)) := if_pos h
theorem tb_eq {w k : Int} {f : FE} {τ : TEnv} (h : f τ = some (.int w, τ)) : fTB (fOp gEq f (fC (.int k))) τ = some (decide (w = k), τ) := by
  unfold fTB
  rw [op_q h rfl (gEq_int w k)]
  rfl
noncomputable abbrev dSg : List T → Option T := dOf 2 1 b__law_sign
noncomputable def allS : Str := Str.ofString " !\"#$&'()*+,-./0123456789:;<=>?@ABCDEFGHIJKLMNOPQRSTUVWXYZ[]^_abcdefghijklmnopqrstuvwxyz{|}~\n" ++ Str.ofString "00112--//"
theorem sg_ok (n : Int) : ∃ c : Nat, c < 0x110000 ∧ dSg [.int n] = some (tx [c]) := by
  have hn : allS.cps.toList.length = 102 := by decide +kernel
  have hl : allS.length = 102 := by decide +kernel
  have hr := fmod_rng n (b := 102) (by decide)
  obtain ⟨j, hj⟩ := Int.eq_ofNat_of_zero_le hr.1
  have hj2 : j < allS.cps.toList.length := by omega
  have ha : ∀ c ∈ allS.cps.toList, c < 0x110000 := by decide +kernel
  refine ⟨allS.cps.toList[j], ha _ (List.getElem_mem hj2), ?_⟩
  have h1 : gAdd (.str (Str.ofString " !\"#$&'()*+,-./0123456789:;<=>?@ABCDEFGHIJKLMNOPQRSTUVWXYZ[]^_abcdefghijklmnopqrstuvwxyz{|}~\n")) (.str (Str.ofString "00112--//")) = some (.str allS) := gAdd_str (small_le (by decide +kernel))
  have h2 : dLen [.str allS] = some (.int 102) := by
    show (if allS.length ≤ sizeLine then some (T.int (allS.length : Nat)) else none) = _
    rw [hl, if_pos (small_le (by decide))]
    rfl
  have h3 : gIx (.str allS) (.int (n.fmod 102)) = some (tx [allS.cps.toList[j]]) := by
    show (if allS.length ≤ sizeLine then (atI allS.cps.toList (n.fmod 102)).map fun c => T.str ⟨#[c]⟩ else none) = _
    rw [hl, if_pos (small_le (by decide)), hj, atI_nat (List.getElem?_eq_getElem hj2)]
    rfl
  have n1 : ¬ (102 : Int) = 0 := by decide
  unfold dSg dOf b__law_sign
  generalize (Str.ofString " !\"#$&'()*+,-./0123456789:;<=>?@ABCDEFGHIJKLMNOPQRSTUVWXYZ[]^_abcdefghijklmnopqrstuvwxyz{|}~\n") = w1 at *
  generalize (Str.ofString "00112--//") = w2 at *
  generalize dLen = dL at *
  generalize tx [allS.cps.toList[j]] = tc at *
  generalize allS = aS at *
  clear hn hl hr hj hj2 ha
  walk_at "ev"
theorem sl_any (l : List Nat) (ho : Ok l) (lo hi : Option Int) : ∃ w, Ok w ∧ w.length ≤ l.length ∧ Txt.slice (S l) lo hi = S w := by
  refine ⟨(Txt.slice (S l) lo hi).cps.toList, ?_, ?_, (S_toList _).symm⟩
  · unfold Txt.slice
    split
    · rw [S_list]; exact ho
    · intro c hc
      simp only [List.mem_filterMap] at hc
      obtain ⟨i, _, hi⟩ := hc
      have : (S l).cps.toList[i]? = some c := by simpa using hi
      rw [S_list] at this
      exact ho c (List.mem_of_getElem? this)
  · have := Txt.slice_le (S l) lo hi
    rw [S_len] at this
    simpa [Str.length] using this
noncomputable abbrev dSp : List T → Option T := dOf 5 3 (b__law_spoiled dSg)
noncomputable def Good (o : Option R) : Prop := ∃ w, Ok w ∧ w.length ≤ 800 ∧ o = some (.rt (tx w))
theorem app3 {f1 f2 f3 : FE} {τ : TEnv} {a b c : List Nat} (h1 : f1 τ = some (tx a, τ)) (h2 : f2 τ = some (tx b, τ)) (h3 : f3 τ = some (tx c, τ)) (oa : Ok a) (ob : Ok b) (oc : Ok c) (l1 : a.length ≤ 250) (l2 : b.length ≤ 250) (l3 : c.length ≤ 250) : Good (fRet (fOp gAdd (fOp gAdd f1 f2) f3) τ) := by
  have e : fOp gAdd (fOp gAdd f1 f2) f3 τ = some (tx (a ++ b ++ c), τ) := op_q (op_q h1 h2 (gstr (by omega))) h3 (gstr (by rw [List.length_append]; omega))
  refine ⟨a ++ b ++ c, (oa.app ob).app oc, by rw [List.length_append, List.length_append]; omega, ?_⟩
  unfold fRet
  rw [e]
  rfl
theorem app2 {f1 f2 : FE} {τ : TEnv} {a b : List Nat} (h1 : f1 τ = some (tx a, τ)) (h2 : f2 τ = some (tx b, τ)) (oa : Ok a) (ob : Ok b) (l1 : a.length ≤ 250) (l2 : b.length ≤ 250) : Good (fRet (fOp gAdd f1 f2) τ) := by
  have e : fOp gAdd f1 f2 τ = some (tx (a ++ b), τ) := op_q h1 h2 (gstr (by omega))
  refine ⟨a ++ b, oa.app ob, by rw [List.length_append]; omega, ?_⟩
  unfold fRet
  rw [e]
  rfl
section
variable {l : List Nat} {a : Int} {b : Nat} {e at' w : Int}
noncomputable abbrev Sv (l : List Nat) (a : Int) (b : Nat) (e at' w : Int) : TEnv := [s (tx l), s (frc a b), s (.int e), s (.int at'), s (.int w)]
theorem sv_sl (ho : Ok l) (hl : l.length ≤ 200) : (∃ w', Ok w' ∧ w'.length ≤ 250 ∧ (fSlS (fVar 0) fNoPart (fPart (fVar 3))) (Sv l a b e at' w) = some (tx w', Sv l a b e at' w)) ∧ (∃ w', Ok w' ∧ w'.length ≤ 250 ∧ (fSlS (fVar 0) (fPart (fVar 3)) fNoPart) (Sv l a b e at' w) = some (tx w', Sv l a b e at' w)) ∧
    ∃ w', Ok w' ∧ w'.length ≤ 250 ∧ (fSlS (fVar 0) (fPart (fOp gAdd (fVar 3) (fC (.int 1)))) fNoPart) (Sv l a b e at' w) = some (tx w', Sv l a b e at' w) := by
  have hz : (S l).length ≤ sizeLine := by rw [S_len]; exact small_le (by omega)
  refine ⟨?_, ?_, ?_⟩
  · obtain ⟨w', h1, h2, h3⟩ := sl_any l ho none (some at')
    refine ⟨w', h1, by omega, ?_⟩
    show (if (S l).length ≤ sizeLine then some (T.str (Txt.slice (S l) none (some at')), _) else none) = _
    rw [if_pos hz, h3]
  · obtain ⟨w', h1, h2, h3⟩ := sl_any l ho (some at') none
    refine ⟨w', h1, by omega, ?_⟩
    show (if (S l).length ≤ sizeLine then some (T.str (Txt.slice (S l) (some at') none), _) else none) = _
    rw [if_pos hz, h3]
  · obtain ⟨w', h1, h2, h3⟩ := sl_any l ho (some (at' + 1)) none
    refine ⟨w', h1, by omega, ?_⟩
    show (if (S l).length ≤ sizeLine then some (T.str (Txt.slice (S l) (some (at' + 1)) none), _) else none) = _
    rw [if_pos hz, h3]
theorem sv_sg : ∃ c, Ok [c] ∧ (fCall dSg (fCons (fOp gDiv (fVar 2) (fC (.int 1000))) fNil)) (Sv l a b e at' w) = some (tx [c], Sv l a b e at' w) := by
  obtain ⟨c, h1, h2⟩ := sg_ok (e.fdiv 1000)
  refine ⟨c, Ok.cons h1 Ok.nil, ?_⟩
  have n1 : ¬ (1000 : Int) = 0 := by decide
  have b1 : (1000 : Int).natAbs < B := small_B (by decide) (by decide)
  generalize dSg = dS at *
  clear h1
  walk_at "ev"
noncomputable def spC : FE := (fOp gIx (fLst (fCons (fOp gRepS (fC (.str "9")) (fC (.int 31))) (fCons (fOp gAdd (fC (.str "1/")) (fOp gRepS (fC (.str "9")) (fC (.int 31)))) (fCons (fOp gAdd (fC (.str "-")) (fOp gRepS (fC (.str "9")) (fC (.int 30)))) (fCons (fOp gAdd (fC (.str "1/")) (fOp gRepS (fC (.str "9")) (fC (.int 30)))) fNil))))) (fOp gMod (fOp gDiv (fVar 2) (fC (.int 8))) (fC (.int 4))))
noncomputable def spL : FE := (fLst (fCons (fOp gAdd (fVar 0) (fC (.str "/1"))) (fCons (fC (.str "-0")) (fCons (fC (.str "0/1")) (fCons (fC (.str "5/0")) (fCons (fC (.str "-/3")) (fCons (fC (.str "3/")) (fCons (fC (.str "/4")) (fCons (fC (.str "--5")) (fCons (fC (.str "")) (fCons (fC (.str "-")) (fCons (fC (.str "07")) (fCons (fC (.str "1/02")) (fCons (fC (.str "+1")) fNil))))))))))))))
theorem ix_good {f i : FE} {τ : TEnv} {ws : List (List Nat)} {k : Int} (h1 : f τ = some (.lst (ws.map tx), τ)) (h2 : i τ = some (.int k, τ)) (h0 : 0 ≤ k) (hk : k < ws.length) (hw : ∀ w ∈ ws, Ok w ∧ w.length ≤ 800) : Good (fRet (fOp gIx f i) τ) := by
  obtain ⟨j, rfl⟩ := Int.eq_ofNat_of_zero_le h0
  have hj : j < ws.length := by omega
  have e : gIx (.lst (ws.map tx)) (.int j) = some (tx ws[j]) := by
    show atI (ws.map tx) (j : Int) = _
    exact atI_nat (by rw [List.getElem?_map, List.getElem?_eq_getElem hj]; rfl)
  have := hw _ (List.getElem_mem hj)
  refine ⟨ws[j], this.1, this.2, ?_⟩
  unfold fRet
  rw [op_q h1 h2 e]
  rfl
theorem md_ok (k : Int) (hk : 0 < k) (hs : k ≤ 1000) : (fOp gMod (fOp gDiv (fVar 2) (fC (.int 8))) (fC (.int k))) (Sv l a b e at' w) = some (.int ((e.fdiv 8).fmod k), Sv l a b e at' w) := by
  have h1 : gDiv (.int e) (.int 8) = some (.int (e.fdiv 8)) := gDiv_ok ⟨by decide, small_B (by decide) (by decide)⟩
  have h2 : gMod (.int (e.fdiv 8)) (.int k) = some (.int ((e.fdiv 8).fmod k)) := gMod_ok (show k ≠ 0 by omega)
  exact op_q (op_q rfl rfl h1) rfl h2
theorem sp_ok (ho : Ok l) (hl : l.length ≤ 200) (ha : a.natAbs < 10 ^ 60) (hb : b < 10 ^ 60) : ∃ w, Ok w ∧ w.length ≤ 800 ∧ dSp [tx l, frc a b, .int e] = some (tx w) := by
  have hlen := len_S (l := l) (by omega)
  have hat : gMod (.int (e.fdiv 8)) (.int ((l.length : Nat) + 1)) = some (.int ((e.fdiv 8).fmod ((l.length : Nat) + 1))) := gMod_ok (show ((l.length : Nat) : Int) + 1 ≠ 0 by omega)
  have hr := fmod_rng e (b := 8) (by decide)
  have n8 : ¬ (8 : Int) = 0 := by decide
  have b8 : (8 : Int).natAbs < B := small_B (by decide) (by decide)
  have hS : ∀ o : Option R, Good o → ∃ w, Ok w ∧ w.length ≤ 800 ∧ (o.bind fun r => match r with | .rt t => some t | .nx _ => some .non | _ => none) = some (tx w) := fun o ⟨w, h1, h2, h3⟩ => ⟨w, h1, h2, by rw [h3]; rfl⟩
  generalize hA : (e.fdiv 8).fmod ((l.length : Nat) + 1) = A at *
  generalize hW : e.fmod 8 = W at *
  have hpre : ∀ R : FS, (fSeq (fSet 3 (fOp gMod (fOp gDiv (fVar 2) (fC (.int 8))) (fOp gAdd (fCall dLen (fCons (fVar 0) fNil)) (fC (.int 1))))) (fSeq (fSet 4 (fOp gMod (fVar 2) (fC (.int 8)))) R)) [s (tx l), s (frc a b), s (.int e), none, none] = R (Sv l a b e A W) := by
    intro R
    generalize dLen = dL at *
    clear hA hr hS ha hb hl ho
    walk_at "ev"
  obtain ⟨⟨w1, o1, z1, e1⟩, ⟨w2, o2, z2, e2⟩, ⟨w3, o3, z3, e3⟩⟩ := sv_sl (a := a) (b := b) (e := e) (at' := A) (w := W) ho hl
  obtain ⟨c, oc, ec⟩ := sv_sg (l := l) (a := a) (b := b) (e := e) (at' := A) (w := W)
  have g1 := app3 e1 ec e2 o1 oc o2 z1 (by simp) z2
  have g2 := app3 e1 ec e3 o1 oc o3 z1 (by simp) z3
  have g3 := app2 e1 e3 o1 o3 z1 z3
  have g4 : Good (fRet (fOp gAdd (fOp gAdd (fCall dStr (fCons (fOp gMulI (fOp gIx (fVar 1) (fC (.int 0))) (fC (.int 7))) fNil)) (fC (.str "/"))) (fCall dStr (fCons (fOp gMulI (fOp gIx (fVar 1) (fC (.int 1))) (fC (.int 7))) fNil))) (Sv l a b e A W)) := by
    have p70 : (10 : Nat) ^ 60 * 7 < 10 ^ 72 := by decide +kernel
    have a1 : (a * 7).natAbs < 10 ^ 72 := by omega
    have b1 : b * 7 < 10 ^ 72 := by omega
    have p72 : (10 : Nat) ^ 72 < 10 ^ 100 := by decide +kernel
    have m1 : gMulI (.int a) (.int 7) = some (.int (a * 7)) := gMul_ok ⟨Nat.lt_trans (Nat.lt_trans ha (by decide +kernel)) B_big, small_B (by decide) (by decide)⟩
    have m2 : gMulI (.int b) (.int 7) = some (.int ((b * 7 : Nat) : Int)) := by
      rw [show gMulI (.int b) (.int 7) = some (.int ((b : Int) * 7)) from gMul_ok ⟨Nat.lt_trans (Nat.lt_trans (show (b : Int).natAbs < 10 ^ 60 by simpa using hb) (by decide +kernel)) B_big, small_B (by decide) (by decide)⟩]
      rfl
    have d1 := dstr_int (a := a * 7) (Nat.lt_trans a1 p72)
    have d2 := dstr_nat (n := b * 7) (Nat.lt_trans b1 p72)
    have q1 : (fCall dStr (fCons (fOp gMulI (fOp gIx (fVar 1) (fC (.int 0))) (fC (.int 7))) fNil)) (Sv l a b e A W) = some (tx ((if a * 7 < 0 then [45] else []) ++ ds (a * 7).natAbs), Sv l a b e A W) := by
      have h4 : gIx (frc a b) (.int 0) = some (.int a) := rfl
      generalize ((if a * 7 < 0 then [45] else []) ++ ds (a * 7).natAbs) = v at *
      generalize dStr = dS at *
      generalize a * 7 = a7 at *
      clear d2 hpre g1 g2 g3 e1 e2 e3 ec hlen hat m2
      walk_at "ev"
    have q2 : (fCall dStr (fCons (fOp gMulI (fOp gIx (fVar 1) (fC (.int 1))) (fC (.int 7))) fNil)) (Sv l a b e A W) = some (tx (ds (b * 7)), Sv l a b e A W) := by
      have h4 : gIx (frc a b) (.int 1) = some (.int b) := rfl
      generalize ds (b * 7) = v at *
      generalize dStr = dS at *
      generalize b * 7 = b7 at *
      clear d1 hpre g1 g2 g3 e1 e2 e3 ec hlen hat m1
      walk_at "ev"
    have hl1 := ds_len 71 _ a1
    have hl2 := ds_len 71 _ b1
    rw [t_stroke]
    refine app3 q1 rfl q2 ?_ (Ok.cons (by decide) Ok.nil) (Ok.dig (ds_digits _)) ?_ (by simp) (by omega)
    · refine Ok.app ?_ (Ok.dig (ds_digits _))
      split
      · exact Ok.cons (by decide) Ok.nil
      · exact Ok.nil
    · rw [List.length_append]
      have : (if a * 7 < 0 then [45] else [] : List Nat).length ≤ 1 := by split <;> simp
      omega
  have g5 : Good (fRet spC (Sv l a b e A W)) := by
    have hm := md_ok (l := l) (a := a) (b := b) (e := e) (at' := A) (w := W) 4 (by decide) (by decide)
    have hr4 := fmod_rng (e.fdiv 8) (b := 4) (by decide)
    unfold spC
    refine ix_good (ws := [List.replicate 31 57, 49 :: 47 :: List.replicate 31 57, 45 :: List.replicate 30 57, 49 :: 47 :: List.replicate 30 57]) ?_ hm hr4.1 (by simpa using hr4.2) ?_
    · kernel_rfl
    · have : ∀ w ∈ [List.replicate 31 57, 49 :: 47 :: List.replicate 31 57, 45 :: List.replicate 30 57, 49 :: 47 :: List.replicate 30 57], (∀ c ∈ w, c < 0x110000) ∧ w.length ≤ 800 := by decide +kernel
      exact this
  have g6 : Good (fRet (fOp gIx spL (fOp gMod (fOp gDiv (fVar 2) (fC (.int 8))) (fC (.int 13)))) (Sv l a b e A W)) := by
    have hm := md_ok (l := l) (a := a) (b := b) (e := e) (at' := A) (w := W) 13 (by decide) (by decide)
    have hr4 := fmod_rng (e.fdiv 8) (b := 13) (by decide)
    have ht : Str.ofString "/1" = S [47, 49] := by decide +kernel
    have hadd : gAdd (tx l) (.str "/1") = some (tx (l ++ [47, 49])) := by rw [ht]; exact gstr (by simp; omega)
    refine ix_good (ws := [l ++ [47, 49], [45, 48], [48, 47, 49], [53, 47, 48], [45, 47, 51], [51, 47], [47, 52], [45, 45, 53], [], [45], [48, 55], [49, 47, 48, 50], [43, 49]]) ?_ hm hr4.1 (by simpa using hr4.2) ?_
    · have hc : ∀ t, (fLst (fCons (fC t) (fCons (fC (.str "-0")) (fCons (fC (.str "0/1")) (fCons (fC (.str "5/0")) (fCons (fC (.str "-/3")) (fCons (fC (.str "3/")) (fCons (fC (.str "/4")) (fCons (fC (.str "--5")) (fCons (fC (.str "")) (fCons (fC (.str "-")) (fCons (fC (.str "07")) (fCons (fC (.str "1/02")) (fCons (fC (.str "+1")) fNil)))))))))))))) (Sv l a b e A W)
          = some (.lst (t :: ([[45, 48], [48, 47, 49], [53, 47, 48], [45, 47, 51], [51, 47], [47, 52], [45, 45, 53], [], [45], [48, 55], [49, 47, 48, 50], [43, 49]] : List (List Nat)).map tx), Sv l a b e A W) := fun t => by kernel_rfl
      have hx : (fOp gAdd (fVar 0) (fC (.str "/1"))) (Sv l a b e A W) = fC (tx (l ++ [47, 49])) (Sv l a b e A W) := op_q rfl rfl hadd
      rw [List.map_cons, ← hc (tx (l ++ [47, 49]))]
      unfold spL fLst fCons
      rw [hx]
    · intro w hw
      rcases List.mem_cons.mp hw with h | h
      · rw [h]
        exact ⟨Ok.app ho (Ok.cons (by decide) (Ok.cons (by decide) Ok.nil)), by rw [List.length_append]; simp; omega⟩
      · have : ∀ w ∈ ([[45, 48], [48, 47, 49], [53, 47, 48], [45, 47, 51], [51, 47], [47, 52], [45, 45, 53], [], [45], [48, 55], [49, 47, 48, 50], [43, 49]] : List (List Nat)), (∀ c ∈ w, c < 0x110000) ∧ w.length ≤ 800 := by decide +kernel
        exact this w h
  have g7 : Good (fRet (fVar 0) (Sv l a b e A W)) := ⟨l, ho, by omega, rfl⟩
  have hlt : ∀ k : Int, fTB (fOp gLt (fVar 4) (fC (.int k))) (Sv l a b e A W) = some (decide (W < k), Sv l a b e A W) := fun k => rfl
  have heq : ∀ k : Int, fTB (fOp gEq (fVar 4) (fC (.int k))) (Sv l a b e A W) = some (decide (W = k), Sv l a b e A W) := fun k => by
    exact tb_eq rfl
  refine hS _ ?_
  show Good ((fSeq (fSet 3 (fOp gMod (fOp gDiv (fVar 2) (fC (.int 8))) (fOp gAdd (fCall dLen (fCons (fVar 0) fNil)) (fC (.int 1))))) (fSeq (fSet 4 (fOp gMod (fVar 2) (fC (.int 8)))) _)) [s (tx l), s (frc a b), s (.int e), none, none])
  rw [hpre]
  have step : ∀ (c : FT) (x : Bool) (R1 R2 : FS), c (Sv l a b e A W) = some (x, Sv l a b e A W) → (x = true → Good (R1 (Sv l a b e A W))) → (x = false → Good (R2 (Sv l a b e A W))) → Good (fSeq (fIfS c R1 fNext) R2 (Sv l a b e A W)) := by
    intro c x R1 R2 hc h1 h2
    unfold fSeq fIfS
    rw [hc, Option.bind_some]
    cases x with
    | true =>
      obtain ⟨w, q1, q2, q3⟩ := h1 rfl
      refine ⟨w, q1, q2, ?_⟩
      show ((R1 (Sv l a b e A W)).bind _) = _
      rw [show R1 (Sv l a b e A W) = some (.rt (tx w)) from q3]
      rfl
    | false => exact h2 rfl
  refine step _ _ _ _ (hlt 2) (fun _ => g1) fun _ => step _ _ _ _ (heq 2) (fun _ => g2) fun _ => step _ _ _ _ (heq 3) (fun _ => g3) fun _ => step _ _ _ _ (heq 4) (fun _ => g4) fun _ => step _ _ _ _ (heq 5) (fun _ => g5) fun _ => step _ _ _ _ (heq 6) (fun _ => g6) fun _ => g7
end
end My

namespace My
open PySem PySem.Spec PyProof.Rows L2 TM
noncomputable abbrev dBg : List T → Option T := dOf 4 1 (b__law_big mMix)
theorem pow30 : (fOp gPow (fC (.int 10)) (fC (.int 30))) = fC (.int (10 ^ 30)) := by funext τ; kernel_rfl
theorem pow20 : (fOp gPow (fC (.int 10)) (fC (.int 20))) = fC (.int (10 ^ 20)) := by funext τ; kernel_rfl
theorem pow18 : (fOp gPow (fC (.int 10)) (fC (.int 18))) = fC (.int (10 ^ 18)) := by funext τ; kernel_rfl
theorem two30 : (fOp gSub (fOp gMulI (fC (.int 2)) (fC (.int (10 ^ 30)))) (fC (.int 1))) = fC (.int (2 * 10 ^ 30 - 1)) := by funext τ; kernel_rfl
theorem one30 : (fOp gSub (fC (.int (10 ^ 30))) (fC (.int 1))) = fC (.int (10 ^ 30 - 1)) := by funext τ; kernel_rfl
theorem ix4 {f1 f2 f3 f4 i : FE} {τ : TEnv} {a b c d k : Int} (h1 : f1 τ = some (.int a, τ)) (h2 : f2 τ = some (.int b, τ)) (h3 : f3 τ = some (.int c, τ)) (h4 : f4 τ = some (.int d, τ)) (hi : i τ = some (.int k, τ)) (k0 : 0 ≤ k) (k4 : k < 4) (P : Int → Prop) (pa : P a) (pb : P b) (pc : P c) (pd : P d) :
    ∃ x, P x ∧ (fOp gIx (fLst (fCons f1 (fCons f2 (fCons f3 (fCons f4 fNil))))) i) τ = some (.int x, τ) := by
  have hl : (fLst (fCons f1 (fCons f2 (fCons f3 (fCons f4 fNil))))) τ = some (.lst [.int a, .int b, .int c, .int d], τ) := by
    have l4 : (4 : Nat) ≤ sizeLine := small_le (by decide)
    clear hi k0 k4 pa pb pc pd
    walk_at "ev"
  have c4 : k = 0 ∨ k = 1 ∨ k = 2 ∨ k = 3 := by omega
  rcases c4 with rfl | rfl | rfl | rfl
  · exact ⟨a, pa, op_q hl hi rfl⟩
  · exact ⟨b, pb, op_q hl hi rfl⟩
  · exact ⟨c, pc, op_q hl hi rfl⟩
  · exact ⟨d, pd, op_q hl hi rfl⟩
theorem call2 {d : List T → Option T} {f1 f2 : FE} {τ : TEnv} {a b t : T} (h1 : f1 τ = some (a, τ)) (h2 : f2 τ = some (b, τ)) (h : d [a, b] = some t) : fCall d (fCons f1 (fCons f2 fNil)) τ = some (t, τ) := by
  simp only [fCall, fCons, fNil, h1, h2, h, Option.bind_some]
theorem bg_ok (c : Int) : ∃ x y : Int, x.natAbs < 10 ^ 30 ∧ 1 ≤ y ∧ y < 10 ^ 30 ∧ dBg [.int c] = some (.lst [.int x, .int y]) := by
  have m1 := mMix_eq (c := c) (k := 1) (small_B (by decide) (by decide))
  have m2 := mMix_eq (c := c) (k := 2) (small_B (by decide) (by decide))
  have m3 := mMix_eq (c := c) (k := 3) (small_B (by decide) (by decide))
  have r1 := mixF_rng c 1
  have r2 := mixF_rng c 2
  have r3 := mixF_rng c 3
  have p30 : (10 : Int) ^ 30 = 1000000000000000000000000000000 := by decide +kernel
  have q30 : (10 : Nat) ^ 30 = 1000000000000000000000000000000 := by decide +kernel
  have p20 : (10 : Int) ^ 20 = 100000000000000000000 := by decide +kernel
  have p18 : (10 : Int) ^ 18 = 1000000000000000000 := by decide +kernel
  generalize mixF c 1 = e at *
  generalize mixF c 2 = e2 at *
  generalize mixF c 3 = e3 at *
  have h0 : gMod (.int c) (.int 2) = some (.int (c.fmod 2)) := gMod_ok (show (2 : Int) ≠ 0 by decide)
  have hB30 : ((10 : Int) ^ 30).natAbs < B := big_B (by decide +kernel) (by decide +kernel)
  have body : b__law_big mMix = (fSeq (fSet 1 (fCall mMix (fCons (fVar 0) (fCons (fC (.int 1)) fNil))))
    (fSeq (fIfS (fTB (fOp gEq (fOp gMod (fVar 0) (fC (.int 2))) (fC (.int 1)))) (fRet (fLst (fCons (fOp gAdd (fOp gSub (fOp gMod (fOp gDiv (fVar 0) (fC (.int 2))) (fC (.int (2 * 10 ^ 30 - 1)))) (fC (.int (10 ^ 30)))) (fC (.int 1))) (fCons (fOp gAdd (fOp gMod (fOp gDiv (fOp gDiv (fVar 0) (fC (.int 2))) (fC (.int (2 * 10 ^ 30 - 1)))) (fC (.int (10 ^ 30 - 1)))) (fC (.int 1))) fNil)))) fNext)
    (fSeq (fSet 2 (fOp gAdd (fOp gMulI (fCall mMix (fCons (fVar 0) (fCons (fC (.int 2)) fNil))) (fC (.int (10 ^ 20)))) (fVar 1)))
    (fSeq (fSet 3 (fOp gIx (fLst (fCons (fOp gSub (fOp gMod (fOp gDiv (fVar 1) (fC (.int 4))) (fC (.int 9))) (fC (.int 4))) (fCons (fOp gMod (fOp gDiv (fVar 1) (fC (.int 4))) (fC (.int 1000))) (fCons (fVar 2) (fCons (fOp gSub (fC (.int 0)) (fVar 2)) fNil))))) (fOp gMod (fVar 1) (fC (.int 4)))))
    (fRet (fLst (fCons (fVar 3) (fCons (fOp gIx (fLst (fCons (fC (.int 1)) (fCons (fOp gAdd (fC (.int 1)) (fOp gMod (fOp gDiv (fVar 1) (fC (.int 40))) (fC (.int 12)))) (fCons (fOp gAdd (fC (.int 1)) (fOp gMulI (fCall mMix (fCons (fVar 0) (fCons (fC (.int 3)) fNil))) (fC (.int (10 ^ 18))))) (fCons (fOp gAdd (fC (.int 1)) (fOp gMod (fOp gDiv (fVar 1) (fC (.int 7))) (fC (.int 720)))) fNil))))) (fOp gMod (fOp gDiv (fVar 1) (fC (.int 3))) (fC (.int 4)))) fNil)))))))) := by
    rw [← one30, ← two30, ← pow18, ← pow20, ← pow30]
    rfl
  show ∃ x y : Int, x.natAbs < 10 ^ 30 ∧ 1 ≤ y ∧ y < 10 ^ 30 ∧ (b__law_big mMix [s (.int c), none, none, none]).bind _ = _
  rw [body]
  clear body
  have dv : ∀ i j : Int, j ≠ 0 → j.natAbs < 10 ^ 40 → gDiv (.int i) (.int j) = some (.int (i.fdiv j)) := fun i j h1 h2 => gDiv_ok ⟨h1, Nat.lt_trans h2 (Nat.lt_trans (by decide +kernel) B_big)⟩
  have md : ∀ i j : Int, j ≠ 0 → gMod (.int i) (.int j) = some (.int (i.fmod j)) := fun i j h1 => gMod_ok h1
  by_cases hodd : c.fmod 2 = 1
  · have he : gEq (.int (c.fmod 2)) (.int 1) = some (.bl true) := by rw [gEq_int, decide_eq_true hodd]
    have a1 := dv c 2 (by decide) (by decide +kernel)
    have a2 := md (c.fdiv 2) (2 * 10 ^ 30 - 1) (by decide +kernel)
    have a3 := dv (c.fdiv 2) (2 * 10 ^ 30 - 1) (by decide +kernel) (by decide +kernel)
    have a4 := md ((c.fdiv 2).fdiv (2 * 10 ^ 30 - 1)) (10 ^ 30 - 1) (by decide +kernel)
    have s1 := fmod_rng (c.fdiv 2) (b := 2 * 10 ^ 30 - 1) (by decide +kernel)
    have s2 := fmod_rng ((c.fdiv 2).fdiv (2 * 10 ^ 30 - 1)) (b := 10 ^ 30 - 1) (by decide +kernel)
    refine ⟨(c.fdiv 2).fmod (2 * 10 ^ 30 - 1) - 10 ^ 30 + 1, ((c.fdiv 2).fdiv (2 * 10 ^ 30 - 1)).fmod (10 ^ 30 - 1) + 1, by omega, by omega, by omega, ?_⟩
    generalize ((c.fdiv 2).fdiv (2 * 10 ^ 30 - 1)).fmod (10 ^ 30 - 1) = v2 at *
    generalize (c.fdiv 2).fmod (2 * 10 ^ 30 - 1) = v1 at *
    generalize (c.fdiv 2).fdiv (2 * 10 ^ 30 - 1) = v3 at *
    generalize (2 * (10 : Int) ^ 30 - 1) = k1 at *
    generalize ((10 : Int) ^ 30 - 1) = k2 at *
    generalize (10 : Int) ^ 30 = k3 at *
    generalize c.fdiv 2 = v4 at *
    generalize c.fmod 2 = v5 at *
    generalize mMix = mM at *
    generalize gDiv = gD at *
    generalize gMod = gM at *
    clear m2 m3 r1 r2 r3 p30 q30 p20 p18 hB30 dv md hodd s1 s2
    walk_at "ev"
  · have he : gEq (.int (c.fmod 2)) (.int 1) = some (.bl false) := by rw [gEq_int, decide_eq_false hodd]
    have hm2 : gMulI (.int e2) (.int (10 ^ 20)) = some (.int (e2 * 10 ^ 20)) := gMul_ok ⟨ltB_of (by omega) (by omega), big_B (by decide +kernel) (by decide +kernel)⟩
    have hm3 : gMulI (.int e3) (.int (10 ^ 18)) = some (.int (e3 * 10 ^ 18)) := gMul_ok ⟨ltB_of (by omega) (by omega), big_B (by decide +kernel) (by decide +kernel)⟩
    have t1 := fmod_rng (e.fdiv 4) (b := 9) (by decide)
    have t2 := fmod_rng (e.fdiv 4) (b := 1000) (by decide)
    have t3 := fmod_rng e (b := 4) (by decide)
    have t4 := fmod_rng (e.fdiv 40) (b := 12) (by decide)
    have t5 := fmod_rng (e.fdiv 7) (b := 720) (by decide)
    have t6 := fmod_rng (e.fdiv 3) (b := 4) (by decide)
    have far : (e2 * 10 ^ 20 + e).natAbs < 10 ^ 30 := by
      rw [p20, q30]; omega
    obtain ⟨x, hx, ex⟩ := ix4 (τ := [s (.int c), s (.int e), s (.int (e2 * 10 ^ 20 + e)), none]) (f1 := (fOp gSub (fOp gMod (fOp gDiv (fVar 1) (fC (.int 4))) (fC (.int 9))) (fC (.int 4)))) (f2 := (fOp gMod (fOp gDiv (fVar 1) (fC (.int 4))) (fC (.int 1000)))) (f3 := fVar 2) (f4 := (fOp gSub (fC (.int 0)) (fVar 2))) (i := (fOp gMod (fVar 1) (fC (.int 4))))
      (op_q (op_q (op_q rfl rfl (dv e 4 (by decide) (by decide +kernel))) rfl (md _ 9 (by decide))) rfl rfl) (op_q (op_q rfl rfl (dv e 4 (by decide) (by decide +kernel))) rfl (md _ 1000 (by decide))) rfl (op_q rfl rfl rfl) (op_q rfl rfl (md e 4 (by decide))) t3.1 t3.2
      (fun x => x.natAbs < 10 ^ 30) (by show Int.natAbs _ < _; rw [q30]; omega) (by show Int.natAbs _ < _; rw [q30]; omega) far (by show Int.natAbs _ < _; omega)
    obtain ⟨y, hy, ey⟩ := ix4 (τ := [s (.int c), s (.int e), s (.int (e2 * 10 ^ 20 + e)), s (.int x)]) (f1 := fC (.int 1)) (f2 := (fOp gAdd (fC (.int 1)) (fOp gMod (fOp gDiv (fVar 1) (fC (.int 40))) (fC (.int 12))))) (f3 := (fOp gAdd (fC (.int 1)) (fOp gMulI (fCall mMix (fCons (fVar 0) (fCons (fC (.int 3)) fNil))) (fC (.int (10 ^ 18)))))) (f4 := (fOp gAdd (fC (.int 1)) (fOp gMod (fOp gDiv (fVar 1) (fC (.int 7))) (fC (.int 720))))) (i := (fOp gMod (fOp gDiv (fVar 1) (fC (.int 3))) (fC (.int 4))))
      rfl (op_q rfl (op_q (op_q rfl rfl (dv e 40 (by decide) (by decide +kernel))) rfl (md _ 12 (by decide))) rfl) (op_q rfl (op_q (call2 rfl rfl m3) rfl hm3) rfl) (op_q rfl (op_q (op_q rfl rfl (dv e 7 (by decide) (by decide +kernel))) rfl (md _ 720 (by decide))) rfl) (op_q (op_q rfl rfl (dv e 3 (by decide) (by decide +kernel))) rfl (md _ 4 (by decide))) t6.1 t6.2
      (fun y => 1 ≤ y ∧ y < 10 ^ 30) (by show _ ∧ _; rw [p30]; omega) (by show _ ∧ _; rw [p30]; omega) (by show _ ∧ _; rw [p30, p18]; omega) (by show _ ∧ _; rw [p30]; omega)
    refine ⟨x, y, hx, hy.1, hy.2, ?_⟩
    generalize (fOp gIx (fLst (fCons (fOp gSub (fOp gMod (fOp gDiv (fVar 1) (fC (.int 4))) (fC (.int 9))) (fC (.int 4))) (fCons (fOp gMod (fOp gDiv (fVar 1) (fC (.int 4))) (fC (.int 1000))) (fCons (fVar 2) (fCons (fOp gSub (fC (.int 0)) (fVar 2)) fNil))))) (fOp gMod (fVar 1) (fC (.int 4)))) = f1 at *
    generalize (fOp gIx (fLst (fCons (fC (.int 1)) (fCons (fOp gAdd (fC (.int 1)) (fOp gMod (fOp gDiv (fVar 1) (fC (.int 40))) (fC (.int 12)))) (fCons (fOp gAdd (fC (.int 1)) (fOp gMulI (fCall mMix (fCons (fVar 0) (fCons (fC (.int 3)) fNil))) (fC (.int (10 ^ 18))))) (fCons (fOp gAdd (fC (.int 1)) (fOp gMod (fOp gDiv (fVar 1) (fC (.int 7))) (fC (.int 720)))) fNil))))) (fOp gMod (fOp gDiv (fVar 1) (fC (.int 3))) (fC (.int 4)))) = f2 at *
    generalize (fLst (fCons (fOp gAdd (fOp gSub (fOp gMod (fOp gDiv (fVar 0) (fC (.int 2))) (fC (.int (2 * 10 ^ 30 - 1)))) (fC (.int (10 ^ 30)))) (fC (.int 1))) (fCons (fOp gAdd (fOp gMod (fOp gDiv (fOp gDiv (fVar 0) (fC (.int 2))) (fC (.int (2 * 10 ^ 30 - 1)))) (fC (.int (10 ^ 30 - 1)))) (fC (.int 1))) fNil))) = f3 at *
    generalize (10 : Int) ^ 20 = k2 at *
    generalize e2 * k2 = ek at *
    generalize mMix = mM at *
    generalize gMod = gM at *
    clear m3 r1 r2 r3 p30 q30 p20 p18 hB30 dv md hodd hm3 t1 t2 t3 t4 t5 t6 far hx hy
    generalize c.fmod 2 = v5 at *
    walk_at "ev"
end My

namespace My
open PySem PySem.Spec PyProof.Rows L2 TM
theorem low {x y : Int} (hy : 1 ≤ y) : ∃ (a : Int) (b : Nat), frT x y = frc a b ∧ a.natAbs ≤ x.natAbs ∧ 1 ≤ b ∧ (b : Int) ≤ y ∧ Int.gcd a b = 1 := by
  have hg : Int.gcd x y ≠ 0 := fun z => gcd_ne (a := x) (b := y) (by omega) (by rw [z]; rfl)
  obtain ⟨a, ha⟩ : ((Int.gcd x y : Nat) : Int) ∣ x := Int.gcd_dvd_left ..
  obtain ⟨b, hb⟩ : ((Int.gcd x y : Nat) : Int) ∣ y := Int.gcd_dvd_right ..
  generalize hG : Int.gcd x y = g at *
  have hb1 : 1 ≤ b := by
    by_cases z : b < 1
    · have : (g : Int) * b ≤ 0 := Int.mul_nonpos_of_nonneg_of_nonpos (by omega) (by omega)
      omega
    · omega
  obtain ⟨n, rfl⟩ := Int.eq_ofNat_of_zero_le (show 0 ≤ b by omega)
  have hs : sg x y = (g : Int) := by unfold sg; rw [if_neg (by omega), hG]
  have e1 : x.fdiv g = a := by rw [ha, Int.mul_fdiv_cancel_left _ (by omega)]
  have e2 : y.fdiv g = (n : Int) := by rw [hb, Int.mul_fdiv_cancel_left _ (by omega)]
  refine ⟨a, n, ?_, ?_, by omega, ?_, ?_⟩
  · unfold frT
    rw [hs, e1, e2]
  · rw [ha, Int.natAbs_mul]
    exact Nat.le_mul_of_pos_left _ (by omega)
  · rw [hb]
    have : (1 : Int) * (n : Int) ≤ (g : Int) * n := Int.mul_le_mul_of_nonneg_right (by omega) (by omega)
    omega
  · rw [ha, hb, Int.gcd_mul_left] at hG
    have : (g : Int).natAbs = g := by simp
    rw [this] at hG
    have h2 : g * Int.gcd a n = g * 1 := by omega
    exact Nat.eq_of_mul_eq_mul_left (by omega) h2
noncomputable def lawB : FS := (fSeq (fSet 2 (fCall mCell (fCons (fVar 0) (fCons (fVar 1) fNil))))
    (fSeq (fSet 3 (fCall dBg (fCons (fVar 2) fNil)))
    (fSeq (fSet 4 (fCall mFrac (fCons (fOp gIx (fVar 3) (fC (.int 0))) (fCons (fOp gIx (fVar 3) (fC (.int 1))) fNil))))
    (fSeq (fSet 5 (fCall dTx (fCons (fVar 4) fNil)))
    (fSeq (fIfS (fOr (fNot (fTru (fCall (dSame 4) (fCons (fCall dSf (fCons (fVar 4) fNil)) (fCons (fVar 5) fNil))))) (fNot (fTru (fCall dRr (fCons (fVar 5) (fCons (fVar 4) fNil)))))) (fRet (fC (.bl false))) fNext)
    (fSeq (fSet 6 (fCall mFrac (fCons (fOp gAdd (fOp gMulI (fOp gIx (fVar 4) (fC (.int 0))) (fOp gPow (fC (.int 10)) (fC (.int 30)))) (fC (.int 1))) (fCons (fOp gIx (fVar 4) (fC (.int 1))) fNil))))
    (fSeq (fIfS (fNot (fTru (fCall (dSame 4) (fCons (fCall dSf (fCons (fVar 6) fNil)) (fCons (fCall dTx (fCons (fVar 6) fNil)) fNil))))) (fRet (fC (.bl false))) fNext)
    (fSeq (fSet 7 (fCall dSp (fCons (fVar 5) (fCons (fVar 4) (fCons (fCall mMix (fCons (fVar 2) (fCons (fOp gAdd (fC (.int 20)) (fVar 1)) fNil))) fNil)))))
    (fIfS (fNot (fTru (fCall dRr (fCons (fVar 7) (fCons (fCall dDu (fCons (fVar 7) fNil)) fNil))))) (fRet (fC (.bl false))) fNext)))))))))
noncomputable def oddF : FE := (fLst (fCons (fC .non) (fCons (fC (.int 5)) (fCons (fC (.bl true)) (fCons (fLst (fCons (fC (.str "1")) fNil)) (fCons (fTup (fCons (fC (.str "1")) fNil)) (fCons (fTup (fCons (fC (.int 1)) (fCons (fC (.int 2)) fNil))) (fCons fDic (fCons (fLst (fCons (fC (.int 1)) (fCons (fC (.int 2)) fNil))) fNil)))))))))
noncomputable def lawM : FE := (fCall dMax (fCons (fC (.int 4)) (fCons (fCall dMin (fCons (fC (.int 30)) (fCons (fCall dLen (fCons (fVar 0) fNil)) fNil))) fNil)))
noncomputable def lawN : FA := (fCons lawM fNil)
theorem rng1_eqI {f : FE} {τ : TEnv} {n : Int} (h : f τ = some (.int n, τ)) (h0 : 0 ≤ n) (h1 : n ≤ 1000) : fiRng1 (fCons f fNil) τ = some (TM.upTo 0 n.toNat, τ) := by
  unfold fiRng1 fCons fNil
  rw [h]
  show (if -(2 ^ 62) ≤ n ∧ n < 2 ^ 62 then some (TM.upTo 0 n.toNat, τ) else none) = _
  rw [if_pos (by omega)]
noncomputable abbrev dL := dOf 9 1 (b_law mCell dBg mFrac dTx dSf (dSame 4) dRr mMix dSp dDu)
theorem dL_eq : b_law mCell dBg mFrac dTx dSf (dSame 4) dRr mMix dSp dDu = fSeq (fFor (fiRng1 lawN) (gnName 1) lawB) (fSeq (fSet 8 (fOp gIx oddF (fOp gMod (fCall mMix (fCons (fCall mCell (fCons (fVar 0) (fCons (fC (.int 0)) fNil))) (fCons (fC (.int 4)) fNil))) (fC (.int 8)))))
    (fRet (fCall dRr (fCons (fVar 8) (fCons (fC .non) fNil))))) := rfl
theorem same_tx {l : List Nat} (h : Ok l) : dSame 4 [tx l, tx l] = some (.bl true) := dSame_eq 3 _ (by
  show (PyData.strOk (S l) && decide (_ ≤ 64)) = true
  rw [h.str]; rfl)
theorem law_turn (ns : List Int) (k : Int) (h0 : 0 ≤ k) (h1 : k < 1000) (o2 o3 o4 o5 o6 o7 o8 : Option Sl) : ∃ p2 p3 p4 p5 p6 p7 : Option Sl, lawB [s (.scr (ns.map T.int)), s (.int k), o2, o3, o4, o5, o6, o7, o8] = some (.nx [s (.scr (ns.map T.int)), s (.int k), p2, p3, p4, p5, p6, p7, o8]) := by
  have hcell := mCell_eq (ns := ns) h0 (by omega)
  generalize cellF ns k = c at *
  obtain ⟨x, y, hx, hy1, hy2, hbg⟩ := bg_ok c
  have q30 : (10 : Nat) ^ 30 = 1000000000000000000000000000000 := by decide +kernel
  have p30 : (10 : Int) ^ 30 = 1000000000000000000000000000000 := by decide +kernel
  have q72 : (10 : Nat) ^ 30 < 10 ^ 72 := by decide +kernel
  have q60 : (10 : Nat) ^ 30 < 10 ^ 60 := by decide +kernel
  have qB : (10 : Nat) ^ 72 < B := by decide +kernel
  obtain ⟨a, b, hfr, ha, hb1, hb2, hg⟩ := low (x := x) hy1
  have hf1 : mFrac [.int x, .int y] = some (frc a b) := by
    rw [mFrac_eq (Nat.lt_trans (Nat.lt_trans hx q72) qB) (Nat.lt_trans (Nat.lt_trans (show y.natAbs < 10 ^ 30 by omega) q72) qB) (by omega), hfr]
  have ha30 : a.natAbs < 10 ^ 30 := by omega
  have hb30 : b < 10 ^ 30 := by omega
  have ht1 := tx_ok (Nat.lt_trans ha30 q72) (Nat.lt_trans hb30 q72)
  have hs1 := sf_ok (Nat.lt_trans ha30 q72) (Nat.lt_trans hb30 q72)
  have hsm1 := same_tx (Ok.shw a b)
  have hrd := rd_shw ha30 hb30 hb1 hg
  have hmul : gMulI (.int a) (.int (10 ^ 30)) = some (.int (a * 10 ^ 30)) := gMul_ok ⟨Nat.lt_trans (Nat.lt_trans ha30 q72) qB, big_B (by decide +kernel) (by decide +kernel)⟩
  have hbig : (a * 10 ^ 30 + 1).natAbs < 10 ^ 72 := by
    have h2 : (a * 10 ^ 30).natAbs = a.natAbs * 10 ^ 30 := by rw [Int.natAbs_mul]; rfl
    have h3 : a.natAbs * 10 ^ 30 ≤ 10 ^ 30 * 10 ^ 30 := Nat.mul_le_mul_right _ (by omega)
    have h4 : (10 : Nat) ^ 30 * 10 ^ 30 + 1 < 10 ^ 72 := by decide +kernel
    omega
  obtain ⟨a2, b2, hfr2, ha2, hb21, hb22, _⟩ := low (x := a * 10 ^ 30 + 1) (y := (b : Int)) (by omega)
  have hf2 : mFrac [.int (a * 10 ^ 30 + 1), .int b] = some (frc a2 b2) := by
    rw [mFrac_eq (Nat.lt_trans hbig qB) (Nat.lt_trans (Nat.lt_trans (show (b : Int).natAbs < 10 ^ 30 by omega) q72) qB) (by omega), hfr2]
  have ht2 := tx_ok (a := a2) (b := b2) (by omega) (Nat.lt_trans (show b2 < 10 ^ 30 by omega) q72)
  have hs2 := sf_ok (a := a2) (b := b2) (by omega) (Nat.lt_trans (show b2 < 10 ^ 30 by omega) q72)
  have hsm2 := same_tx (Ok.shw a2 b2)
  have hmix := mMix_eq (c := c) (k := 20 + k) (small_B (by omega) (by omega))
  generalize mixF c (20 + k) = e at *
  obtain ⟨w, ow, lw, hsp⟩ := sp_ok (e := e) (Ok.shw a b) (len_shw (Nat.lt_trans ha30 q72) (Nat.lt_trans hb30 q72)) (Nat.lt_trans ha30 q60) (Nat.lt_trans hb30 q60)
  obtain ⟨t, hdu, hrr⟩ := rr_text ow lw
  refine ⟨s (.int c), s (.lst [.int x, .int y]), s (frc a b), s (tx (shw a b)), s (frc a2 b2), s (tx w), ?_⟩
  have i1 : gIx (frc a b) (.int 0) = some (.int a) := rfl
  have i2 : gIx (frc a b) (.int 1) = some (.int b) := rfl
  unfold lawB
  rw [pow30]
  generalize dBg = d1 at *
  generalize mFrac = d2 at *
  generalize dTx = d3 at *
  generalize dSf = d4 at *
  generalize dSame 4 = d5 at *
  generalize dRr = d6 at *
  generalize dSp = d7 at *
  generalize dDu = d8 at *
  generalize shw a b = w1 at *
  generalize shw a2 b2 = w2 at *
  generalize (10 : Int) ^ 30 = k30 at *
  generalize a * k30 = ak at *
  clear hx hy1 hy2 q30 p30 q72 q60 qB hfr ha hb1 hb2 hg ha30 hb30 hbig hfr2 ha2 hb21 hb22 ow lw h0 h1
  walk_at "ev"
theorem law_loop (ns : List Int) (o8 : Option Sl) : ∀ (n : Nat) (lo : Int) (o1 o2 o3 o4 o5 o6 o7 : Option Sl), 0 ≤ lo → lo + n ≤ 1000 → ∃ p1 p2 p3 p4 p5 p6 p7 : Option Sl, loopT (gnName 1) lawB (TM.upTo lo n) [s (.scr (ns.map T.int)), o1, o2, o3, o4, o5, o6, o7, o8] = some (.nx [s (.scr (ns.map T.int)), p1, p2, p3, p4, p5, p6, p7, o8])
  | 0, lo, o1, o2, o3, o4, o5, o6, o7, _, _ => ⟨o1, o2, o3, o4, o5, o6, o7, rfl⟩
  | n + 1, lo, o1, o2, o3, o4, o5, o6, o7, h0, h1 => by
    obtain ⟨p2, p3, p4, p5, p6, p7, hb⟩ := law_turn ns lo h0 (by omega) o2 o3 o4 o5 o6 o7 o8
    obtain ⟨q1, q2, q3, q4, q5, q6, q7, hq⟩ := law_loop ns o8 n (lo + 1) (s (.int lo)) p2 p3 p4 p5 p6 p7 (by omega) (by omega)
    refine ⟨q1, q2, q3, q4, q5, q6, q7, ?_⟩
    rw [show TM.upTo lo (n + 1) = T.int lo :: TM.upTo (lo + 1) n from rfl, loopT, show gnName 1 (T.int lo) [s (.scr (ns.map T.int)), o1, o2, o3, o4, o5, o6, o7, o8] = some [s (.scr (ns.map T.int)), s (.int lo), o2, o3, o4, o5, o6, o7, o8] from rfl, Option.bind_some, hb]
    exact hq
theorem law_true63 (ns : List Int) (hl : ns.length ≤ 63) : dL [.scr (ns.map T.int)] = some (.bl true) := by
  have hn : ∃ k : Int, 0 ≤ k ∧ k ≤ 100 ∧ lawM [s (.scr (ns.map T.int)), none, none, none, none, none, none, none, none] = some (.int k, [s (.scr (ns.map T.int)), none, none, none, none, none, none, none, none]) := by
    refine ⟨_, ?_, ?_, rfl⟩
    · split <;> omega
    · rw [List.length_map]
      split <;> split <;> omega
  obtain ⟨k, k0, k1, hk⟩ := hn
  have hk : fiRng1 lawN [s (.scr (ns.map T.int)), none, none, none, none, none, none, none, none] = some (TM.upTo 0 k.toNat, [s (.scr (ns.map T.int)), none, none, none, none, none, none, none, none]) := rng1_eqI hk k0 (by omega)
  obtain ⟨p1, p2, p3, p4, p5, p6, p7, hlp⟩ := law_loop ns none k.toNat 0 none none none none none none none (by omega) (by omega)
  have hcell := mCell_eq (ns := ns) (k := 0) (by decide) (by decide)
  have hmix := mMix_eq (c := cellF ns 0) (k := 4) (small_B (by decide) (by decide))
  generalize cellF ns 0 = c at *
  have hr := fmod_rng (mixF c 4) (b := 8) (by decide)
  have hmod : gMod (.int (mixF c 4)) (.int 8) = some (.int ((mixF c 4).fmod 8)) := gMod_ok (show (8 : Int) ≠ 0 by decide)
  generalize (mixF c 4).fmod 8 = m at *
  generalize mixF c 4 = e at *
  have hodd : oddF [s (.scr (ns.map T.int)), p1, p2, p3, p4, p5, p6, p7, none] = some (.lst oddL, [s (.scr (ns.map T.int)), p1, p2, p3, p4, p5, p6, p7, none]) := by kernel_rfl
  have hix : ∃ t, gIx (.lst oddL) (.int m) = some t ∧ dIsi [t, .ty "str"] = some (.bl false) := by
    have c8 : m = 0 ∨ m = 1 ∨ m = 2 ∨ m = 3 ∨ m = 4 ∨ m = 5 ∨ m = 6 ∨ m = 7 := by omega
    rcases c8 with rfl | rfl | rfl | rfl | rfl | rfl | rfl | rfl
    · exact ⟨.non, rfl, rfl⟩
    · exact ⟨.int 5, rfl, rfl⟩
    · exact ⟨.bl true, rfl, rfl⟩
    · exact ⟨.lst [.str "1"], rfl, rfl⟩
    · exact ⟨.tup [.str "1"], rfl, rfl⟩
    · exact ⟨.tup [.int 1, .int 2], rfl, rfl⟩
    · exact ⟨.dic, rfl, rfl⟩
    · exact ⟨.lst [.int 1, .int 2], rfl, rfl⟩
  obtain ⟨t, hix, hno⟩ := hix
  have hrr := odd_no t hno
  have hrest : (fSeq (fSet 8 (fOp gIx oddF (fOp gMod (fCall mMix (fCons (fCall mCell (fCons (fVar 0) (fCons (fC (.int 0)) fNil))) (fCons (fC (.int 4)) fNil))) (fC (.int 8))))) (fRet (fCall dRr (fCons (fVar 8) (fCons (fC .non) fNil))))) [s (.scr (ns.map T.int)), p1, p2, p3, p4, p5, p6, p7, none] = some (.rt (.bl true)) := by
    generalize oddF = fo at *
    generalize dRr = d6 at *
    generalize mCell = mC at *
    generalize mMix = mM at *
    generalize gMod = gM at *
    clear hlp hk hr hno
    walk_at "ev"
  unfold dL
  rw [dL_eq]
  show ((fSeq (fFor (fiRng1 lawN) (gnName 1) lawB) _) [s (.scr (ns.map T.int)), none, none, none, none, none, none, none, none]).bind _ = _
  rw [fSeq, fFor, hk, Option.bind_some]
  dsimp only
  rw [hlp, Option.bind_some]
  dsimp only
  rw [hrest]
  rfl
end My

namespace My
open PySem PySem.Spec PyProof.Rows L2 TM
theorem len1 {α : Type} {us : List α} (h : us.length = 1) : ∃ a, us = [a] := List.length_eq_one_iff.mp h
theorem len2 {α : Type} {us : List α} (h : us.length = 2) : ∃ a b, us = [a, b] := by
  rcases us with _ | ⟨a, us⟩
  · cases h
  · obtain ⟨b, rfl⟩ := len1 (us := us) (by simpa using h)
    exact ⟨a, b, rfl⟩
theorem len3 {α : Type} {us : List α} (h : us.length = 3) : ∃ a b c, us = [a, b, c] := by
  rcases us with _ | ⟨a, us⟩
  · cases h
  · obtain ⟨b, c, rfl⟩ := len2 (us := us) (by simpa using h)
    exact ⟨a, b, c, rfl⟩
noncomputable def fo (s : Stmt) (nm qn : Str) (pm : Value) (c : Addr) : Obj := ⟨.type "function", none, .func (PySem.W.fnOf nm qn (defArgs s) (defBody s) (defScope s) .none .none .none pm none (.ref c) .none), #[]⟩
theorem fk {K : PySem.W.Frag} (st : Stmt) (f c : Addr) (nm qn : Str) (pm : Value) (l : K.lookup f = some (fo st nm qn pm c)) (h : PySem.W.codeIn K (.ref c) qn = true) : Fun K nm qn st f (PySem.W.fnOf nm qn (defArgs st) (defBody st) (defScope st) .none .none .none pm none (.ref c) .none) := fun_mk l h (by unfold PySem.W.keepIn; dsimp only; rw [l]; rfl)
noncomputable abbrev dLaw : List T → Option T := (dOf 9 1 (b_law (mCell) (dBg) (mFrac) (dTx) (dSf) (dSame 4) (dRr) (mMix) (dSp) (dDu)))
set_option maxHeartbeats 0 in
theorem all_mk {w : World} {h : Heap} {mg : Str → Option Value} {fa : Addr} (X : (kk w.params).In h) (G : h.Ns mainGlobals mg) (hfa : mg "law" = some (.ref fa)) :
    ∃ fd : FuncData, (∀ (s : Shared) (v : Value), BindsTo s fd ⟨[v], []⟩ [("_law_script", v)]) ∧ ∀ base : Heap, (kk w.params).In base → base.Ns mainGlobals mg → FnOk pg w (kk w.params) mg base CX0 6 fa fd ["_law_script"] (spT (kk w.params) 1 dLaw) := by
  have mq : ∀ (x : Str) (v : Value), PySem.W.nsIn (kk w.params) mainGlobals x = some (some v) → mg x = some v := fun x v e => PySem.W.mg_of X G e
  have mn : ∀ x : Str, PySem.W.nsIn (kk w.params) mainGlobals x = some none → mg x = none := fun x e => PySem.W.mg_none_of X G e
  have e := hfa.symm.trans (mq "law" (.ref 300) (by kernel_rfl))
  cases e
  have a0 := fk (K := kk w.params) s__law_cell 225 224 "_law_cell" "_law_cell" md0 (by kernel_rfl) (by kernel_rfl)
  have b0 := a0.binds (ps := ["_law_script", "_law_k"]) fun _ _ _ _ _ _ us hl => by obtain ⟨a, b, rfl⟩ := len2 hl; rfl
  have c0 := mq "_law_cell" (.ref 225) (by kernel_rfl)
  have d0 := fk (K := kk w.params) s__law_mix 232 231 "_law_mix" "_law_mix" md0 (by kernel_rfl) (by kernel_rfl)
  have e0 := d0.binds (ps := ["_law_cell_here", "_law_k"]) fun _ _ _ _ _ _ us hl => by obtain ⟨a, b, rfl⟩ := len2 hl; rfl
  have f0 := mq "_law_mix" (.ref 232) (by kernel_rfl)
  have g0 := fk (K := kk w.params) s__law_big 253 252 "_law_big" "_law_big" md0 (by kernel_rfl) (by kernel_rfl)
  have i0 := g0.binds (ps := ["_law_cell_here"]) fun _ _ _ _ _ _ us hl => by obtain ⟨a, rfl⟩ := len1 hl; rfl
  have j0 := mq "_law_big" (.ref 253) (by kernel_rfl)
  have k0 := fk (K := kk w.params) s__law_frac 246 245 "_law_frac" "_law_frac" md0 (by kernel_rfl) (by kernel_rfl)
  have l0 := k0.binds (ps := ["_law_top", "_law_bottom"]) fun _ _ _ _ _ _ us hl => by obtain ⟨a, b, rfl⟩ := len2 hl; rfl
  have o0 := mq "_law_frac" (.ref 246) (by kernel_rfl)
  have q0 := fk (K := kk w.params) s__law_text 260 259 "_law_text" "_law_text" md0 (by kernel_rfl) (by kernel_rfl)
  have r0 := q0.binds (ps := ["_law_one"]) fun _ _ _ _ _ _ us hl => by obtain ⟨a, rfl⟩ := len1 hl; rfl
  have s0 := mq "_law_text" (.ref 260) (by kernel_rfl)
  have t0 := fk (K := kk w.params) s_figures 206 205 "figures" "figures" md1 (by kernel_rfl) (by kernel_rfl)
  have u0 := t0.binds (ps := ["number"]) fun _ _ _ _ _ _ us hl => by obtain ⟨a, rfl⟩ := len1 hl; rfl
  have v0 := mq "figures" (.ref 206) (by kernel_rfl)
  have y0 := fk (K := kk w.params) s_show_frac 199 198 "show_frac" "show_frac" md1 (by kernel_rfl) (by kernel_rfl)
  have z0 := y0.binds (ps := ["one"]) fun _ _ _ _ _ _ us hl => by obtain ⟨a, rfl⟩ := len1 hl; rfl
  have a1 := mq "show_frac" (.ref 199) (by kernel_rfl)
  have b1 := fk (K := kk w.params) s__law_same 239 238 "_law_same" "_law_same" md0 (by kernel_rfl) (by kernel_rfl)
  have c1 := b1.binds (ps := ["_law_found", "_law_due_here"]) fun _ _ _ _ _ _ us hl => by obtain ⟨a, b, rfl⟩ := len2 hl; rfl
  have d1 := mq "_law_same" (.ref 239) (by kernel_rfl)
  have e1 := fk (K := kk w.params) s_is_figures 218 217 "is_figures" "is_figures" md1 (by kernel_rfl) (by kernel_rfl)
  have f1 := e1.binds (ps := ["text"]) fun _ _ _ _ _ _ us hl => by obtain ⟨a, rfl⟩ := len1 hl; rfl
  have g1 := mq "is_figures" (.ref 218) (by kernel_rfl)
  have i1 := fk (K := kk w.params) s_is_whole 185 184 "is_whole" "is_whole" md1 (by kernel_rfl) (by kernel_rfl)
  have j1 := i1.binds (ps := ["thing"]) fun _ _ _ _ _ _ us hl => by obtain ⟨a, rfl⟩ := len1 hl; rfl
  have k1 := mq "is_whole" (.ref 185) (by kernel_rfl)
  have l1 := fk (K := kk w.params) s_half 35 34 "half" "half" md2 (by kernel_rfl) (by kernel_rfl)
  have o1 := l1.binds (ps := ["one", "other"]) fun _ _ _ _ _ _ us hl => by obtain ⟨a, b, rfl⟩ := len2 hl; rfl
  have q1 := mq "half" (.ref 35) (by kernel_rfl)
  have r1 := fk (K := kk w.params) s_common 28 27 "common" "common" md2 (by kernel_rfl) (by kernel_rfl)
  have s1 := r1.binds (ps := ["one", "other"]) fun _ _ _ _ _ _ us hl => by obtain ⟨a, b, rfl⟩ := len2 hl; rfl
  have t1 := mq "common" (.ref 28) (by kernel_rfl)
  have u1 := fk (K := kk w.params) s_is_fraction 192 191 "is_fraction" "is_fraction" md1 (by kernel_rfl) (by kernel_rfl)
  have v1 := u1.binds (ps := ["thing"]) fun _ _ _ _ _ _ us hl => by obtain ⟨a, rfl⟩ := len1 hl; rfl
  have y1 := mq "is_fraction" (.ref 192) (by kernel_rfl)
  have z1 := fk (K := kk w.params) s_read_frac 213 212 "read_frac" "read_frac" md1 (by kernel_rfl) (by kernel_rfl)
  have a2 := z1.binds (ps := ["text"]) fun _ _ _ _ _ _ us hl => by obtain ⟨a, rfl⟩ := len1 hl; rfl
  have b2 := mq "read_frac" (.ref 213) (by kernel_rfl)
  have c2 := fk (K := kk w.params) s__law_read_right 293 292 "_law_read_right" "_law_read_right" md0 (by kernel_rfl) (by kernel_rfl)
  have d2 := c2.binds (ps := ["_law_thing", "_law_due_here"]) fun _ _ _ _ _ _ us hl => by obtain ⟨a, b, rfl⟩ := len2 hl; rfl
  have e2 := mq "_law_read_right" (.ref 293) (by kernel_rfl)
  have f2 := fk (K := kk w.params) s__law_sign 267 266 "_law_sign" "_law_sign" md0 (by kernel_rfl) (by kernel_rfl)
  have g2 := f2.binds (ps := ["_law_number"]) fun _ _ _ _ _ _ us hl => by obtain ⟨a, rfl⟩ := len1 hl; rfl
  have i2 := mq "_law_sign" (.ref 267) (by kernel_rfl)
  have j2 := fk (K := kk w.params) s__law_spoiled 274 273 "_law_spoiled" "_law_spoiled" md0 (by kernel_rfl) (by kernel_rfl)
  have k2 := j2.binds (ps := ["_law_text_here", "_law_one", "_law_cell_here"]) fun _ _ _ _ _ _ us hl => by obtain ⟨a, b, c, rfl⟩ := len3 hl; rfl
  have l2 := mq "_law_spoiled" (.ref 274) (by kernel_rfl)
  have o2 := fk (K := kk w.params) s__law_number_in 279 278 "_law_number_in" "_law_number_in" md0 (by kernel_rfl) (by kernel_rfl)
  have q2 := o2.binds (ps := ["_law_figures"]) fun _ _ _ _ _ _ us hl => by obtain ⟨a, rfl⟩ := len1 hl; rfl
  have r2 := mq "_law_number_in" (.ref 279) (by kernel_rfl)
  have s2 := fk (K := kk w.params) s__law_due 286 285 "_law_due" "_law_due" md0 (by kernel_rfl) (by kernel_rfl)
  have t2 := s2.binds (ps := ["_law_text_here"]) fun _ _ _ _ _ _ us hl => by obtain ⟨a, rfl⟩ := len1 hl; rfl
  have u2 := mq "_law_due" (.ref 286) (by kernel_rfl)
  have v2 := fk (K := kk w.params) s_law 300 299 "law" "law" md0 (by kernel_rfl) (by kernel_rfl)
  have y2 := v2.binds (ps := ["_law_script"]) fun _ _ _ _ _ _ us hl => by obtain ⟨a, rfl⟩ := len1 hl; rfl
  have z2 := mq "law" (.ref 300) (by kernel_rfl)
  have a3 := mq "NoFraction" (.ref 100) (by kernel_rfl)
  have b3 := mq "EchoError" (.ref 80) (by kernel_rfl)
  have c3 := mq "NoFit" (.ref 138) (by kernel_rfl)
  have d3 := mq "NoTable" (.ref 119) (by kernel_rfl)
  have e3 := mq "NoTurns" (.ref 157) (by kernel_rfl)
  have f3 := mq "TooMany" (.ref 176) (by kernel_rfl)
  have g3 : ErrK (kk w.params) 100 [80] (none) := ⟨ClsX.of (by kernel_rfl), (List.forall_mem_cons.mpr ⟨⟨(vE), ClsX.of (by kernel_rfl)⟩, (fun _ h => absurd h List.not_mem_nil)⟩)⟩
  have i3 : TakesX (kk w.params) 80 [(100, true)] := ⟨⟨vE, none, ClsX.of (by kernel_rfl), by decide +kernel⟩, (List.forall_mem_cons.mpr ⟨⟨_, _, g3.cls, by decide +kernel⟩, (fun _ h => absurd h List.not_mem_nil)⟩)⟩
  have j3 : ∀ a ∈ ([(100, false)] : List (Addr × Bool)), IsiXs (kk w.params) [138, 119, 157, 176] a.1 a.2 := (List.forall_mem_cons.mpr ⟨⟨⟨_, ⟨⟨_, g3.cls⟩, by kernel_rfl, by kernel_rfl, by kernel_rfl, by kernel_rfl, by kernel_rfl⟩⟩, by kernel_rfl⟩, (fun _ h => absurd h List.not_mem_nil)⟩)
  have k3 : ∀ a ∈ ([(100, true)] : List (Addr × Bool)), IsiX (kk w.params) 100 a.1 a.2 := (List.forall_mem_cons.mpr ⟨⟨⟨_, ⟨⟨_, g3.cls⟩, by kernel_rfl, by kernel_rfl, by kernel_rfl, by kernel_rfl, by kernel_rfl⟩⟩, by kernel_rfl⟩, (fun _ h => absurd h List.not_mem_nil)⟩)
  have l3 : ∀ a ∈ ([(100, false)] : List (Addr × Bool)), IsiX (kk w.params) 138 a.1 a.2 := (List.forall_mem_cons.mpr ⟨⟨⟨_, ⟨⟨_, g3.cls⟩, by kernel_rfl, by kernel_rfl, by kernel_rfl, by kernel_rfl, by kernel_rfl⟩⟩, by kernel_rfl⟩, (fun _ h => absurd h List.not_mem_nil)⟩)
  have o3 : ∀ a ∈ ([(100, false)] : List (Addr × Bool)), IsiX (kk w.params) 119 a.1 a.2 := (List.forall_mem_cons.mpr ⟨⟨⟨_, ⟨⟨_, g3.cls⟩, by kernel_rfl, by kernel_rfl, by kernel_rfl, by kernel_rfl, by kernel_rfl⟩⟩, by kernel_rfl⟩, (fun _ h => absurd h List.not_mem_nil)⟩)
  have q3 : ∀ a ∈ ([(100, false)] : List (Addr × Bool)), IsiX (kk w.params) 157 a.1 a.2 := (List.forall_mem_cons.mpr ⟨⟨⟨_, ⟨⟨_, g3.cls⟩, by kernel_rfl, by kernel_rfl, by kernel_rfl, by kernel_rfl, by kernel_rfl⟩⟩, by kernel_rfl⟩, (fun _ h => absurd h List.not_mem_nil)⟩)
  have r3 : ∀ a ∈ ([(100, false)] : List (Addr × Bool)), IsiX (kk w.params) 176 a.1 a.2 := (List.forall_mem_cons.mpr ⟨⟨⟨_, ⟨⟨_, g3.cls⟩, by kernel_rfl, by kernel_rfl, by kernel_rfl, by kernel_rfl, by kernel_rfl⟩⟩, by kernel_rfl⟩, (fun _ h => absurd h List.not_mem_nil)⟩)
  have s3 := mn "len" (by kernel_rfl)
  have t3 := mn "abs" (by kernel_rfl)
  have u3 := mn "str" (by kernel_rfl)
  have v3 := mn "divmod" (by kernel_rfl)
  have y3 := mn "list" (by kernel_rfl)
  have z3 := mn "tuple" (by kernel_rfl)
  have a4 := mn "isinstance" (by kernel_rfl)
  have b4 := mn "zip" (by kernel_rfl)
  have c4 := mn "int" (by kernel_rfl)
  have d4 := mn "bool" (by kernel_rfl)
  have e4 := mn "all" (by kernel_rfl)
  have f4 := mn "range" (by kernel_rfl)
  have g4 := mn "min" (by kernel_rfl)
  have i4 := mn "max" (by kernel_rfl)
  have j4 := mq "MOST_FIGURES" (.int (30) 423) (by kernel_rfl)
  have k4 := mq "SHORT" (.int (4000) 196) (by kernel_rfl)
  refine ⟨PySem.W.fnOf "law" "law" (defArgs s_law) (defBody s_law) (defScope s_law) .none .none .none md0 none (.ref 299) .none, fun s v => .of_eq rfl, fun base _ _ => ?_⟩
  have l4 : Def pg w (kk w.params) mg base 1 "_law_cell" 2 (mCell) := (ok__law_cell (P := pg) (w := w) (base := base) (k := 0) a0 b0 c0  s3).imp sp_cell
  have o4 : Def pg w (kk w.params) mg base 1 "_law_mix" 2 (mMix) := (ok__law_mix (P := pg) (w := w) (base := base) (k := 0) d0 e0 f0  ).imp sp_mix
  have q4 : Def pg w (kk w.params) mg base 2 "_law_big" 1 (dBg) := ok__law_big g0 i0 j0 (o4.mono (by decide)) 
  have r4 : Def pg w (kk w.params) mg base 1 "_law_frac" 2 (mFrac) := (ok__law_frac (P := pg) (w := w) (base := base) (k := 0) B k0 l0 o0  t3).imp sp_law_frac
  have s4 : Def pg w (kk w.params) mg base 1 "_law_text" 1 (dTx) := ok__law_text q0 r0 s0  u3
  have t4 : Def pg w (kk w.params) mg base 1 "figures" 1 (dFg) := ok_figures 3 t0 u0 v0  v3 u3
  have u4 : Def pg w (kk w.params) mg base 2 "show_frac" 1 (dSf) := ok_show_frac y0 z0 a1 (t4.mono (by decide)) t3
  have v4 : Def pg w (kk w.params) mg base 0 "_law_same" 2 (dSame 0) := Def.zero b1 c1 d1
  have y4 : Def pg w (kk w.params) mg base 1 "_law_same" 2 (dSame 1) := ok__law_same (k := 0) b1 c1 d1 v4 y3 z3 a4 s3 b4 u3 c4 d4
  have z4 : Def pg w (kk w.params) mg base 2 "_law_same" 2 (dSame 2) := ok__law_same (k := 1) b1 c1 d1 y4 y3 z3 a4 s3 b4 u3 c4 d4
  have a5 : Def pg w (kk w.params) mg base 3 "_law_same" 2 (dSame 3) := ok__law_same (k := 2) b1 c1 d1 z4 y3 z3 a4 s3 b4 u3 c4 d4
  have b5 : Def pg w (kk w.params) mg base 4 "_law_same" 2 (dSame 4) := ok__law_same (k := 3) b1 c1 d1 a5 y3 z3 a4 s3 b4 u3 c4 d4
  have c5 := b5
  have d5 : Def pg w (kk w.params) mg base 1 "is_figures" 1 (dFi) := ok_is_figures e1 f1 g1  s3 e4 j4
  have e5 : Def pg w (kk w.params) mg base 1 "is_whole" 1 (dIw) := ok_is_whole i1 j1 k1  c4 a4 d4
  have f5 : Def pg w (kk w.params) mg base 0 "half" 2 (fun _ => none) := Def.zero l1 o1 q1
  have g5 : Def pg w (kk w.params) mg base 1 "common" 2 (mCommon) := (ok_common (P := pg) (w := w) (base := base) (k := 0) B r1 s1 t1 (f5.mono (by decide)) t3 k4).imp sp_common
  have i5 : Def pg w (kk w.params) mg base 2 "is_fraction" 1 (dIf) := ok_is_fraction u1 v1 y1 (e5.mono (by decide)) (g5.mono (by decide)) z3 a4 s3
  have j5 : Def pg w (kk w.params) mg base 3 "read_frac" 1 (dRf) := ok_read_frac z1 a2 b2 (d5.mono (by decide)) (i5.mono (by decide)) (u4.mono (by decide)) u3 a4 c4
  have k5 : DefX pg w (kk w.params) mg base 3 "read_frac" 1 (dRfX) := okX_read_frac z1 a2 b2 (d5.mono (by decide)) (i5.mono (by decide)) (u4.mono (by decide)) g3 a3 u3 a4 c4
  have l5 : Def pg w (kk w.params) mg base 5 "_law_read_right" 2 (dRr) := ok__law_read_right c2 d2 e2 (j5.mono (by decide)) (c5.mono (by decide)) (k5.mono (by decide)) i3 k3 l3 o3 q3 r3 j3 b3 c3 a3 d3 e3 f3 a4
  have o5 : Def pg w (kk w.params) mg base 1 "_law_sign" 1 (dSg) := ok__law_sign f2 g2 i2  s3
  have q5 : Def pg w (kk w.params) mg base 2 "_law_spoiled" 3 (dSp) := ok__law_spoiled j2 k2 l2 (o5.mono (by decide)) s3 u3
  have r5 : Def pg w (kk w.params) mg base 1 "_law_number_in" 1 (dNi) := ok__law_number_in o2 q2 r2  s3 c4
  have s5 : Def pg w (kk w.params) mg base 2 "_law_due" 1 (dDu) := ok__law_due s2 t2 u2 (r5.mono (by decide)) (r4.mono (by decide)) 
  exact fn_law (P := pg) (w := w) (base := base) (k := 5) v2 (l4.mono (by decide)) (q4.mono (by decide)) (r4.mono (by decide)) (s4.mono (by decide)) (u4.mono (by decide)) (c5.mono (by decide)) (l5.mono (by decide)) (o4.mono (by decide)) (q5.mono (by decide)) (s5.mono (by decide)) f4 s3 g4 i4
theorem walk {q : Program} {loose : List Str} {XP : (Str → Option Value) → Heap → Prop} {d : DefRec} (hn : d.name = "law") (hdf : d.params.defaults = []) : PySem.W.WalkO q loose XP hk.says lw.row.toRowW d [] (fun f vs => PySem.call f vs) :=
  L2.walk_of (n := 63) (k := 6) (x := "_law_script") (CX := fun _ => CX0) (K := kk) (sp := fun w => spT (kk w.params) 1 dLaw) rfl (by decide) hdf ⟨rfl, by decide, by decide⟩ (fun _ _ Y => PySem.W.kIn_of Y) (fun w mg fa h KX G e => all_mk KX G (by rw [hn] at e; exact e))
    (fun w H a ns hl _ hS => ⟨rfl, H, [.scr (ns.map T.int)], .bl true, Same.refl H, ⟨_, [], rfl, ⟨a, ns.map V.int, rfl, hS, reps_ints ns⟩, rfl⟩, law_true63 ns hl, fun _ _ v _ r => r⟩) fun _ _ _ _ _ z => z
end My
open PySem PySem.W PyProof.Rows
set_option maxHeartbeats 0 in
theorem PySem.Challenge.cw_echohouse_k02_fractions_as_texts_holds : PySem.Challenge.rw_echohouse_k02_fractions_as_texts.Holds := by
  refine holds_law My.ws fun said => ?_
  refine holds_open (q := My.qv) (loose := []) (Xt := My.xt) (XP := XL My.qv []) My.hl (Hook.of My.hk) (Hook.keeps My.hk)
    (fun s e => xl_of s (Bool.and_eq_true_iff.mp e).1) XL.keeps (by rfl) (by rfl) (by rfl)
    (fun s e => recFacts_of (Bool.and_eq_true_iff.mp e).2) (by rfl) said (by decide +kernel) ⟨rfl, rfl, rfl, rfl, rfl, by decide +kernel⟩ ?hw ?hc
  case hw => w_witness2
  case hc => exact My.walk rfl rfl




