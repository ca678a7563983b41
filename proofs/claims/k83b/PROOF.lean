import PyProof.Rows.All
import Wide.All
import OpenK.AllK
import Wide.FinOn
import Lean
import PyProof.EqAt
import PyProof.EqKinds
import PyProof.TupleCall
import KE.KRevIter
import KE.KMinKey
import PyProof.FactsAll.range_2
import PyProof.Rows.CallKwBuiltin
import PyProof.EnumMake
import PyProof.EnumFor
import PyProof.ListNew
import PyProof.CollectIter
import PyProof.ExcClass3
import PyProof.ExcBaseAll.ValueError
import PyProof.NsDelKeeps
import PyProof.ExcAttrAll.ValueError
import PyProof.IsiBase
import KE.KIsAll
import PySem.Challenge.RW_echohouse_k83_kept_runs
noncomputable section
local macro_rules | `(tactic| walk_at "sc")=>`(tactic| exact ⟨rfl,rfl,rfl,by decide +kernel,rfl,by decide +kernel,by decide +kernel⟩)
set_option Elab.async false
set_option linter.all false
set_option maxRecDepth 100000
set_option maxHeartbeats 4000000
local macro_rules | `(tactic| walk_at "ev")=>do
  let ns:List Lean.Name:=[`Bool.false_eq_true,`Bool.not_false,`Bool.not_true,`zG,`zH,`C5,`List.cons_append,`List.getElem?_cons_succ,`List.getElem?_cons_zero,`List.length_cons,`List.length_nil,`List.map_cons,`List.map_nil,`List.nil_append,`List.replicate_succ,`List.replicate_zero,`List.set_cons_succ,`List.set_cons_zero,`Nat.reduceAdd,`Nat.reduceLeDiff,`Nat.reduceSub,`Nat.sub_self,`Nat.zero_add,`Option.bind_none,`Option.bind_some,`and_self,`and_true,`beq_self_eq_true,`boolsOf,`A3,`pM,`cm,`uB,`rm,`dt,`decide_false,`decide_true,`aD,`KG,`ek,`mS,`oi,`fC,`aj,`Gp,`fO,`aa,`KH,`kz,`Bj,`jU,`LY,`cn,`dw,`eD,`bQ,`ai,`dy,`cH,`aH,`lT,`KI,`rB,`eE,`bG,`jN,`aT,`iN,`bo,`cR,`uH,`eG,`dk,`dU,`mT,`kC,`af,`bf,`eX,`jg,`uL,`Br,`iO,`Gy,`zW,`nv,`Bs,`Gz,`L3,`Bt,`Bu,`Bv,`Bx,`GA,`Dy,`kI,`Dz,`aM,`ar,`cz,`cE,`if_false,`if_true,`Fo,`uN,`uO,`wW,`uP,`Ad,`wX,`rN,`rO,`rP,`uQ,`rQ,`wY,`uR,`pQ,`rR,`rS,`uS,`rT,`wZ,`uT,`pR,`rV,`rW,`uU,`rX,`w6,`uV,`pS,`rY,`rZ,`uW,`sj,`xa,`uX,`pT,`sk,`so,`uY,`sr,`xb,`uZ,`pU,`su,`sv,`va,`sx,`xf,`vc,`pV,`sA,`sC,`vd,`sD,`xg,`ve,`pW,`ite_false,`ite_true,`LH,`KS,`KU,`KW,`L8,`KZ,`dB,`L9,`ne_eq,`not_false_eq_true,`not_true_eq_false,`reduceCtorEq,`reduceIte,`JM,`Kl,`true_and,`iL]
  let mut ls:Array (Lean.TSyntax `Lean.Parser.Tactic.simpLemma):=#[]
  for n in ns do
   unless (<- Lean.Macro.resolveGlobalName n).isEmpty do
    ls:=ls.push (<- `(Lean.Parser.Tactic.simpLemma| $(Lean.mkIdent n):ident))
  `(tactic| simp only [$[$ls],*, *])
namespace My
open PySem PySem.Spec PyProof.Rows
def tp (i:Nat):Stmt:=PySem.Challenge.pw_echohouse_k83_kept_runs.main.body.getD i (.Pass ⟨0,0,0,0⟩)
def hA (s:Stmt):Arguments:=match s with
 | .FunctionDef _ a _ _ _ _ _ _ _ _=>a
 | _=>⟨[],[],none,[],[],none,[]⟩
def hB (s:Stmt):List Stmt:=match s with
 | .FunctionDef _ _ b _ _ _ _ _ _ _=>b
 | _=>[]
def hS (s:Stmt):Scope:=match s with
 | .FunctionDef _ _ _ _ _ _ sc _ _ _=>sc
 | _=>{ kind:=.function,names:=[],isGenerator:=false,isCoroutine:=false }
def tc (i j:Nat):Stmt:=match tp i with
 | .ClassDef _ _ _ body _ _ _ _ _ _ _=>body.getD j (.Pass ⟨0,0,0,0⟩)
 | _=>.Pass ⟨0,0,0,0⟩
abbrev pg:Program:=PySem.Challenge.pw_echohouse_k83_kept_runs
abbrev lw:PySem.W.OpenLaw:=PySem.Challenge.rw_echohouse_k83_kept_runs
def qv:Program:={ pg with main:={ pg.main with body:=([0,2,3,4,5,7,8,9,10,11,12,13,14,15,16,17,19,20,21,22,23,24,26,27,28,29,30,31,32,33,34,35,36,37,39,40,41,42,44,46,47,48,50,51,52,53,54,55,56,57,58,59,60,61,62,63,64]:List Nat).map tp } }
def cf:Str := "/claim/cut.py"
def LF (nm qn:Str) (t l n k:Nat) (a b c d e:Value):Obj:=⟨.type "code", none,.fields #[.str nm t,.str qn (t + 1),.str cf (t + 2),.int l 0,.int n 0,.int 0 0,.int 0 0,.int 3 0,a,.bool true,.int 181 0,b,.none,c,d,e,.int k 0,.int l 0,.str cf (k + 1)],#[]⟩
def KC (c:Nat) (nm qn:Str) (t l n k:Nat):Obj:=LF nm qn t l n k (.ref (c - 5)) (.ref (c - 4)) (.ref (c - 3)) (.ref (c - 2)) (.ref (c - 1))
def KD (c:Nat) (nm qn:Str) (t l n k:Nat):Obj:=LF nm qn t l n k (.ref (c - 3)) (.ref (c - 2)) .none .none (.ref (c - 1))
def cA (c:Nat) (nm:Str) (t l n k:Nat):Obj:=KC c nm nm t l n k
def cB (c:Nat) (nm:Str) (t l n k:Nat):Obj:=KD c nm nm t l n k
def IU (s:Stmt) (nm qn:Str) (pm:Value) (c:Addr):Obj:=⟨.type "function", none,.func (PySem.W.fnOf nm qn (hA s) (hB s) (hS s) .none .none .none pm none (.ref c) .none),#[]⟩
def fh (s:Stmt) (nm:Str) (pm:Value) (c:Addr):Obj:=IU s nm nm pm c
def de (P:Params) (x:Str) (t:Tok) (v:Value):DictEntry:=⟨PyData.keyHash P x,.str x t,v⟩
def kf:Value:=.str "law_echohouse_k83_kept_runs" 652
def C1:Value:=.str "echohouse.fracs" 394
def Ki:Value:=.str "echohouse.divisors" 290
def nB:Value:=.str "echohouse.tables" 445
def C3:Value:=.str "echohouse.systems" 528
def md5:Value:=.str "echohouse.keeping" 618
def LI:Value:=.str "echohouse.steering" 608
def kk (P:Params):PySem.W.Frag:=[
(3,⟨.type "dict", none,.dict #[de P "__name__" 165 (.str "law_echohouse_k83_kept_runs" 652),de P "__doc__" 166 (.none),de P "__package__" 167 (.none),de P "__loader__" 168 (.builtin "__main__.__loader__#opaque"),de P "__spec__" 169 (.none),de P "__annotations__" 170 (.ref 6),de P "__builtins__" 171 (.ref 4),de P "__file__" 173 (.str "/claim/cut.py" 172),de P "__cached__" 174 (.none),de P "_wall" 193 (.ref 21),de P "EchoError" 220 (.ref 38),de P "NoTable" 243 (.ref 58),de P "NoFit" 266 (.ref 77),de P "TooMany" 289 (.ref 96),de P "SHORT" 293 (.int (4000) 292),de P "SHORT_HALF" 295 (.int (256) 294),de P "SHORT_QUOTIENT" 297 (.int (8000) 296),de P "common" 306 (.ref 105),de P "half" 318 (.ref 112),de P "stepped" 328 (.ref 119),de P "step" 343 (.ref 126),de P "upper_half" 360 (.ref 133),de P "factors_joined" 376 (.ref 140),de P "divided" 382 (.ref 145),de P "low_inverse" 393 (.ref 152),de P "NOUGHT" 398 (.ref 153),de P "is_whole" 405 (.ref 160),de P "is_fraction" 414 (.ref 167),de P "frac" 423 (.ref 174),de P "plus" 434 (.ref 181),de P "times" 444 (.ref 188),de P "is_row" 452 (.ref 193),de P "is_table" 458 (.ref 198),de P "weighed" 469 (.ref 205),de P "applied" 475 (.ref 210),de P "row_sum" 481 (.ref 215),de P "table_sum" 487 (.ref 220),de P "product" 493 (.ref 225),de P "lifted" 499 (.ref 230),de P "weighed_lifted" 505 (.ref 235),de P "shared_bottom" 515 (.ref 242),de P "raised" 521 (.ref 247),de P "turned" 527 (.ref 252),de P "MOST_CELLS" 531 (.int (8) 530),de P "MOST_LINES" 533 (.int (2) 532),de P "System" 594 (.ref 300),de P "is_system" 607 (.ref 311),de P "refuse_aim" 617 (.ref 318),de P "can_keep" 627 (.ref 325),de P "kept_move" 639 (.ref 332),de P "kept_run" 651 (.ref 339),de P "_law_cell" 661 (.ref 346),de P "_law_mixed" 670 (.ref 353),de P "_law_divisor" 678 (.ref 360),de P "_law_frac" 687 (.ref 367),de P "_law_numbers" 700 (.ref 374),de P "_law_rows" 706 (.ref 379),de P "_law_four" 720 (.ref 386),de P "_law_plus" 728 (.ref 393),de P "_law_weighed" 739 (.ref 400),de P "_law_led" 745 (.ref 405),de P "_law_added" 751 (.ref 410),de P "_law_word" 762 (.ref 417),de P "_law_states" 775 (.ref 424),de P "_law_refused" 781 (.ref 429),de P "law" 787 (.ref 434)] 66,#[]⟩),
(37,⟨.type "dict", none,.dict #[de P "__module__" 203 (.str "echohouse.errors" 194),de P "__firstlineno__" 207 (.int (5) 206),de P "word" 214 (.ref 35),de P "__static_attributes__" 215 (.ref 36),de P "__weakref__" 217 (.ref 39),de P "__doc__" 218 (.none)] 3,#[]⟩),
(38,⟨.type "type", none,.cls ⟨"EchoError", [.type "ValueError"],[.ref 38,.type "ValueError", .type "Exception", .type "BaseException", .type "object"],37, "EchoError", true,[],[.ref 58,.ref 77,.ref 96],false,none,false⟩,#[some (.ref 22),none,some (.str "EchoError" 196),some (.str "EchoError" 204),some (.builtin "ValueError.__new__"),some (.bool true)]⟩),
(57,⟨.type "dict", none,.dict #[de P "__module__" 228 (.str "echohouse.errors" 194),de P "__firstlineno__" 232 (.int (9) 231),de P "word" 239 (.ref 55),de P "__static_attributes__" 240 (.ref 56),de P "__doc__" 241 (.none)] 2,#[]⟩),
(58,⟨.type "type", none,.cls ⟨"NoTable", [.ref 38],[.ref 58,.ref 38,.type "ValueError", .type "Exception", .type "BaseException", .type "object"],57, "NoTable", true,[],[],false,none,false⟩,#[some (.ref 42),none,some (.str "NoTable" 221),some (.str "NoTable" 229),some (.builtin "ValueError.__new__"),some (.bool true)]⟩),
(76,⟨.type "dict", none,.dict #[de P "__module__" 251 (.str "echohouse.errors" 194),de P "__firstlineno__" 255 (.int (13) 254),de P "word" 262 (.ref 74),de P "__static_attributes__" 263 (.ref 75),de P "__doc__" 264 (.none)] 2,#[]⟩),
(77,⟨.type "type", none,.cls ⟨"NoFit", [.ref 38],[.ref 77,.ref 38,.type "ValueError", .type "Exception", .type "BaseException", .type "object"],76, "NoFit", true,[],[],false,none,false⟩,#[some (.ref 61),none,some (.str "NoFit" 244),some (.str "NoFit" 252),some (.builtin "ValueError.__new__"),some (.bool true)]⟩),
(104,cA 104 "common" 298 25 2 304),
(105,fh (tp 10) "common" Ki 104),
(111,cA 111 "half" 307 34 2 316),
(112,fh (tp 11) "half" Ki 111),
(153,⟨.type "tuple", none,.seq #[.int (0) 396,.int (1) 397] 0,#[]⟩),
(159,cA 159 "is_whole" 399 88 1 403),
(160,fh (tp 20) "is_whole" C1 159),
(166,cA 166 "is_fraction" 406 90 1 412),
(167,fh (tp 21) "is_fraction" C1 166),
(173,cA 173 "frac" 415 95 2 421),
(174,fh (tp 22) "frac" C1 173),
(180,cA 180 "plus" 424 104 2 432),
(181,fh (tp 23) "plus" C1 180),
(187,cA 187 "times" 435 109 2 442),
(188,fh (tp 24) "times" C1 187),
(192,cB 192 "is_row" 447 114 2 450),
(193,fh (tp 26) "is_row" nB 192),
(197,cB 197 "is_table" 453 116 3 456),
(198,fh (tp 27) "is_table" nB 197),
(204,cA 204 "weighed" 459 118 2 467),
(205,fh (tp 28) "weighed" nB 204),
(209,cB 209 "applied" 470 123 2 473),
(210,fh (tp 29) "applied" nB 209),
(214,cB 214 "row_sum" 476 125 2 479),
(215,fh (tp 30) "row_sum" nB 214),
(219,cB 219 "table_sum" 482 127 2 485),
(220,fh (tp 31) "table_sum" nB 219),
(224,cB 224 "product" 488 129 3 491),
(225,fh (tp 32) "product" nB 224),
(229,cB 229 "lifted" 494 133 1 497),
(230,fh (tp 33) "lifted" nB 229),
(234,cB 234 "weighed_lifted" 500 136 2 503),
(235,fh (tp 34) "weighed_lifted" nB 234),
(241,cA 241 "shared_bottom" 506 142 1 513),
(242,fh (tp 35) "shared_bottom" nB 241),
(246,cB 246 "raised" 516 147 2 519),
(247,fh (tp 36) "raised" nB 246),
(251,cB 251 "turned" 522 149 2 525),
(252,fh (tp 37) "turned" nB 251),
(263,KD 263 "__init__" "System.__init__" 546 156 5 549),
(264,IU (tc 41 0) "__init__" "System.__init__" C3 263),
(270,KC 270 "cells" "System.cells" 552 163 1 556),
(271,IU (tc 41 1) "cells" "System.cells" C3 270),
(277,KC 277 "ins" "System.ins" 559 166 1 563),
(278,IU (tc 41 2) "ins" "System.ins" C3 277),
(289,KD 289 "tables" "System.tables" 573 172 1 576),
(290,IU (tc 41 4) "tables" "System.tables" C3 289),
(299,⟨.type "dict", none,.dict #[de P "__module__" 541 (.str "echohouse.systems" 528),de P "__firstlineno__" 545 (.int (154) 544),de P "__init__" 551 (.ref 264),de P "cells" 558 (.ref 271),de P "ins" 565 (.ref 278),de P "outs" 572 (.ref 285),de P "tables" 578 (.ref 290),de P "told" 585 (.ref 297),de P "__static_attributes__" 587 (.ref 298),de P "__dict__" 589 (.ref 301),de P "__weakref__" 591 (.ref 302),de P "__doc__" 592 (.none)] 4,#[]⟩),
(300,⟨.type "type", none,.cls ⟨"System", [.type "object"],[.ref 300,.type "object"],299, "System", true,[],[],false,none,false⟩,#[none,none,some (.str "System" 534),some (.str "System" 542),some (.builtin "object.__new__"),some (.bool true)]⟩),
(310,cA 310 "is_system" 595 177 4 605),
(311,fh (tp 42) "is_system" C3 310),
(317,cA 317 "refuse_aim" 610 185 2 615),
(318,fh (tp 44) "refuse_aim" LI 317),
(324,cA 324 "can_keep" 620 189 2 625),
(325,fh (tp 46) "can_keep" md5 324),
(331,cA 331 "kept_move" 628 191 2 637),
(332,fh (tp 47) "kept_move" md5 331),
(338,cA 338 "kept_run" 640 194 3 649),
(339,fh (tp 48) "kept_run" md5 338),
(345,cA 345 "_law_cell" 654 204 2 659),
(346,fh (tp 50) "_law_cell" kf 345),
(352,cA 352 "_law_mixed" 662 208 2 668),
(353,fh (tp 51) "_law_mixed" kf 352),
(359,cA 359 "_law_divisor" 671 212 2 676),
(360,fh (tp 52) "_law_divisor" kf 359),
(366,cA 366 "_law_frac" 679 218 2 685),
(367,fh (tp 53) "_law_frac" kf 366),
(373,cA 373 "_law_numbers" 688 221 2 698),
(374,fh (tp 54) "_law_numbers" kf 373),
(378,cB 378 "_law_rows" 701 235 3 704),
(379,fh (tp 55) "_law_rows" kf 378),
(385,cA 385 "_law_four" 707 237 4 718),
(386,fh (tp 56) "_law_four" kf 385),
(392,cA 392 "_law_plus" 721 245 2 726),
(393,fh (tp 57) "_law_plus" kf 392),
(399,cA 399 "_law_weighed" 729 247 2 737),
(400,fh (tp 58) "_law_weighed" kf 399),
(404,cB 404 "_law_led" 740 252 2 743),
(405,fh (tp 59) "_law_led" kf 404),
(409,cB 409 "_law_added" 746 254 2 749),
(410,fh (tp 60) "_law_added" kf 409),
(416,cA 416 "_law_word" 752 256 3 760),
(417,fh (tp 61) "_law_word" kf 416),
(423,cA 423 "_law_states" 763 263 3 773),
(424,fh (tp 62) "_law_states" kf 423),
(428,cB 428 "_law_refused" 776 270 4 779),
(429,fh (tp 63) "_law_refused" kf 428),
(433,cB 433 "law" 782 278 1 785),
(434,fh (tp 64) "law" kf 433)]
def ka:List Addr:=[3,37,38,57,58,76,77,104,105,111,112,153,159,160,166,167,173,174,180,181,187,188,192,193,197,198,204,205,209,210,214,215,219,220,224,225,229,230,234,235,241,242,246,247,251,252,263,264,270,271,277,278,289,290,299,300,310,311,317,318,324,325,331,332,338,339,345,346,352,353,359,360,366,367,373,374,378,379,385,386,392,393,399,400,404,405,409,410,416,417,423,424,428,429,433,434]
theorem L6 (P:Params):ka=(kk P).map (·.1):=by kernel_rfl
abbrev hk:PySem.W.Hook:=PySem.W.kHook kk ka L6
abbrev xt (s:Shared):Bool:=PySem.W.xlAt qv [] s && PySem.W.recOk (PySem.W.RowW.records lw.row.toRowW) s
open PySem.W PySem.Calls in
def dA (tb:String -> Option Builtin) (p:Program) (w:World) (n₀:Nat) (ann:Option Value):Nat -> SharedT -> Thread -> Option SharedT
 | 0,_,_=>none
 | n + 1,s,t=>match through t with
  | true=>some s
  | false=>match stepOk n₀ ann t with
   | false=>none
   | true=>match stepT (denote tb) p w s t with
    | some (s',t')=>dA tb p w n₀ ann n s' t'
    | none=>none
open PySem.W PySem.Calls in
theorem qI {tb:String -> Option Builtin} {p:Program} {w:World} {n₀:Nat} {ann:Option Value}:∀ {n:Nat} {s:SharedT} {t:Thread} {r:SharedT},dA tb p w n₀ ann n s t=some r -> topRun tb p w n₀ ann n s.abs t=some r.abs
 | 0,_,_,_,e=>by simp [dA] at e
 | n + 1,s,t,r,e=>by
  rw [dA] at e
  rw [topRun]
  cases h1:through t with
  | true=>rw [h1] at e; cases e; rfl
  | false =>
   rw [h1] at e
   dsimp only at e ⊢
   cases h2:stepOk n₀ ann t with
   | false=>rw [h2] at e; cases e
   | true =>
    rw [h2] at e
    dsimp only at e ⊢
    cases h3:stepT (denote tb) p w s t with
    | none=>rw [h3] at e; cases e
    | some x =>
     obtain ⟨s',t'⟩:=x
     rw [h3] at e
     rw [stepT_spec h3]
     exact qI e
def bt (P:Params):PySem.W.BT:=((PySem.W.boot_heap P).objs.toList.foldl (fun (x:PySem.W.BT × Nat) o=>(x.1.ins x.2 o,x.2 + 1)) (PySem.W.BT.nil,0)).1
open PySem.W PySem.Calls in
theorem Ji {p q:Program} {loose:List Str} {Xt:Shared -> Bool} {α:Type} {Yf:Shared -> α} {Ya:World -> α} {N:Nat} {g0:Bool} (he:opening p=plainProg p.main.scope.names) (hN:Nat.ble 600 N=true) (hf:∀ s,fenceModules? p s=some s)
  (h0:∀ P,absHeap (bt P) 11 {}=boot_heap P)
  (hz:∀ P,((boot_heap P).isNs mainGlobals,(boot_heap P).objs.size,(boot_heap P).nsMap mainGlobals (Str.ofString "__annotations__"))=(true,11,some (.ref 6)))
  (g1:∀ w:World,(fun os:OsState=>(dA treeTable p w 11 (some (.ref 6)) N ⟨bt w.params,11,{},#[],boot_drawn,boot_toks,os⟩ (topStub p)).map fun s=>staticsOk (importedModules p.main.body) (boot_heap w.params) s.abs.heap && namesBound p s.abs.heap && gensDone s.abs && laidKept (boot_heap w.params) s.abs.heap)=fun _=>some true)
  (g2:∀ w:World,(fun os:OsState=>(dA treeTable p w 11 (some (.ref 6)) N ⟨bt w.params,11,{},#[],boot_drawn,boot_toks,os⟩ (topStub p)).map fun s=>(openSeen q loose (importedModules p.main.body) Xt g0 s.abs).1)=fun _=>some (openGood q loose).1)
  (g4:∀ w:World,(fun os:OsState=>(dA treeTable p w 11 (some (.ref 6)) N ⟨bt w.params,11,{},#[],boot_drawn,boot_toks,os⟩ (topStub p)).map fun s=>(openSeen q loose (importedModules p.main.body) Xt g0 s.abs).2)=fun _=>some (openGood q loose).2)
  (g3:∀ w:World,(fun os:OsState=>(dA treeTable p w 11 (some (.ref 6)) N ⟨bt w.params,11,{},#[],boot_drawn,boot_toks,os⟩ (topStub p)).map fun s=>Yf s.abs)=fun _=>some (Ya w)) :
  LeftO p q loose Xt Yf Ya N g0:=by
 intro w
 have b:=boot_open (p:=p) (N:=N) he hN hf w
 cases c:fencedOpening treeTable p w N with
 | none=>rw [c] at b; cases b
 | some s =>
  rw [c] at b
  obtain ⟨hp,gs,dr,tk,os⟩:=s
  simp only [Option.map_some,Option.some.injEq,Prod.mk.injEq] at b
  obtain ⟨b1,b2,b3,b4⟩:=b
  subst b1 b2 b3 b4
  have g1:=congrFun (g1 w) os
  have g2:=congrFun (g2 w) os
  have g3:=congrFun (g3 w) os
  have g4:=congrFun (g4 w) os
  have z:=hz w.params
  simp only [Prod.mk.injEq] at z
  obtain ⟨z1,z2,z3⟩:=z
  unfold openEnds
  rw [c]
  simp only [Option.bind_some]
  unfold topFrom
  rw [z1,z2,z3]
  dsimp only [Bool.true_and]
  cases e:dA treeTable p w 11 (some (.ref 6)) N ⟨bt w.params,11,{},#[],boot_drawn,boot_toks,os⟩ (topStub p) with
  | none=>rw [e] at g1; cases g1
  | some r =>
   rw [e] at g1 g2 g3 g4
   have e':=qI e
   unfold SharedT.abs at e'
   rw [h0] at e'
   have:({ toList:=[] }:Array GenState).size == 0:=rfl
   rw [this]
   try dsimp only
   rw [e']
   simp only [Option.map_some,Option.some.injEq] at g1 g2 g3 g4
   have a1:=g1
   have a2:=Prod.ext g2 g4
   have a3:=g3
   unfold SharedT.abs at a1 a2 a3
   simp only [Option.bind_some]
   rw [a1]
   try dsimp only
   show some (_,_)=_
   rw [a2,a3]
theorem h0 (P:Params):PySem.W.absHeap (bt P) 11 {}=PySem.W.boot_heap P:=by kernel_rfl
set_option maxHeartbeats 0 in
open PySem.W PySem.Calls in
theorem Ke (w:World):(fun os:OsState=>(dA treeTable lw.row.prog w 11 (some (.ref 6)) 5808 ⟨bt w.params,11,{},#[],boot_drawn,boot_toks,os⟩ (topStub lw.row.prog)).map fun s=>staticsOk (importedModules lw.row.prog.main.body) (boot_heap w.params) s.abs.heap && namesBound lw.row.prog s.abs.heap && gensDone s.abs && laidKept (boot_heap w.params) s.abs.heap)=fun _=>some true:=by kernel_rfl
set_option maxHeartbeats 0 in
open PySem.W PySem.Calls in
theorem IW (w:World):(fun os:OsState=>(dA treeTable lw.row.prog w 11 (some (.ref 6)) 5808 ⟨bt w.params,11,{},#[],boot_drawn,boot_toks,os⟩ (topStub lw.row.prog)).map fun s=>(openSeen qv [] (importedModules lw.row.prog.main.body) xt true s.abs).1)=fun _=>some (openGood qv []).1:=by kernel_rfl
set_option maxHeartbeats 0 in
open PySem.W PySem.Calls in
theorem L4 (w:World):(fun os:OsState=>(dA treeTable lw.row.prog w 11 (some (.ref 6)) 5808 ⟨bt w.params,11,{},#[],boot_drawn,boot_toks,os⟩ (topStub lw.row.prog)).map fun s=>(openSeen qv [] (importedModules lw.row.prog.main.body) xt true s.abs).2)=fun _=>some (openGood qv []).2:=by kernel_rfl
set_option maxHeartbeats 0 in
open PySem.W PySem.Calls in
theorem L5 (w:World):(fun os:OsState=>(dA treeTable lw.row.prog w 11 (some (.ref 6)) 5808 ⟨bt w.params,11,{},#[],boot_drawn,boot_toks,os⟩ (topStub lw.row.prog)).map fun s=>hk.obs s.abs)=fun _=>some (hk.val w):=by kernel_rfl
theorem hl:PySem.W.LeftO lw.row.prog qv [] xt hk.obs hk.val 5808:=Ji (by kernel_rfl) (by kernel_rfl) (fun _=>by kernel_rfl) h0 (fun _=>by kernel_rfl) Ke IW L4 L5
theorem ws:lw.wellSaid=true:=by kernel_rfl
end My
namespace L2
open PySem PySem.Spec PyProof.Rows
abbrev Key:=Sum Int Str
def Fp:Key -> Value -> Bool
 | .inl k,v=>Value.isInt k v
 | .inr x,v=>Value.isStrOf x v
def KQ (w:World):Key -> Int
 | .inl k=>hashInt k
 | .inr x=>hashStr w x
theorem cF:∀ {k:Key} {v:Value},Fp k v=true -> (∃ i t,k=Sum.inl i /\ v=Value.int i t) \/ (∃ x t,k=Sum.inr x /\ v=Value.str x t)
 | .inl i,v,h=>by
  obtain ⟨t,e⟩:=Value.isInt_shape (k:=i) (v:=v) h
  exact .inl ⟨i,t,rfl,e⟩
 | .inr x,v,h=>by
  obtain ⟨t,e⟩:=Value.isStrOf_shape (x:=x) (v:=v) h
  exact .inr ⟨x,t,rfl,e⟩
theorem GO (a b:Int):decide ((Sum.inl a:Key)=Sum.inl b)=(a == b):=by
 by_cases e:a=b
 ·subst e; simp
 ·have h:¬ (Sum.inl a:Key)=Sum.inl b:=fun q=>e (Sum.inl.inj q)
  rw [decide_eq_false h]
  exact (beq_eq_false_iff_ne.mpr e).symm
theorem GR (a b:Str):decide ((Sum.inr a:Key)=Sum.inr b)=decide (a=b):=by
 by_cases e:a=b
 ·subst e; simp
 ·have h:¬ (Sum.inr a:Key)=Sum.inr b:=fun q=>e (Sum.inr.inj q)
  rw [decide_eq_false h,decide_eq_false e]
theorem GP (a:Int) (b:Str):decide ((Sum.inl a:Key)=Sum.inr b)=false:=decide_eq_false (fun q=>nomatch q)
theorem GQ (a:Str) (b:Int):decide ((Sum.inr a:Key)=Sum.inl b)=false:=decide_eq_false (fun q=>nomatch q)
def sL (prog:Program) (w:World):PySem.KeyKind prog w Key where
 is:=Fp
 hash:=KQ w
 inj:=fun v a b ha hb=>by
  rcases cF ha with ⟨i,t,rfl,rfl⟩ | ⟨x,t,rfl,rfl⟩
  ·rcases cF hb with ⟨j,u,rfl,e⟩ | ⟨y,u,rfl,e⟩
   ·injection e with e1 _; rw [e1]
   ·exact nomatch e
  ·rcases cF hb with ⟨j,u,rfl,e⟩ | ⟨y,u,rfl,e⟩
   ·exact nomatch e
   ·injection e with e1 _; rw [e1]
 byValue:=fun k v h=>by
  rcases cF h with ⟨i,t,rfl,rfl⟩ | ⟨x,t,rfl,rfl⟩ <;> rfl
 pyHash:=fun hv h=>by
  rcases cF hv with ⟨i,t,rfl,rfl⟩ | ⟨x,t,rfl,rfl⟩
  ·exact wpAny_pyHash_int h
  ·exact wpAny_pyHash_str h
 eqBool:=fun hu hv h=>by
  rcases cF hu with ⟨i,t,rfl,rfl⟩ | ⟨x,t,rfl,rfl⟩
  ·rcases cF hv with ⟨j,u,rfl,rfl⟩ | ⟨y,u,rfl,rfl⟩
   ·rw [GO] at h; exact wpAny_eqBool_int h
   ·rw [GP] at h; exact SeqAt.EqAt.int_str i t y u _ _ _ _ h
  ·rcases cF hv with ⟨j,u,rfl,rfl⟩ | ⟨y,u,rfl,rfl⟩
   ·rw [GQ] at h; exact SeqAt.EqAt.str_int x t j u _ _ _ _ h
   ·rw [GR] at h; exact wpAny_eqBool_str h
 «strs»:=fun k x t v h=>by
  rcases cF h with ⟨i,u,rfl,e⟩ | ⟨y,u,rfl,e⟩
  ·exact nomatch e
  ·injection e with e1 _
   subst e1
   cases v <;> rfl
open PySem PySem.Spec PyProof.Rows
inductive V where
 | non | bl (b:Bool) | int (i:Int) | str (x:Str) | byt (b:Array UInt8) | flt (b:UInt64) | ref (a:Addr) | ty (n:String)
 deriving DecidableEq
def RelV:V -> Value -> Prop
 | .non,u=>u=Value.none
 | .bl b,u=>u=Value.bool b
 | .int i,u=>∃ t,u=Value.int i t
 | .str x,u=>∃ t,u=Value.str x t
 | .byt b,u=>∃ t,u=Value.bytes b t
 | .flt b,u=>∃ t,u=Value.float b t
 | .ref a,u=>u=Value.ref a
 | .ty n,u=>u=Value.type n
abbrev Vals:List V -> List Value -> Prop:=Paired RelV
theorem Vals.length {xs:List V} {us:List Value} (r:Vals xs us):xs.length=us.length:=Paired.length r
theorem Vals.get:∀ {xs:List V} {us:List Value} {i:Nat} {x:V},Vals xs us -> xs[i]? = some x -> ∃ u,us[i]? = some u /\ RelV x u
 | _,_,_,_,.nil,e=>by simp at e
 | _,_,0,_,.cons r _,e=>by simp at e; subst e; exact ⟨_,rfl,r⟩
 | _,_,i + 1,x,.cons _ t,e=>by
  obtain ⟨u,h1,h2⟩:=Vals.get (i:=i) (x:=x) t (by simpa using e)
  exact ⟨u,by simpa using h1,h2⟩
theorem Vals.set {x:V} {u:Value} (r:RelV x u):∀ {xs:List V} {us:List Value} (i:Nat),Vals xs us -> Vals (xs.set i x) (us.set i u)
 | _,_,_,.nil=>.nil
 | _,_,0,.cons _ t=>.cons r t
 | _,_,i + 1,.cons q t=>.cons q (Vals.set r i t)
theorem Vals.append:∀ {xs ys:List V} {us ws:List Value},Vals xs us -> Vals ys ws -> Vals (xs ++ ys) (us ++ ws)
 | _,_,_,_,.nil,s=>s
 | _,_,_,_,.cons r t,s=>.cons r (Vals.append t s)
theorem Vals.take:∀ {xs:List V} {us:List Value} (n:Nat),Vals xs us -> Vals (xs.take n) (us.take n)
 | _,_,0,_=>.nil
 | _,_,_ + 1,.nil=>.nil
 | _,_,n + 1,.cons r t=>.cons r (Vals.take n t)
theorem Vals.drop:∀ {xs:List V} {us:List Value} (n:Nat),Vals xs us -> Vals (xs.drop n) (us.drop n)
 | _,_,0,r=>r
 | _,_,_ + 1,.nil=>.nil
 | _,_,n + 1,.cons _ t=>Vals.drop n t
theorem Vals.none_of:∀ {xs:List V} {us:List Value} {i:Nat},Vals xs us -> xs[i]? = none -> us[i]? = none:=fun {xs us i} r e=>by
 have h1:=r.length
 have h2:xs.length ≤ i:=List.getElem?_eq_none_iff.mp e
 exact List.getElem?_eq_none_iff.mpr (by omega)
def pK:Option V -> Option Value -> Prop
 | some v,some u=>RelV v u
 | none,none=>True
 | _,_=>False
def KV {κ:Type}:List (κ × V) -> List (κ × Value) -> Prop:=Paired fun (p:κ × V) (q:κ × Value)=>p.1=q.1 /\ RelV p.2 q.2
def kV:Key -> V
 | .inl i=>.int i
 | .inr x=>.str x
inductive HO where
  | lst (xs:List V)
  | tup (xs:List V)
  | dK (kvs:List (Key × V)) | dT (kvs:List (List Key × V))
  | set (S:Int -> Bool) (n:Nat)
  | ins (C dx:Addr) (fs:List (Str × V))
  | own (x:Addr)
  | xd (fs:List (Str × V))
  | met (f x:Addr)
  | rng (lo hi:Int)
  | frz (o:Obj) (u:HO)
  | tbl (ps:Array Value)
  | ext (φ:Heap -> Prop)
abbrev Hp:=Addr -> Option HO
def upd (H:Hp) (a:Addr) (o:HO):Hp:=fun b=>if b=a then some o else H b
theorem aN {H:Hp} {a:Addr} {o:HO}:upd H a o a=some o:=by unfold upd; rw [if_pos rfl]
theorem aE {H:Hp} {a b:Addr} {o:HO} (h:b ≠ a):upd H a o b=H b:=by unfold upd; rw [if_neg h]
theorem bq {H:Hp} {a b:Addr} {o:HO} (h:H a=some o) (h':H b=none):a ≠ b:=by
 intro e; subst e; rw [h] at h'; cases h'
section
variable (P:Program) (w:World)
def dY (H:Hp) (h:Heap) (a:Addr):HO -> Prop
 | .lst xs=>xs.length ≤ sizeLine /\ ∃ (its:List Value) (n:Nat),Vals xs its /\ h.get? a=some { cls:=.type "list", data:=.seq its.toArray n }
 | .tup xs=>xs.length ≤ sizeLine /\ ∃ its:List Value,Vals xs its /\ IsTup h a its.toArray
 | .dK kvs=>kvs.length ≤ sizeLine /\ (a == sysModules)=false /\ ∃ vs,KV kvs vs /\ h.DictOf (sL P w) a vs
 | .dT kvs=>kvs.length ≤ sizeLine /\ (a == sysModules)=false /\ ∃ xs:List (List Key × Addr × Value),
   Paired (fun (p:List Key × V) (q:List Key × Addr × Value)=>p.1=q.1 /\ H q.2.1=some (.tup (p.1.map kV)) /\ RelV p.2 q.2.2) kvs xs /\
   ∃ o es ep,h.get? a=some o /\ o.ExactDict /\ o.data=.dict es ep /\ es.toList=xs.map (entryOfKey (tupleKind (sL P w))) /\ (xs.map (·.1)).Nodup
 | .set S n=>h.SetOf (intKind P w) a S n
 | .ins C dx fs=>H dx=some (.own a) /\ fs.length ≤ 1000 /\ dx ≠ a /\ h.get? a=some (PySem.W.instObj C dx) /\
   ∃ mA,h.Ns1 dx mA /\ (∀ f,pK (fs.lookup f) (mA f)) /\ PySem.Within mA (fs.map (·.1))
 | .own _=>∃ o,h.get? a=some o
 | .xd fs=>∃ mA,h.Ns1 a mA /\ ∀ f,pK (fs.lookup f) (mA f)
 | .rng lo hi=>∃ t u v,h.get? a=some { cls:=.type "range", data:=.fields #[.int lo t,.int hi u,.int 1 v] }
 | .frz o u=>h.get? a=some o /\ dY H h a u
 | .tbl ps=>h.get? a=some { cls:=.none,data:=.fields ps }
 | .met f x=>h.get? a=some (PySem.W.methodObj (.ref f) (.ref x))
 | .ext φ=>φ h /\ (∃ o,h.get? a=some o) /\ ∀ h1 h2:Heap,φ h1 -> (∀ o,h1.get? a=some o -> h2.get? a=some o) -> φ h2
def mF (H:Hp) (h:Heap):Prop:=∀ a o,H a=some o -> dY P w H h a o
end
section
variable {P:Program} {w:World} {H H':Hp} {h h':Heap} {a:Addr} {o:HO}
theorem dY.lt (x:dY P w H h a o):a < h.objs.size:=by
 cases o with
 | lst xs=>obtain ⟨_,_,_,_,e⟩:=x; exact Heap.lt_size e
 | tup xs=>obtain ⟨_,_,_,p⟩:=x; exact p.lt
 | dK kvs=>obtain ⟨_,_,_,_,o,_,_,e,_⟩:=x; exact Heap.lt_size e
 | dT kvs=>obtain ⟨_,_,_,_,o,_,_,e,_⟩:=x; exact Heap.lt_size e
 | set S n=>obtain ⟨o,_,_,_,e,_⟩:=x; exact Heap.lt_size e
 | ins C dx fs=>obtain ⟨_,_,_,e,_⟩:=x; exact Heap.lt_size e
 | own y=>obtain ⟨_,e⟩:=x; exact Heap.lt_size e
 | xd fs=>obtain ⟨_,⟨_,_,_,e,_⟩,_⟩:=x; exact Heap.lt_size e
 | rng lo hi=>obtain ⟨_,_,_,e⟩:=x; exact Heap.lt_size e
 | frz ob u=>obtain ⟨e,_⟩:=x; exact Heap.lt_size e
 | tbl ps=>exact Heap.lt_size (show h.get? a=some _ from x)
 | met f y=>exact Heap.lt_size (show h.get? a=some _ from x)
 | ext φ=>obtain ⟨_,⟨_,e⟩,_⟩:=x; exact Heap.lt_size e
theorem Paired.mapP {α β:Type} {F G:α -> β -> Prop}:∀ {l₁:List α} {l₂:List β},Paired F l₁ l₂ -> (∀ a b,F a b -> G a b) -> Paired G l₁ l₂
 | _,_,.nil,_=>.nil
 | _,_,.cons r t,f=>.cons (f _ _ r) (Paired.mapP t f)
theorem dY.stay (x:dY P w H h a o) (k:∀ b u,(b=a \/ H b=some (.own a)) -> h.get? b=some u -> h'.get? b=some u)
  (ho:∀ b,H b=some (.own a) -> H' b=some (.own a)) (ht:∀ b xs,H b=some (.tup xs) -> H' b=some (.tup xs)):dY P w H' h' a o:=by
 induction o with
 | lst xs=>obtain ⟨z,its,n,r,e⟩:=x; exact ⟨z,its,n,r,k _ _ (.inl rfl) e⟩
 | tup xs=>obtain ⟨z,its,r,ob,e,c⟩:=x; exact ⟨z,its,r,ob,k _ _ (.inl rfl) e,c⟩
 | dK kvs=>obtain ⟨z,y,vs,r,ob,es,ep,e,c⟩:=x; exact ⟨z,y,vs,r,ob,es,ep,k _ _ (.inl rfl) e,c⟩
 | dT kvs =>
  obtain ⟨z,y,xs,r,ob,es,ep,e,c⟩:=x
  exact ⟨z,y,xs,Paired.mapP r fun p q z=>⟨z.1,ht _ _ z.2.1,z.2.2⟩,ob,es,ep,k _ _ (.inl rfl) e,c⟩
 | set S n=>obtain ⟨ob,es,ep,t,e,c⟩:=x; exact ⟨ob,es,ep,t,k _ _ (.inl rfl) e,c⟩
 | ins C dx fs =>
  obtain ⟨d,z,ne,e,mA,⟨od,es,ep,e2,c⟩,r⟩:=x
  exact ⟨ho _ d,z,ne,k _ _ (.inl rfl) e,mA,⟨od,es,ep,k _ _ (.inr d) e2,c⟩,r⟩
 | own y=>obtain ⟨ob,e⟩:=x; exact ⟨ob,k _ _ (.inl rfl) e⟩
 | xd fs=>obtain ⟨mA,⟨od,es,ep,e,c⟩,r⟩:=x; exact ⟨mA,⟨od,es,ep,k _ _ (.inl rfl) e,c⟩,r⟩
 | rng lo hi=>obtain ⟨t,u,v,e⟩:=x; exact ⟨t,u,v,k _ _ (.inl rfl) e⟩
 | frz ob u ih=>obtain ⟨e,q⟩:=x; exact ⟨k _ _ (.inl rfl) e,ih q⟩
 | tbl ps =>
  have e:h.get? a=some { cls:=.none,data:=.fields ps }:=x
  show h'.get? a=some { cls:=.none,data:=.fields ps }
  exact k a _ (.inl rfl) e
 | met f y =>
  have e:h.get? a=some (PySem.W.methodObj (.ref f) (.ref y)):=x
  show h'.get? a=some (PySem.W.methodObj (.ref f) (.ref y))
  exact k a _ (.inl rfl) e
 | ext φ=>obtain ⟨p,⟨o,e⟩,st⟩:=x; exact ⟨st _ _ p fun o q=>k _ _ (.inl rfl) q,⟨o,k _ _ (.inl rfl) e⟩,st⟩
theorem mF.lt (x:mF P w H h) (e:H a=some o):a < h.objs.size:=(x a o e).lt
theorem mF.fresh (x:mF P w H h) (e:h.objs.size ≤ a):H a=none:=by
 cases q:H a with
 | none=>rfl
 | some u=>exact absurd (Nat.lt_of_lt_of_le (x.lt q) e) (Nat.lt_irrefl _)
theorem mF.kept (x:mF P w H h) (k:∀ b u,h.get? b=some u -> h'.get? b=some u):mF P w H h':=fun a o e =>
 (x a o e).stay (fun b u _ q=>k b u q) (fun _ q=>q) fun _ _ q=>q
theorem mF.laid (x:mF P w H h) (k:∀ b u,h.get? b=some u -> h'.get? b=some u) (hp:h.objs.size ≤ a) (new:dY P w (upd H a o) h' a o):mF P w (upd H a o) h':=fun b u e=>by
 have hn:=x.fresh hp
 by_cases hb:b=a
 ·subst hb; rw [aN] at e; cases e; exact new
 ·rw [aE hb] at e
  exact (x b u e).stay (fun c v _ q=>k c v q) (fun c q=>by rw [aE (bq q hn)]; exact q) fun c xs q=>by rw [aE (bq q hn)]; exact q
end
def Rd (H:Hp) (a:Addr) (u:HO):Prop:=H a=some u \/ ∃ o,H a=some (.frz o u)
theorem Rd.of {H:Hp} {a:Addr} {u:HO} (h:H a=some u):Rd H a u:=.inl h
theorem Rd.ok {P:Program} {w:World} {H:Hp} {h:Heap} {a:Addr} {u:HO} (r:Rd H a u) (x:mF P w H h):dY P w H h a u:=by
 rcases r with r | ⟨o,r⟩
 ·exact x a u r
 ·obtain ⟨_,q⟩:=x a _ r
  exact q
def J4:Option HO -> Prop
 | some (.lst _)=>True
 | some (.dK _)=>True
 | some (.dT _)=>True
 | some (.set _ _)=>True
 | some (.ins _ _ _)=>True
 | some (.ext _)=>True
 | _=>False
section
variable {P:Program} {w:World} {H:Hp} {h h':Heap} {x e:Addr} {o':HO}
theorem mF.write (ok:mF P w H h) (mu:J4 (H x)) (he:e=x \/ H e=some (.own x)) (k:∀ b u,b ≠ e -> h.get? b=some u -> h'.get? b=some u) (heo:∃ u,h'.get? e=some u)
  (new:dY P w (upd H x o') h' x o'):mF P w (upd H x o') h':=fun b u q=>by
 have nown:∀ c y,H c=some (.own y) -> c ≠ x:=fun c y r z=>by subst z; rw [r] at mu; exact mu
 have ntup:∀ c xs,H c=some (.tup xs) -> c ≠ x:=fun c xs r z=>by subst z; rw [r] at mu; exact mu
 by_cases hb:b=x
 ·subst hb; rw [aN] at q; cases q; exact new
 ·rw [aE hb] at q
  by_cases hbe:b=e
  ·have q':H b=some (.own x):=by
    rcases he with z | z
    ·exact absurd (hbe.trans z) hb
    ·rw [hbe]; exact z
   rw [q] at q'; cases q'
   obtain ⟨v,hv⟩:=heo
   exact ⟨v,by rw [hbe]; exact hv⟩
  ·refine (ok b u q).stay (fun c v hc r=>k c v ?_ r) (fun c r=>by rw [aE (nown c b r)]; exact r) fun c xs r=>by rw [aE (ntup c xs r)]; exact r
   rcases hc with rfl | hc
   ·exact hbe
   ·rintro rfl
    rcases he with z | z
    ·exact nown c b hc z
    ·rw [hc] at z; cases z; exact hb rfl
end
structure Un (fs ex:List Addr) (H H':Hp) (h h':Heap):Prop where
 keep:∀ b o,h.get? b=some o -> H b=none -> b ∉ fs -> b ∉ ex -> h'.get? b=some o
 slot:∀ b o,h.get? b=some o -> H b=none -> b ∈ fs -> b ∉ ex -> ∃ sl,h'.get? b=some { o with slots:=sl }
 free:∀ b o,h.get? b=some o -> H b=none -> b ∉ ex -> H' b=none
 there:∀ b o,h.get? b=some o -> b ∉ ex -> ∃ o',h'.get? b=some o'
 tups:∀ b xs,H b=some (.tup xs) -> H' b=some (.tup xs)
 frzs:∀ b o u,H b=some (.frz o u) -> H' b=some (.frz o u)
 tbls:∀ b ps,H b=some (.tbl ps) -> ∃ more,H' b=some (.tbl (ps ++ more))
section
variable {fs fs' ex ex':List Addr} {H H1 H2:Hp} {h h1 h2 h':Heap} {a x e:Addr} {o:HO}
theorem Un.any (u:Un fs ex H H1 h h1) {b:Addr} {ob:Obj} (q:h.get? b=some ob) (n:H b=none) (hx:b ∉ ex):∃ sl,h1.get? b=some { ob with slots:=sl }:=by
 by_cases hb:b ∈ fs
 ·exact u.slot b ob q n hb hx
 ·exact ⟨ob.slots,u.keep b ob q n hb hx⟩
theorem Un.trans (a:Un fs ex H H1 h h1) (b:Un fs ex H1 H2 h1 h2):Un fs ex H H2 h h2 where
 keep:=fun c ob q n hc hx=>b.keep c ob (a.keep c ob q n hc hx) (a.free c ob q n hx) hc hx
 slot:=fun c ob q n hc hx=>by
  obtain ⟨sl,e1⟩:=a.slot c ob q n hc hx
  obtain ⟨sl',e2⟩:=b.slot c _ e1 (a.free c ob q n hx) hc hx
  exact ⟨sl',e2⟩
 free:=fun c ob q n hx=>by
  obtain ⟨o',e1⟩:=a.there c ob q hx
  exact b.free c o' e1 (a.free c ob q n hx) hx
 there:=fun c ob q hx=>by
  obtain ⟨o',e1⟩:=a.there c ob q hx
  exact b.there c o' e1 hx
 tups:=fun c xs q=>b.tups c xs (a.tups c xs q)
 frzs:=fun c ob xs q=>b.frzs c ob xs (a.frzs c ob xs q)
 tbls:=fun c ps q=>by
  obtain ⟨m1,e1⟩:=a.tbls c ps q
  obtain ⟨m2,e2⟩:=b.tbls c _ e1
  exact ⟨m1 ++ m2,by rw [e2,Array.append_assoc]⟩
theorem Un.kept (k:∀ b u,h.get? b=some u -> h'.get? b=some u):Un fs ex H H h h':=
 ⟨fun b ob q _ _ _=>k b ob q,fun b ob q _ _ _=>⟨ob.slots,k b ob q⟩,fun _ _ _ n _=>n,fun b ob q _=>⟨ob,k b ob q⟩,fun _ _ q=>q,fun _ _ _ q=>q,fun _ ps q=>⟨#[],by rw [q]; simp⟩⟩
theorem Un.refl:Un fs ex H H h h:=Un.kept fun _ _ q=>q
theorem Un.laid (k:∀ b u,h.get? b=some u -> h'.get? b=some u) (hp:h.objs.size ≤ a) (hn:H a=none):Un fs ex H (upd H a o) h h' where
 keep:=fun b u q _ _ _=>k b u q
 slot:=fun b u q _ _ _=>⟨u.slots,k b u q⟩
 free:=fun b u q n _=>by rw [aE (Nat.ne_of_lt (Nat.lt_of_lt_of_le (Heap.lt_size q) hp))]; exact n
 there:=fun b u q _=>⟨u,k b u q⟩
 tups:=fun b xs q=>by rw [aE (bq q hn)]; exact q
 frzs:=fun b u xs q=>by rw [aE (bq q hn)]; exact q
 tbls:=fun b ps q=>⟨#[],by rw [aE (bq q hn),q]; simp⟩
theorem Un.write (mu:J4 (H x)) (he:e=x \/ H e=some (.own x)) (k:∀ b u,b ≠ e -> h.get? b=some u -> h'.get? b=some u) (heo:∃ u,h'.get? e=some u):Un fs ex H (upd H x o) h h':=by
 have hx:∀ b,H b=none -> b ≠ x:=fun b n z=>by subst z; rw [n] at mu; exact mu
 have hb:∀ b,H b=none -> b ≠ e:=fun b n z=>by
  subst z
  rcases he with r | r
  ·exact hx b n r
  ·rw [n] at r; cases r
 have hm:∀ b u,H b=some u -> ¬ J4 (some u) -> b ≠ x:=fun b u q nm z=>by subst z; rw [q] at mu; exact nm mu
 refine ⟨fun b u q n _ _=>k b u (hb b n) q,fun b u q n _ _=>⟨u.slots,k b u (hb b n) q⟩,fun b u q n _=>by rw [aE (hx b n)]; exact n,fun b u q _=>?_,
  fun b xs q=>by rw [aE (hm b _ q fun z=>z)]; exact q,fun b u xs q=>by rw [aE (hm b _ q fun z=>z)]; exact q,fun b ps q=>⟨#[],by rw [aE (hm b _ q fun z=>z),q]; simp⟩⟩
 by_cases hbe:b=e
 ·subst hbe; exact heo
 ·exact ⟨u,k b u hbe q⟩
theorem Un.mono (u:Un fs ex H H1 h h1) (hs:∀ b ∈ fs,b ∈ fs') (hx:∀ b ∈ ex,b ∈ ex'):Un fs' ex' H H1 h h1:=
 ⟨fun b ob q n hb he=>u.keep b ob q n (fun z=>hb (hs b z)) fun z=>he (hx b z),fun _ _ q n _ he=>u.any q n fun z=>he (hx _ z),fun b ob q n he=>u.free b ob q n fun z=>he (hx b z),fun b ob q he=>u.there b ob q fun z=>he (hx b z),u.tups,u.frzs,u.tbls⟩
end
def AK (h:Heap) (H:Hp):List Addr:=(List.range h.objs.size).filter fun a=>(H a).isSome
def rL (h:Heap) (H:Hp):Heap:=PySem.W.hideAll h (AK h H)
theorem Ab (h:Heap) (H:Hp):(rL h H).objs.size=h.objs.size:=PySem.W.hideAll_size _ _
theorem BB {h:Heap} {H:Hp} {b:Addr} {o:Obj} (e:h.get? b=some o) (n:H b=none):(rL h H).get? b=some o:=
 PySem.W.hideAll_get _ e fun hm=>by
  have q:(H b).isSome=true:=(List.mem_filter.mp hm).2
  rw [n] at q; simp at q
theorem D6 {h:Heap} {H:Hp} {b:Addr} {o:Obj} (e:(rL h H).get? b=some o):h.get? b=some o /\ H b=none:=by
 have e':h.get? b=some o:=PySem.W.of_hideAll (AK h H) e
 refine ⟨e',?_⟩
 cases q:H b with
 | none=>rfl
 | some x =>
  have hm:b ∈ AK h H:=List.mem_filter.mpr ⟨List.mem_range.mpr (Heap.lt_size e'),by simp [q]⟩
  have z:(rL h H).get? b=none:=PySem.W.hideAll_none (AK h H) hm
  rw [z] at e; cases e
def C8 (g h:Heap) (L:Addr):List (Addr × Obj):=(List.range h.objs.size).filterMap fun a=>if a=L \/ (g.get? a).isSome=true then none else (h.get? a).map fun o=>(a,o)
def rest (g h:Heap) (L d:Addr):List (Addr × Obj):=(C8 g h L).filter fun p=>decide (p.1 ≠ d)
open PySem PySem.Spec PyProof.Rows
structure Mod (K:PySem.W.Frag) (mg:Str -> Option Value) (base:Heap):Prop where
 kin:K.In base
 glob:base.Ns mainGlobals mg
 blt:∃ mb,base.Ns builtinsNs mb /\ ∀ x:Str,x ≠ "__name__" -> mb x=bootBuiltins x
 nolimit:base.NoLimit
structure Cx where
 prog:Program
 w:World
 K:PySem.W.Frag
 mg:Str -> Option Value
 base:Heap
 A:Around
 N:List Str
 s₀:Shared
 H₀:Hp
 env:Env
 outer:List Env
 stack:List Env
 ex:List Addr
 fn:Str -> Bool
 calm:Bool
 pn:List (Addr × Obj)
 xe:Value -> Shared -> Prop
def nr (l:List Env):List Addr:=l.filterMap (·.frame)
abbrev Cx.fs (X:Cx):List Addr:=nr X.outer
def HM (sc:Scope) (x:Str):Prop:=sc.names.lookup x=some .local \/ sc.names.lookup x=some .cell \/ sc.names.lookup x=some .free
def Loc (sc:Scope) (x:Str):Prop:=sc.names.lookup x=some .local \/ sc.names.lookup x=some .cell
def Look (env:Env) (h:Heap) (m:Str -> Option Value) (x:Str) (u:Value):Prop:=
 (env.kindOf x=some .local /\ m x=some u) \/ ((env.kindOf x=some .cell \/ env.kindOf x=some .free) /\ ∃ c,env.cells.lookup x=some c /\ h.IsCell c (some u))
structure Cx.Ok (X:Cx):Prop where
 mod:Mod X.K X.mg X.base
 kind:X.env.scope.kind=.function
 glob:X.env.globals=mainGlobals
 blt:X.env.builtins=builtinsNs
 above:X.s₀.heap.objs.size ≤ X.env.locals
 inj:∀ x y c,X.env.cells.lookup x=some c -> X.env.cells.lookup y=some c -> x=y
 has:∀ x,(X.env.kindOf x=some .cell \/ X.env.kindOf x=some .free) -> ∃ c,X.env.cells.lookup x=some c
 cab:∀ x c,X.fn x=true -> X.env.cells.lookup x=some c -> X.s₀.heap.objs.size ≤ c
 hd:X.calm=true -> X.A.handled=none
 frames:X.A.frames=some X.stack
 stk:X.stack=X.outer \/ (X.stack=X.env :: X.outer /\ X.env.frame=some X.env.locals)
 exf:∀ b ∈ X.ex,b ≠ X.env.locals /\ ∀ x c,X.env.cells.lookup x=some c -> c ≠ b
 bs:∀ b o,X.base.get? b=some o -> X.s₀.heap.get? b=some o /\ X.H₀ b=none
 bsz:X.base.objs.size ≤ X.s₀.heap.objs.size
 noex:∀ b o,X.base.get? b=some o -> b ∉ X.ex
 exfs:∀ b ∈ X.ex,b ∉ X.fs
 funs:X.s₀.heap.FunFrames X.base X.outer
 frf:∀ b ∈ X.fs,X.H₀ b=none
structure Inv (X:Cx) (pins:List (Addr × Obj)) (σ:List (Option V)) (H:Hp) (s:Shared):Prop where
 ok:X.Ok
 os:s.os=X.s₀.os
 bare:AllBare s.gens
 base:Un X.fs X.ex X.H₀ H X.s₀.heap s.heap
 loc:∃ m,s.heap.Ns X.env.locals m /\ ∀ (i:Nat) (x:Str) (v:V),X.N[i]? = some x -> σ[i]? = some (some v) -> HM X.env.scope x -> ∃ u,RelV v u /\ Look X.env s.heap m x u
 cell:∀ x c,X.env.cells.lookup x=some c -> ∃ v,s.heap.IsCell c v
 free:H X.env.locals=none
 freeC:∀ x c,X.env.cells.lookup x=some c -> H c=none
 pin:∀ p ∈ X.pn ++ pins,s.heap.get? p.1=some p.2 /\ H p.1=none /\ p.1 ≠ X.env.locals /\ p.1 ∉ X.fs /\ ∀ v,p.2.data ≠ .cell v
 hok:mF X.prog X.w H s.heap
 len:σ.length=X.N.length
section
variable {X:Cx} {pins:List (Addr × Obj)} {σ:List (Option V)} {H H':Hp} {s:Shared} {h':Heap}
theorem Cx.Ok.nofr (ok:X.Ok) {b:Addr} {o:Obj} (e:X.base.get? b=some o):b ∉ X.fs:=fun hb=>by
 have:=(ok.funs.mem hb).1
 rw [e] at this; cases this
theorem Inv.bs (I:Inv X pins σ H s):∀ b o,X.base.get? b=some o -> s.heap.get? b=some o /\ H b=none:=fun b o e =>
 ⟨I.base.keep b o (I.ok.bs b o e).1 (I.ok.bs b o e).2 (I.ok.nofr e) (I.ok.noex b o e),I.base.free b o (I.ok.bs b o e).1 (I.ok.bs b o e).2 (I.ok.noex b o e)⟩
theorem Inv.bk (I:Inv X pins σ H s):∀ b o,X.base.get? b=some o -> s.heap.get? b=some o:=fun b o e=>(I.bs b o e).1
theorem Inv.mod (I:Inv X pins σ H s):Mod X.K X.mg X.base:=I.ok.mod
theorem Inv.kIn (I:Inv X pins σ H s):X.K.In s.heap:=I.ok.mod.kin.keeps I.bk
theorem Inv.nolimit (I:Inv X pins σ H s):s.heap.NoLimit:=I.ok.mod.nolimit.keeps I.bk
theorem Inv.fr (I:Inv X pins σ H s):∃ m,Fr X.base X.env.locals s.heap m:=
 let ⟨m,hn,_⟩:=I.loc
 ⟨m,hn,I.bk,Nat.le_trans I.ok.bsz I.ok.above⟩
theorem Inv.lt (I:Inv X pins σ H s):X.env.locals < s.heap.objs.size:=let ⟨_,hn,_⟩:=I.loc; hn.lt
theorem Inv.sz (I:Inv X pins σ H s):X.s₀.heap.objs.size ≤ s.heap.objs.size:=Nat.le_trans I.ok.above (Nat.le_of_lt I.lt)
theorem Inv.nofs (I:Inv X pins σ H s) {a:Addr} (h:s.heap.objs.size ≤ a):a ∉ X.fs:=fun hb=>by
 obtain ⟨_,o,ho,_⟩:=I.ok.funs.mem hb
 exact absurd (Nat.lt_of_lt_of_le (Heap.lt_size ho) (Nat.le_trans I.sz h)) (Nat.lt_irrefl _)
theorem Inv.cne (I:Inv X pins σ H s):∀ x c,X.env.cells.lookup x=some c -> c ≠ X.env.locals:=fun x c e z=>by
 obtain ⟨v,o,ho,hd⟩:=I.cell x c e
 obtain ⟨m,⟨o',es,ep,ho',hd',_⟩,_⟩:=I.loc
 rw [z,ho'] at ho; cases ho; rw [hd'] at hd; cases hd
theorem Inv.funs (I:Inv X pins σ H s):s.heap.FunFrames X.base X.outer:=by
 have all:∀ (l:List Env),(∀ b ∈ nr l,b ∈ X.fs) -> X.s₀.heap.FunFrames X.base l -> s.heap.FunFrames X.base l:=by
  intro l
  induction l with
  | nil=>intro _ _; trivial
  | cons env r ih =>
   intro hs hl
   obtain ⟨hk,⟨L,o,hf,hn,ho,hd⟩,hr⟩:=hl
   have hL:L ∈ X.fs:=hs L (by unfold nr; rw [List.filterMap_cons,hf]; exact List.mem_cons_self)
   obtain ⟨sl,e⟩:=I.base.slot L o ho (I.ok.frf L hL) hL fun z=>I.ok.exfs L z hL
   exact ⟨hk,⟨L,_,hf,hn,e,hd⟩,ih (fun b hb=>hs b (by unfold nr; rw [List.filterMap_cons,hf]; exact List.mem_cons_of_mem _ hb)) hr⟩
 exact all X.outer (fun _ hb=>hb) I.ok.funs
theorem Inv.stack (I:Inv X pins σ H s):s.heap.FunFrames X.base X.stack:=by
 rcases I.ok.stk with e | ⟨e,hf⟩
 ·rw [e]; exact I.funs
 ·rw [e]
  obtain ⟨m,hn,_⟩:=I.loc
  refine .cons (by rw [I.ok.kind]; decide) hf hn ?_ I.funs
  exact Heap.get?_none_of_le (Nat.le_trans I.ok.bsz I.ok.above)
theorem Inv.stkSub (I:Inv X pins σ H s):∀ b ∈ nr X.stack,b ∈ X.env.locals :: X.fs:=fun b hb=>by
 rcases I.ok.stk with e | ⟨e,hf⟩
 ·rw [e] at hb; exact List.mem_cons_of_mem _ hb
 ·rw [e] at hb
  unfold nr at hb
  rw [List.filterMap_cons,hf] at hb
  exact hb
theorem Inv.stkFree (I:Inv X pins σ H s):∀ b ∈ nr X.stack,H b=none:=fun b hb=>by
 rcases List.mem_cons.mp (I.stkSub b hb) with e | hb
 ·rw [e]; exact I.free
 ·obtain ⟨_,o,ho,_⟩:=I.ok.funs.mem hb
  exact I.base.free b o ho (I.ok.frf b hb) fun z=>I.ok.exfs b z hb
theorem Inv.step {g':Array GenState} {t':Nat} {d':Drawn} {ch:List Addr} (I:Inv X pins σ H s)
  (hch:∀ b ∈ ch,(b ∈ X.ex \/ X.s₀.heap.objs.size ≤ b) /\ b ≠ X.env.locals /\ (∀ x c,X.env.cells.lookup x=some c -> c ≠ b) /\ ∀ p ∈ X.pn ++ pins,p.1 ≠ b)
  (keep:∀ b o,b ≠ X.env.locals -> b ∉ X.fs -> b ∉ ch -> s.heap.get? b=some o -> H b=none -> h'.get? b=some o)
  (slot:∀ b o,b ≠ X.env.locals -> b ∈ X.fs -> b ∉ ch -> s.heap.get? b=some o -> H b=none -> ∃ sl,h'.get? b=some { o with slots:=sl }) (free:∀ b o,b ∉ ch -> s.heap.get? b=some o -> H b=none -> H' b=none)
  (there:∀ b o,b ∉ ch -> s.heap.get? b=some o -> ∃ o',h'.get? b=some o')
  (tups:∀ b xs,H b=some (.tup xs) -> H' b=some (.tup xs)) (frzs:∀ b o u,H b=some (.frz o u) -> H' b=some (.frz o u)) (tbls:∀ b ps,H b=some (.tbl ps) -> ∃ more,H' b=some (.tbl (ps ++ more)))
  (ns:∀ m,s.heap.Ns X.env.locals m -> h'.Ns X.env.locals m) (hok:mF X.prog X.w H' h') (hg:AllBare g') :
  Inv X pins σ H' { s with heap:=h',gens:=g',drawn:=d',toks:=t' }:=by
 have neL:∀ b o,X.s₀.heap.get? b=some o -> b ≠ X.env.locals:=fun b o e=>Nat.ne_of_lt (Nat.lt_of_lt_of_le (Heap.lt_size e) I.ok.above)
 have neC:∀ b o,X.s₀.heap.get? b=some o -> b ∉ X.ex -> b ∉ ch:=fun b o e hx hb=>by
  rcases (hch b hb).1 with z | z
  ·exact hx z
  ·exact absurd (Nat.lt_of_lt_of_le (Heap.lt_size e) z) (Nat.lt_irrefl _)
 have cellK:∀ x c,X.env.cells.lookup x=some c -> ∀ v,s.heap.IsCell c v -> h'.IsCell c v:=fun x c e v hq__=>by
  obtain ⟨o,ho,hd⟩:=hq__
  have nch:c ∉ ch:=fun z=>(hch c z).2.2.1 x c e rfl
  by_cases hc:c ∈ X.fs
  ·obtain ⟨sl,q⟩:=slot c o (I.cne x c e) hc nch ho (I.freeC x c e)
   exact ⟨_,q,hd⟩
  ·exact ⟨o,keep c o (I.cne x c e) hc nch ho (I.freeC x c e),hd⟩
 refine ⟨I.ok,I.os,hg,⟨fun b o e n hb hx=>?_,fun b o e n hb hx=>?_,fun b o e n hx=>?_,fun b o e hx=>?_,fun b xs e=>tups b xs (I.base.tups b xs e),fun b o xs e=>frzs b o xs (I.base.frzs b o xs e),fun b ps e=>?_⟩,?_,fun x c e=>?_,?_,fun x c e=>?_,fun p hp=>?_,hok,I.len⟩
 ·exact keep b o (neL b o e) hb (neC b o e hx) (I.base.keep b o e n hb hx) (I.base.free b o e n hx)
 ·obtain ⟨sl,e1⟩:=I.base.slot b o e n hb hx
  obtain ⟨sl',e2⟩:=slot b _ (neL b o e) hb (neC b o e hx) e1 (I.base.free b o e n hx)
  exact ⟨sl',e2⟩
 ·obtain ⟨o',e1⟩:=I.base.there b o e hx
  exact free b o' (neC b o e hx) e1 (I.base.free b o e n hx)
 ·obtain ⟨o',e1⟩:=I.base.there b o e hx
  exact there b o' (neC b o e hx) e1
 ·obtain ⟨m1,e1⟩:=I.base.tbls b ps e
  obtain ⟨m2,e2⟩:=tbls b _ e1
  exact ⟨m1 ++ m2,by rw [e2,Array.append_assoc]⟩
 ·obtain ⟨m,hn,hl⟩:=I.loc
  refine ⟨m,ns m hn,fun i x v e1 e2 e3=>?_⟩
  obtain ⟨u,r,l⟩:=hl i x v e1 e2 e3
  refine ⟨u,r,?_⟩
  rcases l with l | ⟨k,c,e,z⟩
  ·exact .inl l
  ·exact .inr ⟨k,c,e,cellK x c e _ z⟩
 ·obtain ⟨v,z⟩:=I.cell x c e
  exact ⟨v,cellK x c e v z⟩
 ·obtain ⟨m,⟨o,_,_,ho,_⟩,_⟩:=I.loc
  exact free _ o (fun z=>(hch _ z).2.1 rfl) ho I.free
 ·obtain ⟨v,o,ho,hd⟩:=I.cell x c e
  exact free c o (fun z=>(hch c z).2.2.1 x c e rfl) ho (I.freeC x c e)
 ·obtain ⟨e,n,ne,nf,d⟩:=I.pin p hp
  have nch:p.1 ∉ ch:=fun z=>(hch p.1 z).2.2.2 p hp rfl
  exact ⟨keep p.1 p.2 ne nf nch e n,free p.1 p.2 nch e n,ne,nf,d⟩
theorem Inv.un {t':Nat} (I:Inv X pins σ H s) (u:Un X.fs [] H H' s.heap h') (hok:mF X.prog X.w H' h'):Inv X pins σ H' { s with heap:=h',toks:=t' }:=by
 obtain ⟨m,⟨o,es,ep,ho,r⟩,_⟩:=id I.loc
 obtain ⟨sl,hL⟩:=u.any ho I.free (by simp)
 exact I.step (g':=s.gens) (d':=s.drawn) (ch:=[]) (fun _ z=>nomatch z) (fun b o _ hb _ e n=>u.keep b o e n hb (by simp)) (fun b o _ hb _ e n=>u.slot b o e n hb (by simp)) (fun b o _ e n=>u.free b o e n (by simp)) (fun b o _ e=>u.there b o e (by simp)) u.tups u.frzs u.tbls (fun m' hm=>by
  obtain ⟨o',es',ep',ho',r'⟩:=hm
  rw [ho] at ho'; cases ho'
  exact ⟨_,es',ep',hL,r'⟩) hok I.bare
theorem Inv.call {g':Array GenState} {t':Nat} {d':Drawn} {ch:List Addr} (I:Inv X pins σ H s) (u:Un (nr X.stack) ch H H' s.heap h') (hok:mF X.prog X.w H' h') (hg:AllBare g')
  (hch:∀ b ∈ ch,(b ∈ X.ex \/ X.s₀.heap.objs.size ≤ b) /\ b ≠ X.env.locals /\ (∀ x c,X.env.cells.lookup x=some c -> c ≠ b) /\ ∀ p ∈ X.pn ++ pins,p.1 ≠ b) :
  Inv X pins σ H' { s with heap:=h',gens:=g',drawn:=d',toks:=t' }:=by
 obtain ⟨m,⟨o,es,ep,ho,r⟩,_⟩:=id I.loc
 obtain ⟨sl,hL⟩:=u.any ho I.free fun z=>(hch _ z).2.1 rfl
 exact I.step (ch:=ch) hch (fun b o hL hb hc e n=>u.keep b o e n (fun z=>(List.mem_cons.mp (I.stkSub b z)).elim hL hb) hc) (fun b o _ _ hc e n=>u.any e n hc) (fun b o hc e n=>u.free b o e n hc) (fun b o hc e=>u.there b o e hc) u.tups u.frzs u.tbls (fun m' hm=>by
  obtain ⟨o',es',ep',ho',r'⟩:=hm
  rw [ho] at ho'; cases ho'
  exact ⟨_,es',ep',hL,r'⟩) hok hg
theorem Inv.turned {t':Nat} {it:Addr} (I:Inv X pins σ H s) (k:∀ b o,b ≠ it -> s.heap.get? b=some o -> h'.get? b=some o) (hn:H it=none) (hL:it ≠ X.env.locals)
  (h1:it ∈ X.ex \/ X.s₀.heap.objs.size ≤ it) (h2:∀ x c,X.env.cells.lookup x=some c -> c ≠ it) (h3:∀ p ∈ X.pn ++ pins,p.1 ≠ it):Inv X pins σ H { s with heap:=h',toks:=t' }:=by
 have nit:∀ b u,H b=some u -> b ≠ it:=fun b u e z=>by rw [z,hn] at e; cases e
 refine I.step (g':=s.gens) (d':=s.drawn) (ch:=[it]) (fun b hb=>?_) (fun b o _ _ hc e _=>k b o (fun z=>hc (by simp [z])) e) (fun b o _ _ hc e _=>⟨o.slots,k b o (fun z=>hc (by simp [z])) e⟩) (fun _ _ _ _ n=>n)
  (fun b o hc e=>⟨o,k b o (fun z=>hc (by simp [z])) e⟩) (fun _ _ e=>e) (fun _ _ _ e=>e) (fun b ps e=>⟨#[],by rw [e]; simp⟩) (fun m hm=>?_) (fun b u e=>?_) I.bare
 ·have e:b=it:=by simpa using hb
  subst e
  exact ⟨h1,hL,h2,h3⟩
 ·obtain ⟨o,es,ep,ho,r⟩:=hm
  exact ⟨o,es,ep,k _ o (Ne.symm hL) ho,r⟩
 ·refine (I.hok b u e).stay (fun c v hc q=>k c v ?_ q) (fun _ q=>q) fun _ _ q=>q
  rcases hc with z | z
  ·rw [z]; exact nit b u e
  ·exact nit c _ z
theorem Inv.tok (I:Inv X pins σ H s) (t:Nat):Inv X pins σ H { s with toks:=t }:=I.un (h':=s.heap) (t':=t) Un.refl I.hok
theorem Inv.kept {t':Nat} (I:Inv X pins σ H s) (k:∀ b u,s.heap.get? b=some u -> h'.get? b=some u):Inv X pins σ H { s with heap:=h',toks:=t' }:=I.un (Un.kept k) (I.hok.kept k)
theorem Inv.laid {a:Addr} {o:HO} {t':Nat} (I:Inv X pins σ H s) (k:∀ b u,s.heap.get? b=some u -> h'.get? b=some u) (hp:s.heap.objs.size ≤ a) (new:dY X.prog X.w (upd H a o) h' a o) :
  Inv X pins σ (upd H a o) { s with heap:=h',toks:=t' }:=I.un (Un.laid k hp (I.hok.fresh hp)) (I.hok.laid k hp new)
theorem Inv.write {x e:Addr} {o:HO} {t':Nat} (I:Inv X pins σ H s) (mu:J4 (H x)) (he:e=x \/ H e=some (.own x)) (k:∀ b u,b ≠ e -> s.heap.get? b=some u -> h'.get? b=some u) (heo:∃ u,h'.get? e=some u)
  (new:dY X.prog X.w (upd H x o) h' x o):Inv X pins σ (upd H x o) { s with heap:=h',toks:=t' }:=I.un (Un.write mu he k heo) (I.hok.write mu he k heo new)
theorem Inv.weak {σ':List (Option V)} (I:Inv X pins σ H s) (hl:σ'.length=σ.length) (w:∀ (i:Nat) v,σ'[i]? = some (some v) -> σ[i]? = some (some v)):Inv X pins σ' H s:=
 ⟨I.ok,I.os,I.bare,I.base,let ⟨m,hn,hl'⟩:=I.loc; ⟨m,hn,fun i x v e1 e2 e3=>hl' i x v e1 (w i v e2) e3⟩,I.cell,I.free,I.freeC,I.pin,I.hok,hl.trans I.len⟩
theorem Inv.pins_of {pins':List (Addr × Obj)} (I:Inv X pins σ H s) (h:∀ p ∈ pins',s.heap.get? p.1=some p.2 /\ H p.1=none /\ p.1 ≠ X.env.locals /\ p.1 ∉ X.fs /\ ∀ v,p.2.data ≠ .cell v):Inv X pins' σ H s:=
 ⟨I.ok,I.os,I.bare,I.base,I.loc,I.cell,I.free,I.freeC,fun p hp=>(List.mem_append.mp hp).elim (fun z=>I.pin p (List.mem_append_left _ z)) (h p),I.hok,I.len⟩
theorem vv {N:List Str} (hN:N.Nodup) {i j:Nat} {x:Str} (a:N[i]? = some x) (b:N[j]? = some x):i=j:=by
 obtain ⟨h1,e1⟩:=List.getElem?_eq_some_iff.mp a
 obtain ⟨h2,e2⟩:=List.getElem?_eq_some_iff.mp b
 exact (List.getElem_inj hN).mp (e1.trans e2.symm)
theorem qH {M:Model} {A:Around} {E:Value -> Shared -> Prop} {i:Nat} {x:Str} {v:V} {u:Value} {Q:Unit -> Shared -> Prop} (I:Inv X pins σ H s) (hN:X.N.Nodup) (hi:X.N[i]? = some x) (hx:Loc X.env.scope x) (r:RelV v u)
  (h:∀ s',Inv X pins (σ.set i (some v)) H s' -> (∃ a,Heap.SameBut a s.heap s'.heap /\ (a=X.env.locals \/ X.env.cells.lookup x=some a)) -> Q () s') (hf:X.fn x=true \/ X.env.scope.names.lookup x=some .local:=by first | exact .inl rfl | exact .inr rfl | assumption):wpAny M A (storeName X.env x u) Q E s:=by
 obtain ⟨m,hn,hl⟩:=id I.loc
 have hcls:(X.env.scope.kind == .class || (X.env.scope.kind == .module && X.env.locals != X.env.globals))=false:=by rw [I.ok.kind]; rfl
 have hiσ:i < σ.length:=by rw [I.len]; exact (List.getElem?_eq_some_iff.mp hi).1
 have cne:=I.cne
 have tracked:∀ {a:Addr} {h':Heap},(∃ o,s.heap.get? a=some o /\ H a=none) -> Heap.SameBut a s.heap h' -> mF X.prog X.w H h':=fun {a h'} ha hs b ob e=>by
  obtain ⟨_,_,hfree⟩:=ha
  refine (I.hok b ob e).stay (fun c w' hc q=>(hs.2 c ?_).trans q) (fun _ q=>q) fun _ _ q=>q
  rintro rfl
  rcases hc with rfl | hc
  ·rw [hfree] at e; cases e
  ·rw [hfree] at hc; cases hc
 rcases hx with hk | hk
 ·refine wpAny_storeName_local hk hn (fun h' hn' hs=>?_) hcls
  obtain ⟨oL,_,_,hoL,_⟩:=id hn
  refine h _ ⟨I.ok,I.os,I.bare,⟨fun b o e n hb hx=>?_,fun b o e n hb hx=>?_,I.base.free,fun b o e hx=>?_,I.base.tups,I.base.frzs,I.base.tbls⟩,⟨_,hn',fun j y v' e1 e2 e3=>?_⟩,fun y c e=>?_,I.free,I.freeC,fun p hp=>?_,tracked ⟨oL,hoL,I.free⟩ hs,by simpa using I.len⟩ ⟨_,hs,.inl rfl⟩
  ·exact (hs.2 b (Nat.ne_of_lt (Nat.lt_of_lt_of_le (Heap.lt_size e) I.ok.above))).trans (I.base.keep b o e n hb hx)
  ·obtain ⟨sl,e1⟩:=I.base.slot b o e n hb hx
   exact ⟨sl,(hs.2 b (Nat.ne_of_lt (Nat.lt_of_lt_of_le (Heap.lt_size e) I.ok.above))).trans e1⟩
  ·obtain ⟨o',e1⟩:=I.base.there b o e hx
   exact ⟨o',(hs.2 b (Nat.ne_of_lt (Nat.lt_of_lt_of_le (Heap.lt_size e) I.ok.above))).trans e1⟩
  ·by_cases hj:j=i
   ·subst hj
    rw [hi] at e1; cases e1
    rw [List.getElem?_set_self hiσ] at e2
    cases e2
    exact ⟨u,r,.inl ⟨hk,by simp⟩⟩
   ·rw [List.getElem?_set_ne (Ne.symm hj)] at e2
    obtain ⟨u',r',q⟩:=hl j y v' e1 e2 e3
    refine ⟨u',r',?_⟩
    rcases q with ⟨k,e⟩ | ⟨k,c,e,z⟩
    ·refine .inl ⟨k,?_⟩
     have:y ≠ x:=fun e=>hj (vv hN e1 (e ▸ hi))
     simp [this,e]
    ·exact .inr ⟨k,c,e,z.sameBut hs (cne y c e)⟩
  ·obtain ⟨w',z⟩:=I.cell y c e
   exact ⟨w',z.sameBut hs (cne y c e)⟩
  ·obtain ⟨e,n,ne,nf,d⟩:=I.pin p hp
   exact ⟨(hs.2 p.1 ne).trans e,n,ne,nf,d⟩
 ·have hfn:X.fn x=true:=by
   rcases hf with z | z
   ·exact z
   ·rw [z] at hk; cases hk
  obtain ⟨c,hc⟩:=I.ok.has x (.inl hk)
  obtain ⟨w',z⟩:=I.cell x c hc
  refine wpAny_storeName_cell I.ok.kind hk hc z (fun h' hc' hs=>?_)
  obtain ⟨oc,hoc,hocd⟩:=id z
  refine h { s with heap:=h' } ⟨I.ok,I.os,I.bare,⟨fun b o e n hb hx=>?_,fun b o e n hb hx=>?_,I.base.free,fun b o e hx=>?_,I.base.tups,I.base.frzs,I.base.tbls⟩,⟨m,hn.sameBut hs (Ne.symm (cne x c hc)),fun j y v' e1 e2 e3=>?_⟩,fun y c' e=>?_,I.free,I.freeC,fun p hp=>?_,tracked ⟨oc,hoc,I.freeC x c hc⟩ hs,by simpa using I.len⟩ ⟨c,hs,.inr hc⟩
  ·exact (hs.2 b (Nat.ne_of_lt (Nat.lt_of_lt_of_le (Heap.lt_size e) (I.ok.cab x c hfn hc)))).trans (I.base.keep b o e n hb hx)
  ·obtain ⟨sl,e1⟩:=I.base.slot b o e n hb hx
   exact ⟨sl,(hs.2 b (Nat.ne_of_lt (Nat.lt_of_lt_of_le (Heap.lt_size e) (I.ok.cab x c hfn hc)))).trans e1⟩
  ·obtain ⟨o',e1⟩:=I.base.there b o e hx
   exact ⟨o',(hs.2 b (Nat.ne_of_lt (Nat.lt_of_lt_of_le (Heap.lt_size e) (I.ok.cab x c hfn hc)))).trans e1⟩
  ·by_cases hj:j=i
   ·subst hj
    rw [hi] at e1; cases e1
    rw [List.getElem?_set_self hiσ] at e2
    cases e2
    exact ⟨u,r,.inr ⟨.inl hk,c,hc,hc'⟩⟩
   ·rw [List.getElem?_set_ne (Ne.symm hj)] at e2
    obtain ⟨u',r',q⟩:=hl j y v' e1 e2 e3
    refine ⟨u',r',?_⟩
    rcases q with q | ⟨k,c',e,z'⟩
    ·exact .inl q
    ·refine .inr ⟨k,c',e,z'.sameBut hs ?_⟩
     rintro rfl
     exact hj (vv hN e1 (I.ok.inj _ _ _ e hc ▸ hi))
  ·by_cases hcc:c'=c
   ·subst hcc; exact ⟨_,hc'⟩
   ·obtain ⟨w2,z2⟩:=I.cell y c' e
    exact ⟨w2,z2.sameBut hs hcc⟩
  ·obtain ⟨e,n,ne,nf,d⟩:=I.pin p hp
   refine ⟨(hs.2 p.1 ?_).trans e,n,ne,nf,d⟩
   intro q
   rw [q,hoc] at e
   have q':oc=p.2:=Option.some.inj e
   exact d w' (by rw [<- q']; exact hocd)
theorem fL {M:Model} {A:Around} {E:Value -> Shared -> Prop} {i:Nat} {x:Str} {v:V} {u:Value} {Q:Unit -> Shared -> Prop} (I:Inv X pins σ H s) (hN:X.N.Nodup) (hi:X.N[i]? = some x) (hx:Loc X.env.scope x) (r:RelV v u)
  (h:∀ s',Inv X pins (σ.set i (some v)) H s' -> Q () s') (hf:X.fn x=true \/ X.env.scope.names.lookup x=some .local:=by first | exact .inl rfl | exact .inr rfl | assumption):wpAny M A (storeName X.env x u) Q E s:=
 qH I hN hi hx r (fun s' I' _=>h s' I') hf
theorem Inv.call' {s':Shared} {ch:List Addr} (I:Inv X pins σ H s) (ho:s'.os=s.os) (u:Un (nr X.stack) ch H H' s.heap s'.heap) (hok:mF X.prog X.w H' s'.heap) (hg:AllBare s'.gens)
  (hch:∀ b ∈ ch,(b ∈ X.ex \/ X.s₀.heap.objs.size ≤ b) /\ b ≠ X.env.locals /\ (∀ x c,X.env.cells.lookup x=some c -> c ≠ b) /\ ∀ p ∈ X.pn ++ pins,p.1 ≠ b):Inv X pins σ H' s':=by
 obtain ⟨h',g',d',t',o'⟩:=s'
 have e:o'=s.os:=ho
 subst e
 exact I.call (g':=g') (t':=t') (d':=d') u hok hg hch
end
abbrev XK:=Value -> Option Addr -> Hp -> Prop
abbrev St:=List (Option V)
abbrev VK:=V -> Hp -> Prop
abbrev TE:=St -> Hp -> VK -> Prop
abbrev TT:=St -> Hp -> (Bool -> Hp -> Prop) -> Prop
abbrev TA:=St -> Hp -> (List V -> Hp -> Prop) -> Prop
structure Ends where
 nx:St -> Hp -> Prop
 rt:VK
 bk:St -> Hp -> Prop:=fun _ _=>False
 ct:St -> Hp -> Prop:=fun _ _=>False
abbrev TS:=Ends -> St -> Hp -> Prop
def EP (X:Cx) (pins:List (Addr × Obj)) (σ:St) (Q:VK) (u:Value) (s':Shared):Prop:=∃ v H',Inv X pins σ H' s' /\ RelV v u /\ Q v H'
def TP (X:Cx) (pins:List (Addr × Obj)) (σ:St) (Q:Bool -> Hp -> Prop) (b:Bool) (s':Shared):Prop:=∃ H',Inv X pins σ H' s' /\ Q b H'
def AP (X:Cx) (pins:List (Addr × Obj)) (σ:St) (Q:List V -> Hp -> Prop) (us:List Value) (s':Shared):Prop:=∃ vs H',Inv X pins σ H' s' /\ Vals vs us /\ Q vs H'
def SP (X:Cx) (pins:List (Addr × Obj)) (D:Ends) (f:Flow) (s':Shared):Prop:=
 match f with
 | .next=>∃ σ' H',Inv X pins σ' H' s' /\ D.nx σ' H'
 | .brk=>∃ σ' H',Inv X pins σ' H' s' /\ D.bk σ' H'
 | .cont=>∃ σ' H',Inv X pins σ' H' s' /\ D.ct σ' H'
 | .ret u=>∃ v σ' H',Inv X pins σ' H' s' /\ RelV v u /\ D.rt v H'
def PE (X:Cx) (e:Expr) (t:TE):Prop:=
 ∀ (pins:List (Addr × Obj)) (s:Shared) (σ:St) (H:Hp) (Q:VK),Inv X pins σ H s -> t σ H Q -> wpAny (model X.prog X.w) X.A (eval e X.env) (EP X pins σ Q) X.xe s
def PT (X:Cx) (e:Expr) (t:TT):Prop:=
 ∀ (pins:List (Addr × Obj)) (s:Shared) (σ:St) (H:Hp) (Q:Bool -> Hp -> Prop),Inv X pins σ H s -> t σ H Q -> wpAny (model X.prog X.w) X.A (isTrue e X.env (eval e X.env)) (TP X pins σ Q) X.xe s
def PW (X:Cx) (e:Expr) (t:TT):Prop:=
 ∀ (whole:Sem Value) (pins:List (Addr × Obj)) (s:Shared) (σ:St) (H:Hp) (Q:Bool -> Hp -> Prop),Inv X pins σ H s -> t σ H Q -> wpAny (model X.prog X.w) X.A (isTrue e X.env whole) (TP X pins σ Q) X.xe s
theorem PW.pt {X:Cx} {e:Expr} {t:TT} (h:PW X e t):PT X e t:=h _
def PA (X:Cx) (es:List Expr) (t:TA):Prop:=
 ∀ (pos:Pos) (pins:List (Addr × Obj)) (s:Shared) (σ:St) (H:Hp) (Q:List V -> Hp -> Prop),Inv X pins σ H s -> t σ H Q -> wpAny (model X.prog X.w) X.A (spliced (backTo pos (starEach es X.env))) (AP X pins σ Q) X.xe s
def PS (X:Cx) (st:Stmt) (t:TS):Prop:=
 ∀ (pins:List (Addr × Obj)) (s:Shared) (σ:St) (H:Hp) (D:Ends),Inv X pins σ H s -> t D σ H -> wpAny (model X.prog X.w) X.A (exec st X.env) (SP X pins D) X.xe s
def iX (X:Cx) (st:List Stmt) (t:TS):Prop:=
 ∀ (pins:List (Addr × Obj)) (s:Shared) (σ:St) (H:Hp) (D:Ends),Inv X pins σ H s -> t D σ H -> wpAny (model X.prog X.w) X.A (execs st X.env) (SP X pins D) X.xe s
theorem cI {α:Type} {t:Sem α} {Q Q':α -> Shared -> Prop} {M:Model} {A:Around} {E:Value -> Shared -> Prop} {s:Shared} (h:wpAny M A t Q E s) (hQ:∀ a s,Q a s -> Q' a s):wpAny M A t Q' E s:=wpAny_mono h hQ fun _ _ x=>x
open PySem PySem.Spec PyProof.Rows
section
variable {X:Cx}
def qd (i:Nat):TE:=fun σ H Q=>∃ v,σ[i]? = some (some v) /\ Q v H
def tC (v:V):TE:=fun _ H Q=>Q v H
theorem He {i:Nat} {x:Str} {pos:Pos} (hN:X.N[i]? = some x) (hv:HM X.env.scope x) (hd:(x == ("__debug__" : Str))=false:=by decide) (hcd:(x == ("__classdict__" : Str))=false:=by decide):PE X (.Name x pos) (qd i):=by
 intro pins s σ H Q I h
 obtain ⟨v,e,h⟩:=h
 obtain ⟨m,hn,hl⟩:=I.loc
 obtain ⟨u,r,l⟩:=hl i x v hN e hv
 have fin:EP X pins σ Q u s:=⟨v,H,I,r,h⟩
 rcases l with ⟨hk,hm⟩ | ⟨hk,c,hc,hcell⟩
 ·exact wpAny_Name (wpAny_loadName_local I.ok.kind hk hn hm fin) hd
 ·rcases hk with hk | hk
  ·exact wpAny_Name (wpAny_loadName_cell I.ok.kind hk hc hcell fin) hd
  ·exact wpAny_Name (wpAny_loadName_free I.ok.kind hk hc hcell fin hcd) hd
theorem tB {i j pos}:PE X (.Constant (.int i) j pos) (tC (.int i)):=fun _ _ _ H _ I h=>wpAny_Constant_int ⟨.int i,H,I.tok _,⟨_,rfl⟩,h⟩
theorem JD {b j pos}:PE X (.Constant (.bool b) j pos) (tC (.bl b)):=fun _ _ _ H _ I h=>Constant_bool ⟨.bl b,H,I,rfl,h⟩
theorem G8 {j pos}:PE X (.Constant .none j pos) (tC .non):=fun _ _ _ H _ I h=>Constant_none ⟨.non,H,I,rfl,h⟩
theorem Hb {x j pos}:PE X (.Constant (.str x) j pos) (tC (.str x)):=fun _ _ _ H _ I h=>Calls.Constant_str ⟨.str x,H,I.tok _,⟨_,rfl⟩,h⟩
def Gl (X:Cx) (x:Str):Prop:=X.env.kindOf x=some .globalImplicit
theorem jE {E:Value -> Shared -> Prop} {pins:List (Addr × Obj)} {s:Shared} {σ:St} {H:Hp} {x:Str} {u:Value} {pos:Pos} {Q:Value -> Shared -> Prop} (I:Inv X pins σ H s) (hg:Gl X x) (hm:X.mg x=some u) (h:Q u s)
  (hd:(x == ("__debug__" : Str))=false:=by decide):wpAny (model X.prog X.w) X.A (eval (.Name x pos) X.env) Q E s:=
 Calls.Name_function_global I.ok.kind hg (Calls.loadGlobal_global (by rw [I.ok.glob]; exact I.mod.glob.keeps I.bk) hm h) hd
theorem jY {E:Value -> Shared -> Prop} {pins:List (Addr × Obj)} {s:Shared} {σ:St} {H:Hp} {x:Str} {u:Value} {pos:Pos} {Q:Value -> Shared -> Prop} (I:Inv X pins σ H s) (hg:Gl X x) (hm:X.mg x=none) (hv:bootBuiltins x=some u) (h:Q u s)
  (hn:x ≠ "__name__" := by decide) (hd:(x == ("__debug__" : Str))=false:=by decide):wpAny (model X.prog X.w) X.A (eval (.Name x pos) X.env) Q E s:=by
 obtain ⟨mb,h1,h2⟩:=I.mod.blt
 exact Calls.Name_function_global I.ok.kind hg (Calls.loadGlobal_builtin (by rw [I.ok.glob]; exact I.mod.glob.keeps I.bk) hm (by rw [I.ok.blt]; exact h1.keeps I.bk) ((h2 x hn).trans hv) h) hd
theorem tx {x:Str} {v:V} {u:Value} {pos:Pos} (hg:Gl X x) (hm:X.mg x=some u) (r:RelV v u) (hd:(x == ("__debug__" : Str))=false:=by decide):PE X (.Name x pos) (tC v):=
 fun _ _ _ H _ I h=>jE I hg hm ⟨v,H,I,r,h⟩ hd
theorem Ee {x:Str} {v:V} {u:Value} {pos:Pos} (hg:Gl X x) (hm:X.mg x=none) (hv:bootBuiltins x=some u) (r:RelV v u) (hn:x ≠ "__name__" := by decide) (hd:(x == ("__debug__" : Str))=false:=by decide):PE X (.Name x pos) (tC v):=
 fun _ _ _ H _ I h=>jY I hg hm hv ⟨v,H,I,r,h⟩ hn hd
variable {a b:Expr} {ta tb:TE} {pos:Pos}
variable {tA tB':TT} {rest:List Expr}
def Mi (t u:TT):TT:=fun σ H Q=>t σ H fun c H1=>if c=true then Q true H1 else u σ H1 Q
def Lm (t:TT):TT:=fun σ H Q=>t σ H fun c H1=>Q (!c) H1
theorem Hn (ha:PT X a tA):PW X (.BoolOp .Or [a] pos) tA:=by
 intro wh pins s σ H Q I h
 refine isTrue_or (cI (ha pins s σ H Q I h) fun c s1 e=>?_)
 cases c with
 | false=>exact isTrue_or_nil e
 | true=>exact e
theorem JG (ha:PT X a tA) (hb:PW X (.BoolOp .Or (b :: rest) pos) tB'):PW X (.BoolOp .Or (a :: b :: rest) pos) (Mi tA tB'):=by
 intro wh pins s σ H Q I h
 refine isTrue_or (cI (ha pins s σ H _ I h) fun c s1 ⟨H1,I1,q1⟩=>?_)
 cases c with
 | true=>exact ⟨H1,I1,q1⟩
 | false=>exact hb wh pins s1 σ H1 Q I1 q1
theorem Hm (ha:PT X a tA):PT X (.UnaryOp .Not a pos) (Lm tA):=by
 intro pins s σ H Q I h
 exact isTrue_not (ha pins s σ H (fun c H1=>Q (!c) H1) I h)
def JN (ta tb:TE):TE:=fun σ H Q=>ta σ H fun x H1=>∃ c,x=.bl c /\ if c=true then tb σ H1 Q else Q (.bl false) H1
def JV (ta:TE):TE:=fun σ H Q=>ta σ H fun x H1=>∃ c,x=.bl c /\ Q (.bl (!c)) H1
theorem Ha {op} {t:TE} (h:PE X a t):PE X (.BoolOp op [a] pos) t:=fun pins s σ H Q I hw=>BoolOp_one (h pins s σ H Q I hw)
theorem G5 (ha:PE X a ta) (hb:PE X (.BoolOp .And (b :: rest) pos) tb):PE X (.BoolOp .And (a :: b :: rest) pos) (JN ta tb):=by
 intro pins s σ H Q I h
 refine BoolOp_and (cI (ha pins s σ H _ I h) fun v s1 ⟨x,H1,I1,r1,q1⟩=>?_)
 obtain ⟨c,rfl,q1⟩:=q1
 cases r1
 refine wpAny_truthy_bool ?_
 cases c with
 | true=>exact hb pins s1 σ H1 Q I1 q1
 | false=>exact ⟨.bl false,H1,I1,rfl,q1⟩
theorem G9 (ha:PE X a ta):PE X (.UnaryOp .Not a pos) (JV ta):=by
 intro pins s σ H Q I h
 refine UnaryOp_ (cI (ha pins s σ H _ I h) fun v s1 ⟨x,H1,I1,r1,q1⟩=>?_)
 obtain ⟨c,rfl,q1⟩:=q1
 cases r1
 exact not_of (wpAny_truthy_bool ⟨.bl (!c),H1,I1,rfl,q1⟩)
end
open PySem PySem.Spec PyProof.Rows
def gE (K:PySem.W.Frag) (H:Hp) (a:Addr) (xs:List V):Prop:=
 Rd H a (.lst xs) \/
  ∃ (o:Obj) (its:Array Value) (n:Nat),K.lookup a=some o /\ o.cls=.type "list" /\ o.dict=none /\ o.data=.seq its n /\ its.size ≤ sizeLine /\ Vals xs its.toList
def jP (K:PySem.W.Frag) (H:Hp) (a:Addr) (xs:List V):Prop:=
 Rd H a (.tup xs) \/
  ∃ (o:Obj) (its:Array Value) (n:Nat),K.lookup a=some o /\ o.cls=.type "tuple" /\ o.data=.seq its n /\ its.size ≤ sizeLine /\ Vals xs its.toList
def Kz:Value -> Option V
 | .none=>some .non
 | .bool b=>some (.bl b)
 | .int i _=>some (.int i)
 | .str x _=>some (.str x)
 | .bytes b _=>some (.byt b)
 | .float b _=>some (.flt b)
 | .ref a=>some (.ref a)
 | .type n=>some (.ty n)
 | _=>none
theorem RelV.abs {x:V} {u:Value} (r:RelV x u):Kz u=some x:=by
 cases x with
 | non=>cases r; rfl
 | bl _=>cases r; rfl
 | int _=>obtain ⟨t,rfl⟩:=r; rfl
 | str _=>obtain ⟨t,rfl⟩:=r; rfl
 | byt _=>obtain ⟨t,rfl⟩:=r; rfl
 | flt _=>obtain ⟨t,rfl⟩:=r; rfl
 | ref _=>cases r; rfl
 | ty _=>cases r; rfl
theorem RelV.inj {x y:V} {u:Value} (r:RelV x u) (q:RelV y u):x=y:=Option.some.inj (r.abs.symm.trans q.abs)
theorem Vals.inj:∀ {xs ys:List V} {us:List Value},Vals xs us -> Vals ys us -> xs=ys
 | _,_,_,.nil,.nil=>rfl
 | _,_,_,.cons r t,.cons r' t'=>by rw [r.inj r',Vals.inj t t']
section
variable {X:Cx} {pins:List (Addr × Obj)} {σ:St} {H:Hp} {s:Shared} {a:Addr} {xs ys:List V}
theorem gE.of {K:PySem.W.Frag} (h:H a=some (.lst xs)):gE K H a xs:=.inl (.inl h)
theorem jP.of {K:PySem.W.Frag} (h:H a=some (.tup xs)):jP K H a xs:=.inl (.inl h)
theorem Inv.list (I:Inv X pins σ H s) (h:gE X.K H a xs):∃ its:List Value,Vals xs its /\ PlainL s.heap a its.toArray /\ xs.length ≤ sizeLine:=by
 rcases h with h | ⟨o,its,n,hk,hc,hd,hs,hz,r⟩
 ·obtain ⟨z,its,n,r,e⟩:=h.ok I.hok
  exact ⟨its,r,⟨_,n,e,rfl,rfl,rfl⟩,z⟩
 ·refine ⟨its.toList,r,⟨o,n,I.kIn a o hk,hc,hd,by simpa using hs⟩,?_⟩
  have e:=r.length
  simp only [Array.length_toList] at e
  omega
theorem Inv.tuple (I:Inv X pins σ H s) (h:jP X.K H a xs):∃ its:List Value,Vals xs its /\ IsTup s.heap a its.toArray /\ xs.length ≤ sizeLine:=by
 rcases h with h | ⟨o,its,n,hk,hc,hs,hz,r⟩
 ·obtain ⟨z,its,r,p⟩:=h.ok I.hok
  exact ⟨its,r,p,z⟩
 ·refine ⟨its.toList,r,⟨o,I.kIn a o hk,hc,n,by simpa using hs⟩,?_⟩
  have e:=r.length
  simp only [Array.length_toList] at e
  omega
theorem Inv.list_inj (I:Inv X pins σ H s) (h:gE X.K H a xs) (h':gE X.K H a ys):xs=ys:=by
 obtain ⟨its,r,⟨o,n,e,_,_,d⟩,_⟩:=I.list h
 obtain ⟨its',r',⟨o',n',e',_,_,d'⟩,_⟩:=I.list h'
 rw [e] at e'; cases e'
 rw [d] at d'
 injection d' with d1 _
 have:its=its':=by simpa using congrArg Array.toList d1
 subst this
 exact r.inj r'
theorem Inv.tuple_inj (I:Inv X pins σ H s) (h:jP X.K H a xs) (h':jP X.K H a ys):xs=ys:=by
 obtain ⟨its,r,⟨o,e,_,n,d⟩,_⟩:=I.tuple h
 obtain ⟨its',r',⟨o',e',_,n',d'⟩,_⟩:=I.tuple h'
 rw [e] at e'; cases e'
 rw [d] at d'
 injection d' with d1 _
 have:its=its':=by simpa using congrArg Array.toList d1
 subst this
 exact r.inj r'
end
abbrev Cx.wish (X:Cx) (E:Value -> Shared -> Prop):Cx:={ X with xe:=E }
abbrev Cx.nox (X:Cx):Cx:=X.wish fun _ _=>False
theorem Cx.Ok.wish {X:Cx} (ok:X.Ok) (E:Value -> Shared -> Prop):(X.wish E).Ok:=
 ⟨ok.mod,ok.kind,ok.glob,ok.blt,ok.above,ok.inj,ok.has,ok.cab,ok.hd,ok.frames,ok.stk,ok.exf,ok.bs,ok.bsz,ok.noex,ok.exfs,ok.funs,ok.frf⟩
theorem Cx.Ok.unwish {X:Cx} {E:Value -> Shared -> Prop} (ok:(X.wish E).Ok):X.Ok:=
 ⟨ok.mod,ok.kind,ok.glob,ok.blt,ok.above,ok.inj,ok.has,ok.cab,ok.hd,ok.frames,ok.stk,ok.exf,ok.bs,ok.bsz,ok.noex,ok.exfs,ok.funs,ok.frf⟩
section
variable {X:Cx} {pins:List (Addr × Obj)} {σ:St} {H:Hp} {s:Shared} {E:Value -> Shared -> Prop}
theorem Inv.wish (I:Inv X pins σ H s) (E:Value -> Shared -> Prop):Inv (X.wish E) pins σ H s:=⟨I.ok.wish E,I.os,I.bare,I.base,I.loc,I.cell,I.free,I.freeC,I.pin,I.hok,I.len⟩
theorem Inv.unwish (I:Inv (X.wish E) pins σ H s):Inv X pins σ H s:=⟨I.ok.unwish,I.os,I.bare,I.base,I.loc,I.cell,I.free,I.freeC,I.pin,I.hok,I.len⟩
theorem SP.unwish {D:Ends} {f:Flow} {s':Shared} (h:SP (X.wish E) pins D f s'):SP X pins D f s':=by
 cases f with
 | next=>obtain ⟨σ',H',I,q⟩:=h; exact ⟨σ',H',I.unwish,q⟩
 | brk=>obtain ⟨σ',H',I,q⟩:=h; exact ⟨σ',H',I.unwish,q⟩
 | cont=>obtain ⟨σ',H',I,q⟩:=h; exact ⟨σ',H',I.unwish,q⟩
 | ret u=>obtain ⟨v,σ',H',I,r,q⟩:=h; exact ⟨v,σ',H',I.unwish,r,q⟩
theorem PE.nox {e:Expr} {t:TE} (h:PE X.nox e t):PE X e t:=fun pins s σ H Q I hw =>
 wpAny_mono (h pins s σ H Q (I.wish _) hw) (fun _ _ ⟨v,H',I',r,q⟩=>⟨v,H',I'.unwish,r,q⟩) fun _ _ z=>False.elim z
theorem PT.nox {e:Expr} {t:TT} (h:PT X.nox e t):PT X e t:=fun pins s σ H Q I hw =>
 wpAny_mono (h pins s σ H Q (I.wish _) hw) (fun _ _ ⟨H',I',q⟩=>⟨H',I'.unwish,q⟩) fun _ _ z=>False.elim z
theorem iX.nox {st:List Stmt} {t:TS} (h:iX X.nox st t):iX X st t:=fun pins s σ H D I hw =>
 wpAny_mono (h pins s σ H D (I.wish _) hw) (fun _ _ q=>q.unwish) fun _ _ z=>False.elim z
end
section
variable {X:Cx} {st:Stmt} {rest:List Stmt} {t u:TS} {e:Expr} {te:TE} {pos:Pos}
def JT:TS:=fun D σ H=>D.nx σ H
def Lp (t u:TS):TS:=fun D σ H=>t { D with nx:=u D } σ H
theorem nG:iX X [] JT:=fun _ _ σ H _ I h=>wpAny_execs_nil ⟨σ,H,I,h⟩
theorem eK (h1:PS X st t) (h2:iX X rest u):iX X (st :: rest) (Lp t u):=by
 intro pins s σ H D I h
 refine wpAny_execs_cons (cI (h1 pins s σ H { D with nx:=u D } I h) fun f s1 q=>?_)
 cases f with
 | next =>
  obtain ⟨σ',H',I',q⟩:=q
  exact h2 pins s1 σ' H' D I' q
 | ret v=>exact q
 | brk=>exact q
 | cont=>exact q
theorem nI (h1:PS X st t):iX X [st] t:=by
 intro pins s σ H D I h
 refine wpAny_execs_cons (cI (h1 pins s σ H D I h) fun f s1 q=>?_)
 cases f with
 | next=>exact wpAny_execs_nil q
 | ret v=>exact q
 | brk=>exact q
 | cont=>exact q
theorem Inv.quiet {pins:List (Addr × Obj)} {σ:St} {H:Hp} {s:Shared} (I:Inv X pins σ H s):interactive X.env=false:=by simp [interactive,I.ok.kind]
def JR (te:TE):TS:=fun D σ H=>te σ H fun _ H1=>D.nx σ H1
theorem nE (he:PE X e te) (hs:swapsWith e none pos.line X.env=pure false:=by rfl):PS X (.Expr e pos) (JR te):=by
 intro pins s σ H D I h
 exact wpAny_Expr_any (cI (he pins s σ H _ I h) fun v s1 ⟨x,H1,I1,r1,q1⟩=>⟨σ,H1,I1,q1⟩) I.quiet hs
def Lo (te:TE):TS:=fun D σ H=>te σ H D.rt
theorem xJ (he:PE X e te):PS X (.Return (some e) pos) (Lo te):=by
 intro pins s σ H D I h
 exact wpAny_Return_some (cI (he pins s σ H _ I h) fun v s1 ⟨x,H1,I1,r1,q1⟩=>⟨x,σ,H1,I1,r1,q1⟩)
def Lj (c:TT) (t u:TS):TS:=fun D σ H=>c σ H fun b H1=>if b=true then t D σ H1 else u D σ H1
theorem Fv {c:Expr} {a b:List Stmt} {tc:TT} (hc:PT X c tc) (ha:iX X a t) (hb:iX X b u):PS X (.If c a b pos) (Lj tc t u):=by
 intro pins s σ H D I h
 refine wpAny_If (cI (hc pins s σ H _ I h) fun d s1 ⟨H1,I1,q1⟩=>?_)
 cases d with
 | true=>exact ha pins s1 σ H1 D I1 q1
 | false=>exact hb pins s1 σ H1 D I1 q1
def CP:TS:=fun _ _ _=>False
theorem Cn:PS X st CP:=fun _ _ _ _ _ _ h=>h.elim
theorem Ao {sts:List Stmt}:iX X sts CP:=fun _ _ _ _ _ _ h=>h.elim
end
abbrev TG:=V -> St -> Hp -> (St -> Hp -> Prop) -> Prop
abbrev Fb:=List V -> St -> Hp -> (St -> Hp -> Prop) -> Prop
def PG (X:Cx) (target:Expr) (t:TG):Prop:=
 ∀ (pins:List (Addr × Obj)) (s:Shared) (σ:St) (H:Hp) (v:V) (u:Value) (Q:St -> Hp -> Prop),Inv X pins σ H s -> RelV v u -> t v σ H Q ->
  wpAny (model X.prog X.w) X.A (assign target X.env u) (fun _ s'=>∃ σ' H',Inv X pins σ' H' s' /\ Q σ' H') X.xe s
def Ik (X:Cx) (ts:List Expr) (t:Fb):Prop:=
 ∀ (pins:List (Addr × Obj)) (s:Shared) (σ:St) (H:Hp) (vs:List V) (us:List Value) (Q:St -> Hp -> Prop),Inv X pins σ H s -> Vals vs us -> t vs σ H Q ->
  wpAny (model X.prog X.w) X.A (assignInOrder ((assignEach ts X.env).map (·.2)) us) (fun _ s'=>∃ σ' H',Inv X pins σ' H' s' /\ Q σ' H') X.xe s
abbrev FQ:=V -> V -> V -> Hp -> (Hp -> Prop) -> Prop
def Il (X:Cx) (t:FQ):Prop:=
 ∀ (pins:List (Addr × Obj)) (s:Shared) (σ:St) (H:Hp) (o i v:V) (ov iv u:Value) (Q:Hp -> Prop),Inv X pins σ H s -> RelV o ov -> RelV i iv -> RelV v u -> t o i v H Q ->
  wpAny (model X.prog X.w) X.A (setItem ov iv u) (fun _ s'=>∃ H',Inv X pins σ H' s' /\ Q H') X.xe s
section
variable {X:Cx} {pos:Pos}
def Fl (i:Nat):TG:=fun v σ H Q=>Q (σ.set i (some v)) H
theorem Eh {i:Nat} {x:Str} (hN:X.N.Nodup) (hi:X.N[i]? = some x) (hx:Loc X.env.scope x) (hf:X.fn x=true \/ X.env.scope.names.lookup x=some .local:=by first | exact .inl rfl | exact .inr rfl | assumption):PG X (.Name x pos) (Fl i):=by
 intro pins s σ H v u Q I r h
 exact wpAny_assign_Name (fL I hN hi hx r (fun s' I'=>⟨_,H,I',h⟩) hf)
def KL:Fb:=fun vs σ H Q=>vs=[] /\ Q σ H
def IV (t:TG) (u:Fb):Fb:=fun vs σ H Q=>∃ v r,vs=v :: r /\ t v σ H fun σ' H'=>u r σ' H' Q
theorem Ei:Ik X [] KL:=by
 intro pins s σ H vs us Q I r h
 obtain ⟨e,h⟩:=h
 subst e
 cases r
 exact assignInOrder_nil ⟨σ,H,I,h⟩
theorem Cg {e:Expr} {es:List Expr} {t:TG} {u:Fb} (h1:PG X e t) (h2:Ik X es u)
  (hs:(assignEach (e :: es) X.env).map (·.2)=assign e X.env :: (assignEach es X.env).map (·.2):=by rfl):Ik X (e :: es) (IV t u):=by
 intro pins s σ H vs us Q I r h
 obtain ⟨v,vr,e1,h⟩:=h
 subst e1
 cases r with
 | cons r rr =>
  rw [hs]
  refine assignInOrder_cons (cI (h1 pins s σ H _ _ _ I r h) fun _ s1 ⟨σ1,H1,I1,q1⟩=>?_)
  exact h2 pins s1 σ1 H1 _ _ Q I1 rr q1
def KO (K:PySem.W.Frag) (n:Nat) (t:Fb):TG:=fun v σ H Q=>∃ a xs,v=.ref a /\ jP K H a xs /\ xs.length=n /\ t xs σ H Q
theorem Hg {es:List Expr} {k:Nat} {t:Fb} {n:Nat} (hc:X.calm=true) (h:Ik X es t)
  (hn:(assignEach es X.env).length=n:=by rfl) (hst:(assignEach es X.env).findIdx? (·.1)=none:=by rfl):PG X (.Tuple es k pos) (KO X.K n t):=by
 intro pins s σ H v u Q I r hw
 obtain ⟨a,xs,e1,hq,hl,hw⟩:=hw
 subst e1
 cases r
 obtain ⟨its,rv,ht,hz⟩:=I.tuple hq
 refine assign_Tuple_tuple (I.ok.hd hc) ht (by simp [hn,<- hl,rv.length]) hst fun h' hx=>?_
 have I1:Inv X pins σ H { s with heap:=h' }:=I.kept (t':=s.toks) fun b o e=>hx b o (Nat.ne_of_lt (Heap.lt_size e)) e
 exact h pins _ σ H xs _ Q I1 (by simpa using rv) hw
def rJ (to ti:TE) (t:FQ):TG:=fun v σ H Q=>to σ H fun o H1=>ti σ H1 fun i H2=>t o i v H2 fun H3=>Q σ H3
theorem Hf {o i:Expr} {to ti:TE} {t:FQ} (ho:PE X o to) (hi:PE X i ti) (hs:Il X t)
  (ha:∀ v,assign (.Subscript o i pos) X.env v=(do
   let ov <- holding [v] (eval o X.env)
   let iv <- holding [v,ov] (eval i X.env)
   standAt pos
   holding [v,ov,iv] (setItem ov iv v)
   release [v,ov,iv] []):=by intro _; rfl):PG X (.Subscript o i pos) (rJ to ti t):=by
 intro pins s σ H v u Q I r h
 rw [ha]
 refine wpAny_bind (wpAny_holding (cI (ho pins s σ H _ I h) fun ov s1 ⟨x,H1,I1,r1,q1⟩=>?_))
 refine wpAny_bind (wpAny_holding (cI (hi pins s1 σ H1 _ I1 q1) fun iv s2 ⟨y,H2,I2,r2,q2⟩=>?_))
 refine wpAny_bind (wpAny_standAt (wpAny_bind (wpAny_holding (cI (hs pins s2 σ H2 x y v ov iv u _ I2 r1 r2 r q2) fun _ s3 ⟨H3,I3,q3⟩=>?_))))
 exact wpAny_release ⟨σ,H3,I3,q3⟩
def JO (te:TE) (g:TG):TS:=fun D σ H=>te σ H fun x H1=>g x σ H1 D.nx
theorem Ck {tg e:Expr} {te:TE} {g:TG} (he:PE X e te) (hg:PG X tg g) (hs:swapsWithSole [tg] e pos.line X.env=pure false:=by rfl) (hw:swappedStores [tg] e X.env=pure none:=by rfl)
  (h1:(assignEach [tg] X.env).map (·.2)=[assign tg X.env]:=by rfl):PS X (.Assign [tg] e pos) (JO te g):=by
 intro pins s σ H D I h
 refine wpAny_Assign_stores (cI (he pins s σ H _ I h) fun v s1 ⟨x,H1,I1,r1,q1⟩=>?_) hs hw
 rw [h1]
 exact cI (hg pins s1 σ H1 x v _ I1 r1 q1) fun _ s2 q=>q
theorem tF {i:Nat} {x:Str} {e:Expr} {te:TE} {pos':Pos} (hN:X.N.Nodup) (hi:X.N[i]? = some x) (hx:Loc X.env.scope x) (he:PE X e te) (hs:swapsWith e (some (.Name x pos')) pos.line X.env=pure false:=by rfl) (hf:X.fn x=true \/ X.env.scope.names.lookup x=some .local:=by first | exact .inl rfl | exact .inr rfl | assumption) :
  PS X (.Assign [.Name x pos'] e pos) (JO te (Fl i)):=by
 intro pins s σ H D I h
 refine wpAny_Assign_Name (cI (he pins s σ H _ I h) fun v s1 ⟨y,H1,I1,r1,q1⟩=>?_) hs
 exact fL I1 hN hi hx r1 (fun s2 I2=>⟨_,H1,I2,q1⟩) hf
def Ln (i j:Nat) (ta:TA):TS:=fun D σ H=>ta σ H fun vs H1=>∃ v w,vs=[v,w] /\ D.nx ((σ.set i (some v)).set j (some w)) H1
theorem Hl {i j:Nat} {x y:Str} {a b:Expr} {ta:TA} {px py pt:Pos} {kt k2 pt2} (hc:X.calm=true) (hN:X.N.Nodup) (hi:X.N[i]? = some x) (hj:X.N[j]? = some y) (hij:i ≠ j)
  (hx:X.env.scope.names.lookup x=some .local) (hy:X.env.scope.names.lookup y=some .local) (ha:PA X [a,b] ta)
  (hw:swappedStores [.Tuple [.Name x px,.Name y py] kt pt] (.Tuple [a,b] k2 pt2) X.env=pure (some [x,y]))
  (hs:swapsWithSole [.Tuple [.Name x px,.Name y py] kt pt] (.Tuple [a,b] k2 pt2) pos.line X.env=pure false:=by rfl) :
  PS X (.Assign [.Tuple [.Name x px,.Name y py] kt pt] (.Tuple [a,b] k2 pt2) pos) (Ln i j ta):=by
 intro pins s σ H D I h
 rw [exec_Assign_arm]
 refine wpAny_bind (wpAny_standAt ?_)
 rw [hs]
 refine wpAny_bind (wpAny_pure ?_)
 rw [if_neg (by decide)]
 refine wpAny_bind (Tuple_ (cI (ha _ pins s σ H _ I h) fun us s1 ⟨vs,H1,I1,r1,q1⟩=>?_))
 obtain ⟨v,w,e1,q1⟩:=q1
 subst e1
 obtain ⟨u1,u2,rfl,rv,rw'⟩:∃ u1 u2,us=[u1,u2] /\ RelV v u1 /\ RelV w u2:=by
  cases r1 with
  | cons p q =>
   cases q with
   | cons p' q' =>
    cases q'
    exact ⟨_,_,rfl,p,p'⟩
 refine wpAny_newObj_type ?_ (by show 2 ≤ sizeLine; decide)
 have I2:Inv X pins σ H1 { s1 with heap:=s1.heap.push { cls:=.type "tuple", data:=.seq [u1,u2].toArray } }:=I1.kept (t':=s1.toks) fun b o e=>Heap.get?_push_of_some _ e
 rw [hw]
 refine wpAny_bind (wpAny_pure ?_)
 show wpAny (model X.prog X.w) X.A (do rule "assign.swapped-stores"; let items <- unpackItems (.ref s1.heap.objs.size) 2 none; assignInOrder [fun v=>bindName X.env y v,fun v=>bindName X.env x v] items.reverse; pure Flow.next) _ _ _
 refine wpAny_bind (wpAny_rule (wpAny_bind (unpackItems_tuple (items:=#[u1,u2]) (I.ok.hd hc) (IsTup.new s1.heap _) fun h' hx'=>?_)))
 have I3:=I2.kept (h':=h') (t':=s1.toks) fun b o e=>hx' b o (Nat.ne_of_lt (Heap.lt_size e)) e
 show wpAny _ _ (assignInOrder [fun v=>bindName X.env y v,fun v=>bindName X.env x v] [u2,u1] >>= fun _=>pure Flow.next) _ _ _
 refine wpAny_bind (assignInOrder_cons (wpAny_bindName (fL I3 hN hj (.inl hy) rw' (fun s2 I4=>?_) (.inr hy))))
 refine assignInOrder_cons (wpAny_bindName (fL I4 hN hi (.inl hx) rv (fun s3 I5=>assignInOrder_nil (wpAny_pure ?_)) (.inr hx)))
 rw [List.set_comm _ _ (Ne.symm hij)] at I5
 exact ⟨_,H1,I5,q1⟩
end
section
variable {X:Cx} {pos:Pos}
def HB (c:TT) (tb:TS):TS:=fun D σ H=>∃ W:Nat -> St -> Hp -> Prop,(∃ m,W m σ H) /\ ∀ m σ H,W m σ H ->
 c σ H fun b H1=>if b=true then ∃ N:St -> Hp -> Prop,(∀ σ' H',N σ' H' -> ∃ m',m' < m /\ W m' σ' H') /\ tb { D with nx:=N,ct:=N,bk:=D.nx } σ H1 else D.nx σ H1
theorem Co {c:Expr} {body:List Stmt} {tc:TT} {tb:TS} (hp:PassesOwn (model X.prog X.w) X.A X.env X.xe) (hc:PT X c tc) (hb:iX X body tb):PS X (.While c body [] pos) (HB tc tb):=by
 intro pins s σ H D I h
 obtain ⟨W,⟨m0,w0⟩,turn⟩:=h
 refine wpAny_While (codeAny_whileLoop (fun n s'=>∃ σ' H',Inv X pins σ' H' s' /\ W n σ' H') ?_ m0 ⟨σ,H,I,w0⟩)
 rintro n s1 ⟨σ1,H1,I1,w1⟩
 refine wpAny_passesOwn hp (cI (hc pins s1 σ1 H1 _ I1 (turn n σ1 H1 w1)) fun b s2 ⟨H2,I2,q2⟩=>?_)
 cases b with
 | true =>
  obtain ⟨N,hN,q2⟩:=q2
  rw [if_pos rfl]
  refine wpAny_passesOwn hp (cI (hb pins s2 σ1 H2 _ I2 q2) fun f s3 q3=>?_)
  cases f with
  | next =>
   obtain ⟨σ3,H3,I3,n3⟩:=q3
   obtain ⟨m',hm,w3⟩:=hN σ3 H3 n3
   exact ⟨m',hm,σ3,H3,I3,w3⟩
  | cont =>
   obtain ⟨σ3,H3,I3,n3⟩:=q3
   obtain ⟨m',hm,w3⟩:=hN σ3 H3 n3
   exact ⟨m',hm,σ3,H3,I3,w3⟩
  | brk=>exact q3
  | ret v=>exact q3
 | false =>
  rw [if_neg Bool.false_ne_true]
  exact wpAny_execs_nil ⟨σ1,H2,I2,q2⟩
end
structure It where
 go:Nat -> Hp -> Prop
 yld:Nat -> Hp -> V -> Hp -> Prop
 stop:Nat -> Hp -> Prop
def pJ (X:Cx) (pins:List (Addr × Obj)) (H:Hp) (b:Addr):Prop:=
 H b=none /\ b ≠ X.env.locals /\ b ∉ X.fs /\ (b ∈ X.ex \/ X.s₀.heap.objs.size ≤ b) /\ (∀ x c,X.env.cells.lookup x=some c -> c ≠ b) /\ ∀ p ∈ X.pn ++ pins,p.1 ≠ b
theorem Inv.fpOk {X:Cx} {pins:List (Addr × Obj)} {σ:St} {H H':Hp} {s:Shared} {b:Addr} (I:Inv X pins σ H s) (hb:s.heap.objs.size ≤ b) (hn:H' b=none):pJ X pins H' b:=by
 refine ⟨hn,Nat.ne_of_gt (Nat.lt_of_lt_of_le I.lt hb),I.nofs hb,.inr (Nat.le_trans I.sz hb),fun x c e z=>?_,fun p hp z=>?_⟩
 ·obtain ⟨v,q⟩:=I.cell x c e
  exact absurd (Nat.lt_of_lt_of_le q.lt (by rw [z]; exact hb)) (Nat.lt_irrefl _)
 ·exact absurd (Nat.lt_of_lt_of_le (Heap.lt_size (I.pin p hp).1) (by rw [z]; exact hb)) (Nat.lt_irrefl _)
structure Turn (P:Program) (w:World) (K:PySem.W.Frag) (tg:Expr) (J:It) (fp:List Addr) (it:Addr) (tn:Nat -> Heap -> Prop):Prop where
 mem:it ∈ fp
 obj:∀ i h,tn i h -> ∀ b ∈ fp,∃ o,h.get? b=some o /\ ∀ v,o.data ≠ .cell v
 keep:∀ i h h',tn i h -> (∀ b ∈ fp,∀ o,h.get? b=some o -> h'.get? b=some o) -> tn i h'
 item:∀ (X:Cx),X.prog=P -> X.w=w -> X.K=K -> X.calm=true -> ∀ (i:Nat) (pins:List (Addr × Obj)) (s:Shared) (σ:St) (H:Hp) (E:Value -> Shared -> Prop),Inv X pins σ H s -> (∀ b ∈ fp,pJ X pins H b) -> tn i s.heap -> J.go i H ->
  wpAny (model P w) X.A (pyNext (.ref it)) (fun r s1=>∃ u,r=some u /\
   wpAny (model P w) X.A (letOwnedTupleGo tg (.ref it) u) (fun _ s2=>∃ x H',Inv X pins σ H' s2 /\ RelV x u /\ J.yld i H x H' /\ tn (i + 1) s2.heap /\ ∀ b ∈ fp,H' b=none) E s1) E s
 done:∀ (X:Cx),X.prog=P -> X.w=w -> X.K=K -> X.calm=true -> ∀ (i:Nat) (pins:List (Addr × Obj)) (s:Shared) (σ:St) (H:Hp) (E:Value -> Shared -> Prop),Inv X pins σ H s -> (∀ b ∈ fp,pJ X pins H b) -> tn i s.heap -> J.stop i H ->
  wpAny (model P w) X.A (pyNext (.ref it)) (fun r s1=>r=none /\ Inv X pins σ H s1) E s
 self:∀ (A:Around) (i:Nat) (s:Shared) (Q:Value -> Shared -> Prop) (E:Value -> Shared -> Prop),tn i s.heap -> Q (.ref it) s -> wpAny (model P w) A (pyIter (.ref it)) Q E s
abbrev TI:=St -> Hp -> (It -> Hp -> Prop) -> Prop
def Lz (X:Cx) (pins:List (Addr × Obj)) (σ:St) (tg:Expr) (R:It -> Hp -> Prop) (itv:Value) (s2:Shared):Prop:=
 ∃ (it:Addr) (fp:List Addr) (tn:Nat -> Heap -> Prop) (J:It) (H':Hp),itv=.ref it /\ Inv X pins σ H' s2 /\ Turn X.prog X.w X.K tg J fp it tn /\ tn 0 s2.heap /\ (∀ b ∈ fp,pJ X pins H' b) /\ R J H'
def PI (X:Cx) (tg iter:Expr) (wi:TI):Prop:=
 ∀ (pins:List (Addr × Obj)) (s:Shared) (σ:St) (H:Hp) (R:It -> Hp -> Prop),Inv X pins σ H s -> wi σ H R ->
  wpAny (model X.prog X.w) X.A (eval iter X.env) (fun v s1=>wpAny (model X.prog X.w) X.A (pyIter v) (Lz X pins σ tg R) X.xe s1) X.xe s
theorem BA {M:Model} {A:Around} {E:Value -> Shared -> Prop} {s:Shared} {tg:Expr} {it:Addr} {u:Value} {o:Obj} {n:String} {vs:Array Value} {Q:Unit -> Shared -> Prop} (ho:s.heap.get? it=some o) (hc:o.cls=.type n) (hd:o.data=.fields vs)
    (hn:["enumerate", "zip", "dict_itemiterator", "dict_reverseitemiterator", "odict_iterator", "itertools.zip_longest", "itertools.pairwise"].contains n=false) (hQ:Q () s):wpAny M A (letOwnedTupleGo tg (.ref it) u) Q E s:=by
  unfold letOwnedTupleGo
  cases tg <;> first
    | exact wpAny_pure hQ
    | (cases u <;> first
        | exact wpAny_pure hQ
        | (refine wpAny_bind (wpAny_load ho ?_)
           rw [hc,hd]
           show wpAny M A (if (["enumerate", "zip", "dict_itemiterator", "dict_reverseitemiterator", "odict_iterator", "itertools.zip_longest", "itertools.pairwise"].contains n && vs[0]? == some (rawInt _))=true then _ else _) Q E s
           rw [if_neg (by intro h; rw [hn,Bool.false_and] at h; cases h)]
           exact wpAny_pure hQ))
def Ks (K:PySem.W.Frag) (a:Addr):It:=
 ⟨fun i H=>∃ xs x,gE K H a xs /\ xs[i]? = some x,fun i H x H'=>H'=H /\ ∀ xs,gE K H a xs -> xs[i]? = some x,fun i H=>∃ xs,gE K H a xs /\ xs.length ≤ i⟩
def Kt (K:PySem.W.Frag) (a:Addr):It:=
 ⟨fun i H=>∃ xs x,jP K H a xs /\ xs[i]? = some x,fun i H x H'=>H'=H /\ ∀ xs,jP K H a xs -> xs[i]? = some x,fun i H=>∃ xs,jP K H a xs /\ xs.length ≤ i⟩
def Ij (lo:Int) (n:Nat):It:=⟨fun i _=>i < n,fun i H x H'=>H'=H /\ x=.int (lo + i),fun i _=>n ≤ i⟩
theorem AB {P:Program} {w:World} {K:PySem.W.Frag} {tg:Expr} (a it:Addr):Turn P w K tg (Ks K a) [it] it (fun i h=>h.IsListIter it a i) where
 mem:=by simp
 obj:=fun i h st b hb=>by
  have e:b=it:=by simpa using hb
  subst e
  obtain ⟨o,e,c,d⟩:=st
  exact ⟨o,e,fun v z=>by rw [d] at z; cases z⟩
 keep:=fun i h h' st k=>st.at fun o e=>k it (by simp) o e
 item:=by
  intro X hP hw hK hc i pins s σ H E I hf st hg
  subst hP hw hK
  obtain ⟨xs,x,hq,hx⟩:=hg
  obtain ⟨its,rv,p,hz⟩:=I.list hq
  obtain ⟨u,hu,ru⟩:=rv.get hx
  obtain ⟨f0,f1,f2,f3,f4,f5⟩:=hf it (by simp)
  refine wpAny_pyNext_list_item st p.isList (x:=u) (by simpa using hu) fun h' st' sb=>?_
  have I1:Inv X pins σ H { s with heap:=h' }:=I.turned (t':=s.toks) (fun b o hb e=>(sb.2 b hb).trans e) f0 f1 f3 f4 f5
  obtain ⟨o,e,c,d⟩:=id st'
  exact ⟨u,rfl,BA (s:={ s with heap:=h' }) e c d (by decide) ⟨x,H,I1,ru,⟨rfl,fun ys hy=>by rw [I.list_inj hy hq]; exact hx⟩,st',fun b hb=>(hf b hb).1⟩⟩
 done:=by
  intro X hP hw hK hc i pins s σ H E I hf st hg
  subst hP hw hK
  obtain ⟨xs,hq,hx⟩:=hg
  obtain ⟨its,rv,p,hz⟩:=I.list hq
  obtain ⟨f0,f1,f2,f3,f4,f5⟩:=hf it (by simp)
  have hl:=rv.length
  exact wpAny_pyNext_list_end (I.ok.hd hc) st p.isList (by simp; omega) fun h' eb=>⟨rfl,I.turned (t':=s.toks) (fun b o hb e=>eb b o hb e) f0 f1 f3 f4 f5⟩
 self:=fun _ _ _ _ _ st h=>wpAny_pyIter_listiter st h
theorem xU {P:Program} {w:World} {K:PySem.W.Frag} {tg:Expr} (a it:Addr):Turn P w K tg (Kt K a) [it] it (fun i h=>h.IsTupleIter it a i) where
 mem:=by simp
 obj:=fun i h st b hb=>by
  have e:b=it:=by simpa using hb
  subst e
  obtain ⟨o,e,c,d⟩:=st
  exact ⟨o,e,fun v z=>by rw [d] at z; cases z⟩
 keep:=fun i h h' st k=>st.at fun o e=>k it (by simp) o e
 item:=by
  intro X hP hw hK hc i pins s σ H E I hf st hg
  subst hP hw hK
  obtain ⟨xs,x,hq,hx⟩:=hg
  obtain ⟨its,rv,p,hz⟩:=I.tuple hq
  obtain ⟨u,hu,ru⟩:=rv.get hx
  obtain ⟨f0,f1,f2,f3,f4,f5⟩:=hf it (by simp)
  refine wpAny_pyNext_tuple_item st (show s.heap.IsTuple a its.toArray from p) (x:=u) (by simpa using hu) fun h' st' sb=>?_
  have I1:Inv X pins σ H { s with heap:=h' }:=I.turned (t':=s.toks) (fun b o hb e=>(sb.2 b hb).trans e) f0 f1 f3 f4 f5
  obtain ⟨o,e,c,d⟩:=id st'
  exact ⟨u,rfl,BA (s:={ s with heap:=h' }) e c d (by decide) ⟨x,H,I1,ru,⟨rfl,fun ys hy=>by rw [I.tuple_inj hy hq]; exact hx⟩,st',fun b hb=>(hf b hb).1⟩⟩
 done:=by
  intro X hP hw hK hc i pins s σ H E I hf st hg
  subst hP hw hK
  obtain ⟨xs,hq,hx⟩:=hg
  obtain ⟨its,rv,p,hz⟩:=I.tuple hq
  obtain ⟨f0,f1,f2,f3,f4,f5⟩:=hf it (by simp)
  have hl:=rv.length
  exact wpAny_pyNext_tuple_end (I.ok.hd hc) st (show s.heap.IsTuple a its.toArray from p) (by simp; omega) fun h' eb=>⟨rfl,I.turned (t':=s.toks) (fun b o hb e=>eb b o hb e) f0 f1 f3 f4 f5⟩
 self:=fun _ _ _ _ _ st h=>wpAny_pyIter_tupleiter st h
theorem xT {P:Program} {w:World} {K:PySem.W.Frag} {tg:Expr} (it:Addr) (lo:Int) (n:Nat):Turn P w K tg (Ij lo n) [it] it (fun i h=>IsRangeIter h it (lo + (i:Nat) * 1) ((n:Int) - (i:Nat)) 1) where
 mem:=by simp
 obj:=fun i h st b hb=>by
  have e:b=it:=by simpa using hb
  subst e
  exact ⟨_,st,fun v z=>by
   have z':Data.fields _=Data.cell v:=z
   cases z'⟩
 keep:=fun i h h' st k=>k it (by simp) _ st
 item:=by
  intro X hP hw hK hc i pins s σ H E I hf st hg
  subst hP hw hK
  obtain ⟨f0,f1,f2,f3,f4,f5⟩:=hf it (by simp)
  have W:=Walks.range (prog:=X.prog) (w:=X.w) (I.ok.hd hc) it lo 1 n
  refine W.item i s _ _ hg st fun v h' tk hv st' kk=>?_
  obtain ⟨t,rfl⟩:=hv
  have I1:Inv X pins σ H { s with heap:=h',toks:=tk }:=I.turned (fun b o hb e=>kk b o (by simpa using hb) e) f0 f1 f3 f4 f5
  refine ⟨_,rfl,BA (s:={ s with heap:=h',toks:=tk }) (n := "range_iterator") st' rfl rfl (by decide) ⟨.int (lo + i),H,I1,⟨t,?_⟩,⟨rfl,rfl⟩,st',fun b hb=>(hf b hb).1⟩⟩
  rw [Int.mul_one]
 done:=by
  intro X hP hw hK hc i pins s σ H E I hf st hg
  subst hP hw hK
  obtain ⟨f0,f1,f2,f3,f4,f5⟩:=hf it (by simp)
  exact wpAny_pyNext_range_end (I.ok.hd hc) st (by have:n ≤ i:=hg; omega) fun h' eb=>⟨rfl,I.turned (t':=s.toks) (fun b o hb e=>eb b o hb e) f0 f1 f3 f4 f5⟩
 self:=fun _ _ _ _ _ st h=>wpAny_pyIter_rangeiter st h
open PySem PySem.Spec PyProof.Rows
section
variable {X:Cx} {tg:Expr}
def IZ (K:PySem.W.Frag) (tl:TE):TI:=fun σ H R=>tl σ H fun x H1=>∃ a,x=.ref a /\ (∃ xs,gE K H1 a xs) /\ R (Ks K a) H1
def KP (K:PySem.W.Frag) (tl:TE):TI:=fun σ H R=>tl σ H fun x H1=>∃ a,x=.ref a /\ (∃ xs,jP K H1 a xs) /\ R (Kt K a) H1
theorem Ej {l:Expr} {tl:TE} (hl:PE X l tl):PI X tg l (IZ X.K tl):=by
 intro pins s σ H R I h
 refine cI (hl pins s σ H _ I h) fun v s1 ⟨x,H1,I1,r1,q1⟩=>?_
 obtain ⟨a,e,⟨xs,hq⟩,q⟩:=q1
 subst e
 cases r1
 obtain ⟨its,rv,p,hz⟩:=I1.list hq
 refine wpAny_pyIter_list p.isList ?_
 refine ⟨s1.heap.objs.size,[s1.heap.objs.size],_,_,H1,rfl,I1.kept (t':=s1.toks) fun b o e=>Heap.get?_push_of_some _ e,AB a _,⟨_,Heap.get?_push_size _ rfl,rfl,rfl⟩,fun b hb=>?_,q⟩
 have e:b=s1.heap.objs.size:=by simpa using hb
 subst e
 exact I1.fpOk (Nat.le_refl _) (I1.hok.fresh (Nat.le_refl _))
theorem Hi {l:Expr} {tl:TE} (hl:PE X l tl):PI X tg l (KP X.K tl):=by
 intro pins s σ H R I h
 refine cI (hl pins s σ H _ I h) fun v s1 ⟨x,H1,I1,r1,q1⟩=>?_
 obtain ⟨a,e,⟨xs,hq⟩,q⟩:=q1
 subst e
 cases r1
 obtain ⟨its,rv,p,hz⟩:=I1.tuple hq
 refine wpAny_pyIter_tuple (show s1.heap.IsTuple a its.toArray from p) ?_
 refine ⟨s1.heap.objs.size,[s1.heap.objs.size],_,_,H1,rfl,I1.kept (t':=s1.toks) fun b o e=>Heap.get?_push_of_some _ e,xU a _,⟨_,Heap.get?_push_size _ rfl,rfl,rfl⟩,fun b hb=>?_,q⟩
 have e:b=s1.heap.objs.size:=by simpa using hb
 subst e
 exact I1.fpOk (Nat.le_refl _) (I1.hok.fresh (Nat.le_refl _))
theorem vH {pins:List (Addr × Obj)} {σ:St} {H:Hp} {s:Shared} {R:It -> Hp -> Prop} {E:Value -> Shared -> Prop} {lo hi:Int} {t u v:Tok} {tk:Nat} (I:Inv X pins σ H s) (h1 : -(2 ^ 62) ≤ lo) (h2:lo < 2 ^ 62) (h3 : -(2 ^ 62) ≤ hi) (h4:hi < 2 ^ 62)
  (q:R (Ij lo (hi - lo).toNat) H):wpAny (model X.prog X.w) X.A (pyIter (.ref s.heap.objs.size)) (Lz X pins σ tg R) E { s with heap:=s.heap.push { cls:=.type "range", data:=.fields #[.int lo t,.int hi u,.int 1 v] },toks:=tk }:=by
 refine wpAny_pyIter_range (IsRange.new ..) (small_one h1 h2 h3 h4) ?_
 have I1:Inv X pins σ H { s with heap:=s.heap.push { cls:=.type "range", data:=.fields #[.int lo t,.int hi u,.int 1 v] },toks:=tk }:=I.kept fun b o e=>Heap.get?_push_of_some _ e
 refine ⟨(s.heap.push { cls:=.type "range", data:=.fields #[.int lo t,.int hi u,.int 1 v] }).objs.size,[(s.heap.push { cls:=.type "range", data:=.fields #[.int lo t,.int hi u,.int 1 v] }).objs.size],_,_,H,rfl,
  I1.kept (t':=tk) fun b o e=>Heap.get?_push_of_some _ e,xT _ lo (hi - lo).toNat,?_,fun b hb=>?_,q⟩
 ·have e1:lo + ((0:Nat):Int) * 1=lo:=by simp
  have e2:(((hi - lo).toNat:Nat):Int) - ((0:Nat):Int)=Builtin.Range.rangeSize lo hi 1:=by rw [rangeSize_one]; split <;> omega
  show IsRangeIter _ _ (lo + ((0:Nat):Int) * 1) ((((hi - lo).toNat:Nat):Int) - ((0:Nat):Int)) 1
  rw [e1,e2]
  exact Heap.get?_push_size _ rfl
 ·have e:b=(s.heap.push { cls:=.type "range", data:=.fields #[.int lo t,.int hi u,.int 1 v] }).objs.size:=by simpa using hb
  subst e
  exact I1.fpOk (Nat.le_refl _) (I1.hok.fresh (Nat.le_refl _))
def Ja (ta:TA):TI:=fun σ H R=>ta σ H fun vs H1=>∃ j:Int,vs=[.int j] /\ -(2 ^ 62) ≤ j /\ j < 2 ^ 62 /\ R (Ij 0 j.toNat) H1
def Jb (ta:TA):TI:=fun σ H R=>ta σ H fun vs H1=>∃ i j:Int,vs=[.int i,.int j] /\ (-(2 ^ 62) ≤ i /\ i < 2 ^ 62 /\ -(2 ^ 62) ≤ j /\ j < 2 ^ 62) /\ R (Ij i (j - i).toNat) H1
theorem Al {a:Expr} {ta:TA} {p pos:Pos} (hg:Gl X "range") (hm:X.mg "range" = none) (ha:PA X [a] ta) (hs:starEach [a] X.env=[(false,eval a X.env)]:=by rfl):PI X tg (.Call (.Name "range" p) [a] [] pos) (Ja ta):=by
 intro pins s σ H R I h
 refine Call_ (jY I hg hm boot_range (PyProof.Rows.callWith_type1 (cI (ha pos pins s σ H _ I h) fun us s1 ⟨vs,H1,I1,r1,q1⟩=>?_) hs rfl))
 obtain ⟨j,e,q1,q2,q⟩:=q1
 subst e
 cases r1 with
 | cons r rr =>
  cases rr
  obtain ⟨t,rfl⟩:=r
  exact call_range_1 (vH I1 (by omega) (by omega) q1 q2 (by simpa using q))
theorem Am {a b:Expr} {ta:TA} {p pos:Pos} (hg:Gl X "range") (hm:X.mg "range" = none) (ha:PA X [a,b] ta) (hs:starEach [a,b] X.env=[(false,eval a X.env),(false,eval b X.env)]:=by rfl) (hs2:starEach [b] X.env=[(false,eval b X.env)]:=by rfl) :
  PI X tg (.Call (.Name "range" p) [a,b] [] pos) (Jb ta):=by
 intro pins s σ H R I h
 refine Call_ (jY I hg hm boot_range (PyProof.Rows.callWith_type1 (cI (ha pos pins s σ H _ I h) fun us s1 ⟨vs,H1,I1,r1,q1⟩=>?_) (by rw [hs,hs2]) (by rw [hs2]; rfl)))
 obtain ⟨i,j,e,⟨q1,q2,q3,q4⟩,q⟩:=q1
 subst e
 cases r1 with
 | cons r rr =>
  cases rr with
  | cons r' rr =>
   cases rr
   obtain ⟨t,rfl⟩:=r
   obtain ⟨t',rfl⟩:=r'
   exact call_range_2 (vH I1 q1 q2 q3 q4 q)
def Li (wi:TI) (g:TG) (tb:TS):TS:=fun D σ H=>wi σ H fun J H1=>∃ W:Nat -> Nat -> St -> Hp -> Prop,(∃ m,W 0 m σ H1) /\ ∀ i m σ H,W i m σ H ->
 (J.stop i H /\ D.nx σ H) \/ (J.go i H /\ ∃ N:St -> Hp -> Prop,(∀ σ' H',N σ' H' -> ∃ m',m' < m /\ W (i + 1) m' σ' H') /\ ∀ x H',J.yld i H x H' -> g x σ H' fun σ2 H2=>tb { D with nx:=N,ct:=N,bk:=D.nx } σ2 H2)
def mf (fp:List Addr) (h:Heap):List (Addr × Obj):=fp.filterMap fun b=>(h.get? b).map fun o=>(b,o)
theorem fu {fp:List Addr} {h:Heap} {b:Addr} {o:Obj} (hb:b ∈ fp) (e:h.get? b=some o):(b,o) ∈ mf fp h:=List.mem_filterMap.mpr ⟨b,hb,by rw [e]; rfl⟩
theorem Ag {fp:List Addr} {h:Heap} {p:Addr × Obj} (hp:p ∈ mf fp h):p.1 ∈ fp /\ h.get? p.1=some p.2:=by
 obtain ⟨b,hb,e⟩:=List.mem_filterMap.mp hp
 cases q:h.get? b with
 | none=>rw [q] at e; cases e
 | some o =>
  rw [q] at e
  have e':(b,o)=p:=Option.some.inj e
  subst e'
  exact ⟨hb,q⟩
theorem Inv.pinned {pins:List (Addr × Obj)} {σ:St} {H:Hp} {s:Shared} {fp:List Addr} (I:Inv X pins σ H s) (hf:∀ b ∈ fp,pJ X pins H b) (ho:∀ b ∈ fp,∃ o,s.heap.get? b=some o /\ ∀ v,o.data ≠ .cell v):Inv X (pins ++ mf fp s.heap) σ H s:=
 I.pins_of fun p hp=>(List.mem_append.mp hp).elim (fun z=>I.pin p (List.mem_append_right _ z)) fun z=>by
  obtain ⟨hb,e⟩:=Ag z
  obtain ⟨f0,f1,f2,_⟩:=hf p.1 hb
  obtain ⟨o,e',d⟩:=ho p.1 hb
  rw [e] at e'; cases e'
  exact ⟨e,f0,f1,f2,d⟩
theorem Inv.unpinned {pins pl:List (Addr × Obj)} {σ:St} {H:Hp} {s:Shared} (I:Inv X (pins ++ pl) σ H s):Inv X pins σ H s:=I.pins_of fun p hp=>I.pin p (List.mem_append_right _ (List.mem_append_left _ hp))
theorem Cm {iter:Expr} {body:List Stmt} {wi:TI} {g:TG} {tb:TS} {pos:Pos} (hp:PassesOwn (model X.prog X.w) X.A X.env X.xe) (hc:X.calm=true) (hi:PI X tg iter wi) (hg:PG X tg g) (hb:iX X body tb)
  (hs:∀ x,foldedSetIterable iter X.env x=pure x:=by intro _; rfl):PS X (.For tg iter body [] pos) (Li wi g tb):=by
 intro pins s σ H D I h
 refine wpAny_For (cI (hi pins s σ H _ I h) fun v s1 h1=>cI h1 fun itv s2 h2=>?_) hs
 obtain ⟨it,fp,tn,J,H2,e,I2,T,st2,f2,W,⟨m0,w0⟩,turn⟩:=h2
 subst e
 -- what stays true of the iterator's objects through the loop
 have stat:∀ {H':Hp},(∀ b ∈ fp,H' b=none) -> ∀ b ∈ fp,pJ X pins H' b:=fun hn b hb=>⟨hn b hb,(f2 b hb).2⟩
 refine codeAny_forLoop_any (fun n s'=>∃ i σ' H',Inv X pins σ' H' s' /\ tn i s'.heap /\ (∀ b ∈ fp,H' b=none) /\ W i n σ' H') ?_ m0 ⟨0,σ,H2,I2,st2,fun b hb=>(f2 b hb).1,w0⟩
 rintro n s3 ⟨i,σ3,H3,I3,st3,fr3,w3⟩
 rcases turn i n σ3 H3 w3 with ⟨stop,qn⟩ | ⟨go,N,hN,step⟩
 ·refine wpAny_passesOwn hp (cI (T.done X rfl rfl rfl hc i pins s3 σ3 H3 X.xe I3 (stat fr3) st3 stop) fun r s4 ⟨hr,I4⟩=>?_)
  subst hr
  exact wpAny_execs_nil ⟨σ3,H3,I4,qn⟩
 ·refine wpAny_passesOwn hp (cI (T.item X rfl rfl rfl hc i pins s3 σ3 H3 X.xe I3 (stat fr3) st3 go) fun r s4 ⟨u,hr,h4⟩=>?_)
  subst hr
  refine wpAny_passesOwn hp (cI h4 fun _ s5 ⟨x,H5,I5,r5,y5,st5,fr5⟩=>?_)
  have I5':=I5.pinned (stat fr5) (T.obj _ _ st5)
  refine wpAny_passesOwn hp (cI (hg _ s5 σ3 H5 x u _ I5' r5 (step x H5 y5)) fun _ s6 ⟨σ6,H6,I6,q6⟩=>?_)
  refine wpAny_passesOwn hp (cI (hb _ s6 σ6 H6 _ I6 q6) fun f s7 q7=>?_)
  have again:∀ {σ7:St} {H7:Hp},Inv X (pins ++ mf fp s5.heap) σ7 H7 s7 -> N σ7 H7 -> ∃ m,m < n /\ ∃ i σ' H',Inv X pins σ' H' s7 /\ tn i s7.heap /\ (∀ b ∈ fp,H' b=none) /\ W i m σ' H':=fun {σ7 H7} I7 n7=>by
   obtain ⟨m',hm,w7⟩:=hN σ7 H7 n7
   refine ⟨m',hm,i + 1,σ7,H7,I7.unpinned,T.keep _ _ _ st5 fun b hb o e=>(I7.pin (b,o) (List.mem_append_right _ (List.mem_append_right _ (fu hb e)))).1,fun b hb=>?_,w7⟩
   obtain ⟨o,e,d⟩:=T.obj _ _ st5 b hb
   exact (I7.pin (b,o) (List.mem_append_right _ (List.mem_append_right _ (fu hb e)))).2.1
  cases f with
  | next=>obtain ⟨σ7,H7,I7,n7⟩:=q7; exact again I7 n7
  | cont=>obtain ⟨σ7,H7,I7,n7⟩:=q7; exact again I7 n7
  | brk=>obtain ⟨σ7,H7,I7,q7⟩:=q7; exact ⟨σ7,H7,I7.unpinned,q7⟩
  | ret v=>obtain ⟨x7,σ7,H7,I7,r7,q7⟩:=q7; exact ⟨x7,σ7,H7,I7.unpinned,r7,q7⟩
end
open PySem PySem.Spec PyProof.Rows
abbrev R2:=V -> V -> Hp -> VK -> Prop
def mR (X:Cx) (f:Value -> Value -> Sem Value) (r:R2):Prop:=
 ∀ (pins:List (Addr × Obj)) (s:Shared) (σ:St) (H:Hp) (x y:V) (v u:Value) (Q:VK),Inv X pins σ H s -> RelV x v -> RelV y u -> r x y H Q ->
  wpAny (model X.prog X.w) X.A (f v u) (EP X pins σ Q) X.xe s
def J7 (X:Cx) (f:Value -> Sem Value) (r:V -> Hp -> VK -> Prop):Prop:=
 ∀ (pins:List (Addr × Obj)) (s:Shared) (σ:St) (H:Hp) (x:V) (v:Value) (Q:VK),Inv X pins σ H s -> RelV x v -> r x H Q ->
  wpAny (model X.prog X.w) X.A (f v) (EP X pins σ Q) X.xe s
def eW (X:Cx) (f:Value) (r:List V -> Hp -> VK -> Prop):Prop:=
 ∀ (pins:List (Addr × Obj)) (s:Shared) (σ:St) (H:Hp) (xs:List V) (us:List Value) (Q:VK),Inv X pins σ H s -> Vals xs us -> r xs H Q ->
  wpAny (model X.prog X.w) X.A (call f us) (EP X pins σ Q) X.xe s
def Kx (X:Cx) (r:V -> Hp -> (Bool -> Hp -> Prop) -> Prop):Prop:=
 ∀ (pins:List (Addr × Obj)) (s:Shared) (σ:St) (H:Hp) (x:V) (v:Value) (Q:Bool -> Hp -> Prop),Inv X pins σ H s -> RelV x v -> r x H Q ->
  wpAny (model X.prog X.w) X.A (truthy v) (TP X pins σ Q) X.xe s
def JW (r:R2) (ta tb:TE):TE:=fun σ H Q=>ta σ H fun x H1=>tb σ H1 fun y H2=>r x y H2 Q
def Mm (r:V -> Hp -> VK -> Prop) (ta:TE):TE:=fun σ H Q=>ta σ H fun x H1=>r x H1 Q
def rI (C:Int -> Int -> Prop) (g:Int -> Int -> V):R2:=fun x y H Q=>∃ i j,x=.int i /\ y=.int j /\ C i j /\ Q (g i j) H
def Es (g:Int -> Int -> V):R2:=fun x y H Q=>∃ i j,x=.int i /\ y=.int j /\ Q (g i j) H
def rU (g:Int -> V):V -> Hp -> VK -> Prop:=fun x H Q=>∃ i,x=.int i /\ Q (g i) H
section
variable {X:Cx} {a b c:Expr} {ta tb tc:TE} {pos:Pos}
theorem FV (ha:PE X a ta) (hb:PE X b tb) {pins:List (Addr × Obj)} {s:Shared} {σ:St} {H:Hp} {R:V -> V -> Hp -> Prop} (I:Inv X pins σ H s)
  (h:ta σ H fun x H1=>tb σ H1 fun y H2=>R x y H2) {Q:Value -> Shared -> Prop} {f:Value -> Value -> Sem Value}
  (hf:∀ v u s2 x y H2,Inv X pins σ H2 s2 -> RelV x v -> RelV y u -> R x y H2 -> wpAny (model X.prog X.w) X.A (f v u) Q X.xe s2) :
  wpAny (model X.prog X.w) X.A (eval a X.env) (fun v s₁=>wpAny (model X.prog X.w) X.A (eval b X.env) (fun u s₂=>wpAny (model X.prog X.w) X.A (f v u) Q X.xe s₂) X.xe s₁) X.xe s:=by
 refine cI (ha pins s σ H _ I h) fun v s1 ⟨x,H1,I1,r1,q1⟩=>?_
 refine cI (hb pins s1 σ H1 _ I1 q1) fun u s2 ⟨y,H2,I2,r2,q2⟩=>?_
 exact hf v u s2 x y H2 I2 r1 r2 q2
theorem JE {op:Operator} {r:R2} (ho:mR X (binaryOp op) r) (ha:PE X a ta) (hb:PE X b tb):PE X (.BinOp a op b pos) (JW r ta tb):=by
 intro pins s σ H Q I h
 exact wpAny_BinOp (FV ha hb I h fun v u s2 x y H2 I2 rx ry q=>ho pins s2 σ H2 x y v u Q I2 rx ry q)
theorem JF {op:UnaryOp} {r:V -> Hp -> VK -> Prop} (ho:J7 X (unaryOp op) r) (ha:PE X a ta):PE X (.UnaryOp op a pos) (Mm r ta):=by
 intro pins s σ H Q I h
 exact UnaryOp_ (cI (ha pins s σ H _ I h) fun v s1 ⟨x,H1,I1,r1,q1⟩=>ho pins s1 σ H1 x v Q I1 r1 q1)
theorem K4 {f:Value -> Value -> Sem Value} {C:Int -> Int -> Prop} {g:Int -> Int -> Int}
  (rule:∀ (i j:Int) (t u:Tok) (s:Shared) (Q:Value -> Shared -> Prop) (E:Value -> Shared -> Prop),C i j -> Q (.int (g i j) s.toks) { s with toks:=s.toks + 1 } -> wpAny (model X.prog X.w) X.A (f (.int i t) (.int j u)) Q E s) :
  mR X f (rI C fun i j=>.int (g i j)):=by
 intro pins s σ H x y v u Q I rx ry h
 obtain ⟨i,j,rfl,rfl,hc,q⟩:=h
 obtain ⟨t,rfl⟩:=rx
 obtain ⟨t',rfl⟩:=ry
 exact rule i j t t' s _ _ hc ⟨.int (g i j),H,I.tok _,⟨_,rfl⟩,q⟩
theorem Jv {f:Value -> Value -> Sem Value} {g:Int -> Int -> Int}
  (rule:∀ (i j:Int) (t u:Tok) (s:Shared) (Q:Value -> Shared -> Prop) (E:Value -> Shared -> Prop),Q (.int (g i j) s.toks) { s with toks:=s.toks + 1 } -> wpAny (model X.prog X.w) X.A (f (.int i t) (.int j u)) Q E s) :
  mR X f (Es fun i j=>.int (g i j)):=by
 intro pins s σ H x y v u Q I rx ry h
 obtain ⟨i,j,rfl,rfl,q⟩:=h
 obtain ⟨t,rfl⟩:=rx
 obtain ⟨t',rfl⟩:=ry
 exact rule i j t t' s _ _ ⟨.int (g i j),H,I.tok _,⟨_,rfl⟩,q⟩
theorem D9 {f:Value -> Value -> Sem Value} {g:Int -> Int -> Bool}
  (rule:∀ (i j:Int) (t u:Tok) (s:Shared) (Q:Value -> Shared -> Prop) (E:Value -> Shared -> Prop),Q (.bool (g i j)) s -> wpAny (model X.prog X.w) X.A (f (.int i t) (.int j u)) Q E s) :
  mR X f (Es fun i j=>.bl (g i j)):=by
 intro pins s σ H x y v u Q I rx ry h
 obtain ⟨i,j,rfl,rfl,q⟩:=h
 obtain ⟨t,rfl⟩:=rx
 obtain ⟨t',rfl⟩:=ry
 exact rule i j t t' s _ _ ⟨.bl (g i j),H,I,rfl,q⟩
def Kr (i j:Int):Prop:=0 ≤ j /\ j ≤ 1000000 /\ i.natAbs < 2 ^ 64
def Ia (i j:Int):Prop:=(-(2 ^ 64) < i /\ i < 2 ^ 64) \/ (-(2 ^ 64) < j /\ j < 2 ^ 64)
theorem Ia.ok {i j:Int} (h:Ia i j):IntMulOk i j:=by
 rcases h with ⟨h1,h2⟩ | ⟨h1,h2⟩
 ·exact .of_left (intBits_le_64 h1 h2)
 ·exact .of_right (intBits_le_64 h1 h2)
theorem G2:mR X (binaryOp .Add) (Es fun i j=>.int (i + j)):=Jv fun _ _ _ _ _ _ _ q=>add_int q
theorem G4:mR X (binaryOp .Sub) (Es fun i j=>.int (i - j)):=Jv fun _ _ _ _ _ _ _ q=>sub_int q
theorem Eb:mR X (binaryOp .Mod) (rI (fun _ j=>j ≠ 0) fun i j=>.int (i.fmod j)):=K4 fun _ _ _ _ _ _ _ hc q=>mod_int' hc q
theorem Mo {f:Value -> Sem Value} {g:Int -> Int}
  (rule:∀ (i:Int) (t:Tok) (s:Shared) (Q:Value -> Shared -> Prop) (E:Value -> Shared -> Prop),Q (.int (g i) s.toks) { s with toks:=s.toks + 1 } -> wpAny (model X.prog X.w) X.A (f (.int i t)) Q E s) :
  J7 X f (rU fun i=>.int (g i)):=by
 intro pins s σ H x v Q I rx h
 obtain ⟨i,rfl,q⟩:=h
 obtain ⟨t,rfl⟩:=rx
 exact rule i t s _ _ ⟨.int (g i),H,I.tok _,⟨_,rfl⟩,q⟩
theorem HH:J7 X (unaryOp .USub) (rU fun i=>.int (-i)):=Mo fun _ _ _ _ _ q=>neg_int q
end
section
variable {X:Cx} {a b c:Expr} {ta tb tc:TE} {pos:Pos}
theorem Jz:mR X (compareOp .Lt) (Es fun i j=>.bl (decide (i < j))):=D9 fun _ _ _ _ _ _ _ q=>lt_int q
theorem Jy:mR X (compareOp .LtE) (Es fun i j=>.bl (decide (i ≤ j))):=D9 fun _ _ _ _ _ _ _ q=>le_int q
theorem Jx:mR X (compareOp .Gt) (Es fun i j=>.bl (decide (j < i))):=D9 fun _ _ _ _ _ _ _ q=>gt_int q
theorem Jw:mR X (compareOp .GtE) (Es fun i j=>.bl (decide (j ≤ i))):=D9 fun _ _ _ _ _ _ _ q=>ge_int q
theorem mR.or {f:Value -> Value -> Sem Value} {r r':R2} (h:mR X f r) (h':mR X f r'):mR X f (fun x y H Q=>r x y H Q \/ r' x y H Q):=by
 intro pins s σ H x y v u Q I rx ry q
 rcases q with q | q
 ·exact h pins s σ H x y v u Q I rx ry q
 ·exact h' pins s σ H x y v u Q I rx ry q
theorem bU (b:Expr) {op:CmpOp} (h:op ≠ .In:=by decide) (h2:op ≠ .NotIn:=by decide):behindInMarks op b=false:=by
 have e1:(op == CmpOp.In)=false:=by cases op <;> first | rfl | exact absurd rfl h
 have e2:(op == CmpOp.NotIn)=false:=by cases op <;> first | rfl | exact absurd rfl h2
 cases b <;> simp [behindInMarks,e1,e2]
theorem Ef {op:CmpOp} {r:R2} (ho:mR X (compareOp op) r) (ha:PE X a ta) (hb:PE X b tb) (hm:behindInMarks op b=false):PE X (.Compare a [op] [b] pos) (JW r ta tb):=by
 intro pins s σ H Q I h
 exact wpAny_Compare1 (FV ha hb I h fun v u s2 x y H2 I2 rx ry q=>ho pins s2 σ H2 x y v u Q I2 rx ry q) hm
def FH (t:TE):TT:=fun σ H Q=>t σ H fun x H'=>∃ k,x=.bl k /\ Q k H'
theorem En {op:CmpOp} {r:R2} (ho:mR X (compareOp op) r) (ha:PE X a ta) (hb:PE X b tb) (hm:behindInMarks op b=false):PT X (.Compare a [op] [b] pos) (FH (JW r ta tb)):=by
 intro pins s σ H Q I h
 refine wpAny_isTrue_Compare1 (cI (ha pins s σ H _ I h) fun v s1 ⟨x,H1,I1,r1,q1⟩=>cI (hb pins s1 σ H1 _ I1 q1) fun u s2 ⟨y,H2,I2,r2,q2⟩ =>
  cI (ho pins s2 σ H2 x y v u _ I2 r1 r2 q2) fun c s3 ⟨z,H3,I3,r3,k,e,q3⟩=>?_) hm
 subst e
 cases r3
 exact wpAny_truthy_bool ⟨H3,I3,q3⟩
def CO (r r':R2) (ta tb tc:TE):TE:=fun σ H Q=>ta σ H fun x H1=>tb σ H1 fun y H2=>r x y H2 fun z H3=>∃ k,z=.bl k /\
 (if k=true then tc σ H3 fun w' H4=>r' y w' H4 Q else Q (.bl false) H3)
theorem Cp {op op':CmpOp} {r r':R2} (ho:mR X (compareOp op) r) (ho':mR X (compareOp op') r') (ha:PE X a ta) (hb:PE X b tb) (hc:PE X c tc)
  (hm:lastMarks [op,op'] [b,c]=false:=by with_unfolding_all rfl):PT X (.Compare a [op,op'] [b,c] pos) (FH (CO r r' ta tb tc)):=by
 intro pins s σ H Q I h
 refine isTrue_chain (cI (ha pins s σ H _ I h) fun v s1 ⟨x,H1,I1,r1,q1⟩=>test_link (cI (hb pins s1 σ H1 _ I1 q1) fun u s2 ⟨y,H2,I2,r2,q2⟩ =>
  cI (ho pins s2 σ H2 x y v u _ I2 r1 r2 q2) fun d s3 ⟨z,H3,I3,r3,k,e,q3⟩=>?_)) hm
 subst e
 cases r3
 refine wpAny_truthy_bool ?_
 cases k with
 | false =>
  obtain ⟨k',e',q'⟩:=q3
  cases e'
  exact ite_ff ⟨H3,I3,q'⟩
 | true =>
  refine ite_tt (test_last (cI (hc pins s3 σ H3 _ I3 q3) fun w' s4 ⟨z',H4,I4,r4,q4⟩=>cI (ho' pins s4 σ H4 y z' u w' _ I4 r2 r4 q4) fun d' s5 ⟨z2,H5,I5,r5,k2,e2,q5⟩=>?_))
  subst e2
  cases r5
  exact wpAny_truthy_bool ⟨H5,I5,q5⟩
def FR (K:PySem.W.Frag) (x:V) (H:Hp) (k:Bool):Prop:=
 match x with
 | .non=>k=false
 | .bl b=>k=b
 | .int i=>k=(i != 0)
 | .str y=>y.length ≤ sizeLine /\ k=((y.length:Int) != 0)
 | .byt y=>y.size ≤ sizeLine /\ k=((y.size:Int) != 0)
 | .ref p=>(∃ xs,gE K H p xs /\ k = !xs.isEmpty) \/ (∃ xs,jP K H p xs /\ k = !xs.isEmpty) \/ ∃ kvs,H p=some (.dK kvs) /\ k = !kvs.isEmpty
 | _=>False
theorem wV {κ:Type} {kvs:List (κ × V)} {vs:List (κ × Value)} (r:KV kvs vs):(!vs.isEmpty) = !kvs.isEmpty:=by
 cases r <;> rfl
theorem ou {xs:List V} {its:List Value} (r:Vals xs its):(!its.toArray.isEmpty) = !xs.isEmpty:=by
 cases r <;> simp
theorem jZ:(sizeLine:Nat) < 2 ^ 63:=by rw [sizeLine_eq]; decide
theorem HE:Kx X (fun x H Q=>∃ k,FR X.K x H k /\ Q k H):=by
 intro pins s σ H x v Q I rx h
 obtain ⟨k,e,q⟩:=h
 have hl:=jZ
 have hs:sizeLine=16777216:=sizeLine_eq
 cases x with
 | non =>
  cases rx
  have e':k=false:=e
  subst e'
  exact truthy_none ⟨H,I,q⟩
 | bl b =>
  cases rx
  have e':k=b:=e
  subst e'
  exact wpAny_truthy_bool ⟨H,I,q⟩
 | int i =>
  obtain ⟨t,rfl⟩:=rx
  have e':k=(i != 0):=e
  subst e'
  exact PySem.P.truthy_int ⟨H,I,q⟩
 | str y =>
  obtain ⟨t,rfl⟩:=rx
  obtain ⟨hy,e'⟩:y.length ≤ sizeLine /\ k=((y.length:Int) != 0):=e
  subst e'
  exact PySem.P.truthy_str (by omega) ⟨H,I.tok _,q⟩
 | byt y =>
  obtain ⟨t,rfl⟩:=rx
  obtain ⟨hy,e'⟩:y.size ≤ sizeLine /\ k=((y.size:Int) != 0):=e
  subst e'
  exact PySem.W.truthy_bytes (by omega) ⟨H,I.tok _,q⟩
 | ref p =>
  cases rx
  have e':(∃ xs,gE X.K H p xs /\ k = !xs.isEmpty) \/ (∃ xs,jP X.K H p xs /\ k = !xs.isEmpty) \/ ∃ kvs,H p=some (.dK kvs) /\ k = !kvs.isEmpty:=e
  rcases e' with ⟨xs,hx,e'⟩ | ⟨xs,hx,e'⟩ | ⟨kvs,hx,e'⟩
  ·subst e'
   obtain ⟨its,r,pl,hz⟩:=I.list hx
   have hlen:=r.length
   exact wpAny_truthy_list pl.isList (by simp only [List.size_toArray]; omega) ⟨H,I.tok _,by rw [ou r]; exact q⟩
  ·subst e'
   obtain ⟨its,r,pl,hz⟩:=I.tuple hx
   have hlen:=r.length
   exact truthy_tuple pl (by simp only [List.size_toArray]; omega) ⟨H,I.tok _,by rw [ou r]; exact q⟩
  ·subst e'
   obtain ⟨hz,hS,vs,r,m⟩:kvs.length ≤ sizeLine /\ (p == sysModules)=false /\ ∃ vs,KV kvs vs /\ s.heap.DictOf (sL X.prog X.w) p vs:=I.hok p _ hx
   have hlen:kvs.length=vs.length:=Paired.length r
   exact wpAny_truthy_dict hS m (by omega) ⟨H,I.tok _,by rw [wV r]; exact q⟩
 | _=>exact (show False from e).elim
theorem Cq (ha:PE X a ta) (he:∀ whole,isTrue a X.env whole=(do let v <- whole; standAt a.pos; holding [v] (truthy v))) :
  PT X a (fun σ H Q=>ta σ H fun x H'=>∃ k,FR X.K x H' k /\ Q k H'):=by
 intro pins s σ H Q I h
 exact isTrue_plain (cI (ha pins s σ H _ I h) fun v s1 ⟨x,H1,I1,r1,q1⟩=>HE pins s1 σ H1 x v Q I1 r1 q1) (he _)
theorem xE:mR X (binaryOp .Add) (fun x y H Q=>∃ i j,x=.str i /\ y=.str j /\ i.length + j.length ≤ sizeLine /\ Q (.str (i ++ j)) H):=by
 intro pins s σ H x y v u Q I rx ry h
 obtain ⟨i,j,rfl,rfl,hz,q⟩:=h
 obtain ⟨t,rfl⟩:=rx
 obtain ⟨t',rfl⟩:=ry
 exact add_str (fun t' tk=>⟨.str (i ++ j),H,I.tok _,⟨_,rfl⟩,q⟩) hz
theorem vals1 {x:V} {us:List Value} (r:Vals [x] us):∃ u,us=[u] /\ RelV x u:=by
 cases r with
 | cons r1 r2=>cases r2; exact ⟨_,rfl,r1⟩
theorem vals2 {x y:V} {us:List Value} (r:Vals [x,y] us):∃ u w',us=[u,w'] /\ RelV x u /\ RelV y w':=by
 cases r with
 | cons r1 r2 =>
  cases r2 with
  | cons r3 r4=>cases r4; exact ⟨_,_,rfl,r1,r3⟩
theorem AX:eW X (.builtin "abs") (fun xs H Q=>∃ i,xs=[.int i] /\ Q (.int (if i < 0 then -i else i)) H):=by
 intro pins s σ H xs us Q I r h
 obtain ⟨i,rfl,q⟩:=h
 obtain ⟨u,rfl,t,rfl⟩:=vals1 r
 exact call_abs_int fun u tk=>⟨.int (if i < 0 then -i else i),H,I.tok _,⟨_,rfl⟩,q⟩
theorem zP (hc:X.calm=true):eW X (.builtin "max") (fun xs H Q=>∃ i j,xs=[.int i,.int j] /\ Q (.int (if j > i then j else i)) H):=by
 intro pins s σ H xs us Q I r h
 obtain ⟨i,j,rfl,q⟩:=h
 obtain ⟨u,w',rfl,⟨t,rfl⟩,⟨t',rfl⟩⟩:=vals2 r
 refine max_two_ints (I.ok.hd hc) fun h' tk k=>⟨_,H,I.kept k,?_,q⟩
 by_cases hj:j > i
 ·rw [if_pos hj,if_pos hj]; exact ⟨_,rfl⟩
 ·rw [if_neg hj,if_neg hj]; exact ⟨_,rfl⟩
theorem zQ (hc:X.calm=true):eW X (.builtin "min") (fun xs H Q=>∃ i j,xs=[.int i,.int j] /\ Q (.int (if j < i then j else i)) H):=by
 intro pins s σ H xs us Q I r h
 obtain ⟨i,j,rfl,q⟩:=h
 obtain ⟨u,w',rfl,⟨t,rfl⟩,⟨t',rfl⟩⟩:=vals2 r
 refine min_two_ints (I.ok.hd hc) fun h' tk k=>⟨_,H,I.kept k,?_,q⟩
 by_cases hj:j < i
 ·rw [if_pos hj,if_pos hj]; exact ⟨_,rfl⟩
 ·rw [if_neg hj,if_neg hj]; exact ⟨_,rfl⟩
theorem zN:eW X (.type "int") (fun xs H Q=>(∃ i,xs=[.int i] /\ Q (.int i) H) \/ ∃ k,xs=[.bl k] /\ Q (.int (if k then 1 else 0)) H):=by
 intro pins s σ H xs us Q I r h
 rcases h with ⟨i,rfl,q⟩ | ⟨k,rfl,q⟩
 ·obtain ⟨u,rfl,t,rfl⟩:=vals1 r
  exact call_int_int ⟨.int i,H,I,⟨_,rfl⟩,q⟩
 ·obtain ⟨u,rfl,r1⟩:=vals1 r
  cases r1
  exact call_int_bool ⟨.int (if k then 1 else 0),H,I.tok _,⟨_,rfl⟩,q⟩
end
open PySem PySem.Spec PyProof.Rows
structure wg (h:Heap) (x dx C:Addr) (mA:Str -> Option Value):Prop where
 obj:h.get? x=some (PySem.W.instObj C dx)
 ns:h.Ns1 dx mA
 ne:dx ≠ x
theorem Ae {h:Heap} {dx:Addr} {mA:Str -> Option Value} (n:h.Ns1 dx mA):∃ od,h.get? dx=some od /\ ∀ name,PySem.W.lookIn name od=some (mA name):=by
 obtain ⟨o,es,ep,ho,hd,hk,_,hm⟩:=n
 refine ⟨o,ho,fun name=>?_⟩
 have e:=hm name
 unfold nsFind findBy at e
 rw [<- Array.find?_toList] at e
 unfold PySem.W.lookIn
 rw [hd]
 dsimp only
 split
 ·rename_i y q
  rw [q] at e
  exact congrArg some e
 ·rename_i q
  rw [q] at e
  have a:es.toList.any (·.refKey)=false:=by
   rw [List.any_eq_false]
   intro y hy
   obtain ⟨z,t,hkey⟩:=hk y (Array.mem_toList_iff.mp hy)
   simp [DictEntry.refKey,hkey]
  have a':¬ es.toList.any (·.refKey)=true:=by rw [a]; exact Bool.false_ne_true
  rw [if_neg a']
  exact congrArg some e
theorem wg.look {h:Heap} {x dx C:Addr} {mA:Str -> Option Value} (I:wg h x dx C mA):∃ od,PySem.W.InstAt h x (PySem.W.instObj C dx) C (some od) /\ ∀ name,PySem.W.lookIn name od=some (mA name):=
 let ⟨od,ho,hl⟩:=Ae I.ns
 ⟨od,⟨I.obj,rfl,rfl,ho⟩,hl⟩
section
variable {prog:Program} {w:World} {A:Around} {E:Value -> Shared -> Prop} {s:Shared} {K:PySem.W.Frag} {x dx C f:Addr} {mA:Str -> Option Value} {name:Str} {v:Value}
theorem get_map {expr:Bool} {Q:Value -> Shared -> Prop} (X:K.In s.heap) (I:wg s.heap x dx C mA) (hg:PySem.W.plainGet K C name=true) (hh:PySem.W.hasDictIn K C=true)
  (ha:PySem.W.findIn K (.ref C) name=some none) (hv:mA name=some v) (hv':PySem.W.handedIn v=true) (h:Q v { s with toks:=s.toks + 1 }) :
  wpAny (model prog w) A (getAttr (.ref x) name expr) Q E s:=by
 obtain ⟨od,J,hl⟩:=I.look
 exact PySem.W.get_value X J (PySem.W.plainGet_of hg).1 (PySem.W.findObj_own hh ha rfl (by rw [hl,hv])) hv' h
theorem Bz {pl:Sem Bool} {Q:Value × List Value -> Shared -> Prop} (X:K.In s.heap) (I:wg s.heap x dx C mA) (hg:PySem.W.plainGet K C name=true)
  (hf:PySem.W.findIn K (.ref C) name=some (some (.ref f))) (ht:PySem.W.isFn K (.ref f)=true) (hv:mA name=none) (h:Q (.ref f,[.ref x]) s) :
  wpAny (model prog w) A (getMethod (.ref x) name pl) Q E s:=by
 obtain ⟨od,J,hl⟩:=I.look
 exact PySem.W.method_fn X J (PySem.W.plainGet_of hg).1 (PySem.W.plainGet_of hg).2 hf (beq_iff_eq.mp ht) (by show (PySem.W.lookIn name od).map (·.isSome)=some false; rw [hl,hv]; rfl) h
theorem Ez {ns:List Str} {Q:Unit -> Shared -> Prop} (X:K.In s.heap) (I:wg s.heap x dx C mA)
  (hs:PySem.W.findIn K (.ref C) "__setattr__" = some (some (.builtin "object.__setattr__"))) (hp:PySem.W.plainOver K C=true) (ht:PySem.W.takerIn K C name=some none) (hh:PySem.W.hasDictIn K C=true)
  (hw:PySem.Within mA ns) (hsz:ns.length ≤ sizeLine)
  (h:∀ h',wg h' x dx C (fun y=>if y=name then some v else mA y) -> Heap.SameBut dx s.heap h' -> Q () { s with heap:=h',toks:=s.toks + 2 }) :
  wpAny (model prog w) A (setAttr (.ref x) name v) Q E s:=by
 obtain ⟨od,J,hl⟩:=I.look
 refine PySem.W.set_plain X J hs (PySem.W.osa_open (s:={ s with toks:=s.toks + 1 }) (r:=none) X J hp ht fun b=>?_)
 obtain ⟨cd,hc,hd'⟩:=PySem.W.any_some hh
 have hx:s.heap.get? x=some ⟨.ref C,some dx,.plain,#[]⟩:=I.obj
 refine wpAny_bind (wpAny_pure (wpAny_bind (wpAny_bind (wpAny_loadPart hx (wpAny_bind (PySem.W.Looks.here (s:={ s with toks:=s.toks + 1 }) (PySem.W.looks_clsIn X hc) ?_))))))
 rw [hd']
 refine wpAny_pure (a:=some dx) (wpAny_bind (wpAny_pure (wpAny_bind ?_)))
 refine wpAny_nsSet1 (s:={ s with toks:=s.toks + 1 }) I.ns fun h' hn2 hs2=>?_
 obtain ⟨oD,esD,epD,hoD,hdD,hcD⟩:=hn2.count (PySem.Within.cons name v hw)
 refine wpAny_bind (wpAny_lookBehind hoD (by rw [hdD]; exact pastItsLine_dict (Nat.le_trans hcD (by rw [List.length_cons]; omega))) ?_)
 exact wpAny_pure (h _ ⟨(hs2.2 _ (Ne.symm I.ne)).trans I.obj,hn2,I.ne⟩ hs2)
theorem BV {R:Result -> Shared -> Prop} {vs:List Value} {kw:List (Str × Value)} (X:K.In s.heap) (hm:PySem.W.makesIn K C=true)
  (hi:PySem.W.findIn K (.ref C) "__init__" = some (some (.ref f))) (hf:PySem.W.typeIn K (.ref f)=some (.type "function"))
  (h:codeAny (model prog w) (A.under (.builtin "type.__call__" ⟨.ref C :: vs,kw⟩)) (.call (.ref f) ⟨.ref (s.heap.objs.size + 1) :: vs,kw⟩) (PySem.W.InitBack (s.heap.objs.size + 1) R)
   { s with heap:=(s.heap.push PySem.W.emptyDict).push (PySem.W.instObj C s.heap.objs.size) }) :
  codeAny (model prog w) A (.call (.ref C) ⟨vs,kw⟩) R s:=by
 obtain ⟨hh,g,d,t,os⟩:=s
 exact PySem.W.make_core (PySem.W.makes_of X hm) (PySem.W.looks_findIn X hi) (fun self=>PySem.W.bind_fn X self hf) (.inl rfl) h
end
def iF (f:Str) (v:V):List (Str × V) -> List (Str × V)
 | []=>[(f,v)]
 | (g,x) :: r=>if g=f then (g,v) :: r else (g,x) :: iF f v r
theorem mJ (f g:Str) (v:V):∀ fs:List (Str × V),(iF f v fs).lookup g=if g=f then some v else fs.lookup g
 | []=>by
  show List.lookup g [(f,v)]=_
  by_cases h:g=f
  ·have hb:(g == f)=true:=beq_iff_eq.mpr h
   simp only [List.lookup,hb,if_pos h]
  ·have hb:(g == f)=false:=beq_eq_false_iff_ne.mpr h
   simp only [List.lookup,hb,if_neg h]
 | (k,x) :: r=>by
  have ih:=mJ f g v r
  rw [show iF f v ((k,x) :: r)=(if k=f then (k,v) :: r else (k,x) :: iF f v r) from rfl]
  by_cases hk:k=f
  ·rw [if_pos hk]
   by_cases h:g=k
   ·have hb:(g == k)=true:=beq_iff_eq.mpr h
    simp only [List.lookup,hb,if_pos (h.trans hk)]
   ·have hb:(g == k)=false:=beq_eq_false_iff_ne.mpr h
    simp only [List.lookup,hb,if_neg (fun e:g=f=>h (e.trans hk.symm))]
  ·rw [if_neg hk]
   by_cases h:g=k
   ·have hb:(g == k)=true:=beq_iff_eq.mpr h
    simp only [List.lookup,hb,if_neg (fun e:g=f=>hk (h.symm.trans e))]
   ·have hb:(g == k)=false:=beq_eq_false_iff_ne.mpr h
    simp only [List.lookup,hb]
    exact ih
theorem lY (f:Str) (v:V):∀ fs:List (Str × V),f ∈ (iF f v fs).map (·.1) /\ ∀ g,g ∈ fs.map (·.1) -> g ∈ (iF f v fs).map (·.1)
 | []=>⟨by simp [iF],fun g h=>by simp at h⟩
 | (k,x) :: r=>by
  obtain ⟨i1,i2⟩:=lY f v r
  rw [show iF f v ((k,x) :: r)=(if k=f then (k,v) :: r else (k,x) :: iF f v r) from rfl]
  by_cases hk:k=f
  ·rw [if_pos hk]
   subst hk
   exact ⟨by simp,fun g h=>by simpa using h⟩
  ·rw [if_neg hk]
   refine ⟨?_,fun g h=>?_⟩
   ·rw [List.map_cons]
    exact List.mem_cons_of_mem _ i1
   ·rw [List.map_cons] at h ⊢
    rcases List.mem_cons.mp h with e | e
    ·exact List.mem_cons.mpr (.inl e)
    ·exact List.mem_cons_of_mem _ (i2 g e)
theorem mI (f:Str) (v:V):∀ fs:List (Str × V),(iF f v fs).length ≤ fs.length + 1
 | []=>by simp [iF]
 | (k,x) :: r=>by
  have ih:=mI f v r
  rw [show iF f v ((k,x) :: r)=(if k=f then (k,v) :: r else (k,x) :: iF f v r) from rfl]
  by_cases hk:k=f
  ·rw [if_pos hk,List.length_cons,List.length_cons]; omega
  ·rw [if_neg hk,List.length_cons,List.length_cons]; omega
theorem pK.some_of {v:V} {o:Option Value} (r:pK (some v) o):∃ u,o=some u /\ RelV v u:=by
 cases o with
 | none=>exact (show False from r).elim
 | some u=>exact ⟨u,rfl,r⟩
theorem pK.none_of {o:Option Value} (r:pK none o):o=none:=by
 cases o with
 | none=>rfl
 | some u=>exact (show False from r).elim
theorem Aa {v:V} {u:Value} (r:RelV v u):PySem.W.handedIn u=true:=by
 cases v with
 | non=>cases (show u=Value.none from r); rfl
 | bl b=>cases (show u=Value.bool b from r); rfl
 | int i=>obtain ⟨t,e⟩:=(show ∃ t,u=Value.int i t from r); cases e; rfl
 | str x=>obtain ⟨t,e⟩:=(show ∃ t,u=Value.str x t from r); cases e; rfl
 | byt b=>obtain ⟨t,e⟩:=(show ∃ t,u=Value.bytes b t from r); cases e; rfl
 | flt b=>obtain ⟨t,e⟩:=(show ∃ t,u=Value.float b t from r); cases e; rfl
 | ref a=>cases (show u=Value.ref a from r); rfl
 | ty n=>cases (show u=Value.type n from r); rfl
section
variable {P:Program} {w:World} {H H':Hp} {h h':Heap} {a C dx:Addr} {fs fs':List (Str × V)}
theorem rM (hok:mF P w H h) (e:H a=some (.ins C dx fs)):∃ mA,wg h a dx C mA /\ (∀ f,pK (fs.lookup f) (mA f)) /\ PySem.Within mA (fs.map (·.1)) /\ fs.length ≤ 1000 /\ H dx=some (.own a):=by
 obtain ⟨d,z,ne,ob,mA,n,r,q⟩:=(show dY P w H h a (.ins C dx fs) from hok a _ e)
 exact ⟨mA,⟨ob,n,ne⟩,r,q,z,d⟩
end
structure m7 (K:PySem.W.Frag) (C:Addr):Prop where
 pg:PySem.W.plainGet K C Str.empty=true
 hd:PySem.W.hasDictIn K C=true
 po:PySem.W.plainOver K C=true
 sa:PySem.W.findIn K (.ref C) "__setattr__" = some (some (.builtin "object.__setattr__"))
theorem m7.get {K:PySem.W.Frag} {C:Addr} (c:m7 K C) (f:Str):PySem.W.plainGet K C f=true:=c.pg
def ff (K:PySem.W.Frag) (C:Addr) (f:Str):Prop:=PySem.W.findIn K (.ref C) f=some none
theorem ff.taker {K:PySem.W.Frag} {C:Addr} {f:Str} (n:ff K C f):PySem.W.takerIn K C f=some none:=by
 unfold PySem.W.takerIn
 rw [show PySem.W.findIn K (.ref C) f=some none from n]
 rfl
structure Mp (K:PySem.W.Frag) (C:Addr) (f:Str) (v:V) (u:Value):Prop where
 at_:PySem.W.findIn K (.ref C) f=some (some u)
 rel:RelV v u
 get:PySem.W.specialIn K u "__get__" = some none
 cp:PySem.W.copiedNames.contains f=false
structure Meth (K:PySem.W.Frag) (C:Addr) (m:Str) (f:Addr):Prop where
 at_:PySem.W.findIn K (.ref C) m=some (some (.ref f))
 fn:PySem.W.isFn K (.ref f)=true
 kp:PySem.W.keepIn K (.ref f)=true
section
variable {X:Cx} {pins:List (Addr × Obj)} {σ:St} {H:Hp} {s:Shared} {a C dx:Addr} {fs:List (Str × V)} {f:Str} {v:V} {A:Around} {E:Value -> Shared -> Prop}
theorem wQ {b:Bool} {Q:Value -> Shared -> Prop} (I:Inv X pins σ H s) (e:H a=some (.ins C dx fs)) (c:m7 X.K C) (n:ff X.K C f) (l:fs.lookup f=some v)
  (h:∀ u s',Inv X pins σ H s' -> RelV v u -> Q u s'):wpAny (model X.prog X.w) A (getAttr (.ref a) f b) Q E s:=by
 obtain ⟨mA,O,r,_,_,_⟩:=rM I.hok e
 obtain ⟨u,hu,ru⟩:=pK.some_of (v:=v) (o:=mA f) (by rw [<- l]; exact r f)
 exact get_map I.kIn O (c.get f) c.hd n hu (Aa ru) (h u _ (I.tok _) ru)
theorem wR {m:Str} {g:Addr} {pl:Sem Bool} {Q:Value × List Value -> Shared -> Prop} (I:Inv X pins σ H s) (e:H a=some (.ins C dx fs)) (c:m7 X.K C) (k:Meth X.K C m g) (l:fs.lookup m=none)
  (h:Q (.ref g,[.ref a]) s):wpAny (model X.prog X.w) A (getMethod (.ref a) m pl) Q E s:=by
 obtain ⟨mA,O,r,_,_,_⟩:=rM I.hok e
 have hn:mA m=none:=pK.none_of (by rw [<- l]; exact r m)
 exact Bz I.kIn O (c.get m) k.at_ k.fn hn h
theorem xS {y:V} {u:Value} {Q:Unit -> Shared -> Prop} (I:Inv X pins σ H s) (e:H a=some (.ins C dx fs)) (c:m7 X.K C) (n:ff X.K C f) (hl:fs.length < 1000) (ry:RelV y u)
  (h:∀ s',Inv X pins σ (upd H a (.ins C dx (iF f y fs))) s' -> Q () s'):wpAny (model X.prog X.w) A (setAttr (.ref a) f u) Q E s:=by
 obtain ⟨mA,O,r,wi,_,ho⟩:=rM I.hok e
 have hz:(fs.map (·.1)).length ≤ sizeLine:=by rw [List.length_map,sizeLine_eq]; omega
 refine Ez I.kIn O c.sa c.po n.taker c.hd wi hz fun h' O' sb=>h _ ?_
 have hd:∃ o,h'.get? dx=some o:=let ⟨o,_,_,e',_⟩:=O'.ns; ⟨o,e'⟩
 refine I.write (x:=a) (e:=dx) (by rw [e]; exact True.intro) (.inr ho) (fun b q hb z=>(sb.2 b hb).trans z) hd ?_
 refine ⟨by rw [aE O.ne]; exact ho,?_,O.ne,O'.obj,_,O'.ns,fun g=>?_,fun g hg=>?_⟩
 ·have:=mI f y fs; omega
 ·show pK ((iF f y fs).lookup g) (if g=f then some u else mA g)
  rw [mJ]
  by_cases q:g=f
  ·rw [if_pos q,if_pos q]; exact ry
  ·rw [if_neg q,if_neg q]; exact r g
 ·by_cases q:g=f
  ·rw [q]; exact (lY f y fs).1
  ·refine (lY f y fs).2 g (wi g fun z=>hg ?_)
   show (if g=f then some u else mA g)=none
   rw [if_neg q]; exact z
theorem Inv.made (I:Inv X pins σ H s):Inv X pins σ (upd (upd H s.heap.objs.size (.own (s.heap.objs.size + 1))) (s.heap.objs.size + 1) (.ins C s.heap.objs.size []))
  { s with heap:=(s.heap.push PySem.W.emptyDict).push (PySem.W.instObj C s.heap.objs.size) }:=by
 have e1:(s.heap.push PySem.W.emptyDict).get? s.heap.objs.size=some PySem.W.emptyDict:=Heap.get?_push_size s.heap rfl
 have e2:((s.heap.push PySem.W.emptyDict).push (PySem.W.instObj C s.heap.objs.size)).get? (s.heap.objs.size + 1)=some (PySem.W.instObj C s.heap.objs.size):=by
  have:=Heap.get?_push_size (s.heap.push PySem.W.emptyDict) (o:=PySem.W.instObj C s.heap.objs.size) rfl
  rwa [Heap.size_push] at this
 have e3:(s.heap.push PySem.W.emptyDict).Ns s.heap.objs.size (fun _=>none):=⟨PySem.W.emptyDict,#[],_,e1,rfl,(fun e he=>absurd he (by simp)),fun _=>rfl⟩
 have I1:=I.laid (a:=s.heap.objs.size) (o:=.own (s.heap.objs.size + 1)) (h':=s.heap.push PySem.W.emptyDict) (t':=s.toks) (fun b u q=>Heap.get?_push_of_some _ q) (Nat.le_refl _) ⟨_,e1⟩
 refine I1.laid (a:=s.heap.objs.size + 1) (o:=.ins C s.heap.objs.size []) (t':=s.toks) (fun b u q=>Heap.get?_push_of_some _ q) (Nat.le_of_eq (Heap.size_push _ _)) ?_
 have ne:s.heap.objs.size ≠ s.heap.objs.size + 1:=Nat.ne_of_lt (Nat.lt_succ_self _)
 refine ⟨by rw [aE ne,aN],Nat.zero_le _,ne,e2,fun _=>none,(Heap.Ns1.of_empty e3).at fun o q=>Heap.get?_push_of_some _ q,fun _=>True.intro,fun y hy=>absurd rfl hy⟩
theorem Dd {prog:Program} {w:World} {env:Env} {e:Expr} {f:Str} {pos:Pos} {s:Shared} {Q:Value -> Shared -> Prop} (hb:attributeBase e f env (eval e env)=eval e env)
  (h:wpAny (model prog w) A (eval e env) (fun o s₁=>wpAny (model prog w) A (getAttr o f true) Q E s₁) E s):wpAny (model prog w) A (eval (.Attribute e f pos) env) Q E s:=
 Attribute_any_ h (by rw [arm_eval_Attribute,hb])
end
def Lh (K:PySem.W.Frag) (ta:TE) (f:Str):TE:=fun σ H Q=>ta σ H fun x H1=>∃ a C dx fs v,x=.ref a /\ H1 a=some (.ins C dx fs) /\ m7 K C /\ ff K C f /\ fs.lookup f=some v /\ Q v H1
def Lb (K:PySem.W.Frag) (ta tv:TE) (f:Str):TS:=fun D σ H=>tv σ H fun y H1=>ta σ H1 fun x H2=>∃ a C dx fs,x=.ref a /\ H2 a=some (.ins C dx fs) /\ m7 K C /\ ff K C f /\ fs.length < 1000 /\
 D.nx σ (upd H2 a (.ins C dx (iF f y fs)))
section
variable {X:Cx} {o e value:Expr} {f:Str} {pos pos' tpos:Pos} {ta tv:TE}
theorem G7 (he:PE X e ta) (hb:attributeBase e f X.env (eval e X.env)=eval e X.env):PE X (.Attribute e f pos) (Lh X.K ta f):=by
 intro pins s σ H Q I h
 refine Dd hb (cI (he pins s σ H _ I h) fun u s1 ⟨x,H1,I1,rx,a,C,dx,fs,v,ex,ea,c,n,l,q⟩=>?_)
 subst ex
 obtain rfl:u=Value.ref a:=rx
 exact wQ I1 ea c n l fun u' s2 I2 ru=>⟨v,H1,I2,ru,q⟩
theorem Hk (ha:PE X o ta) (hv:PE X value tv) (hs:swapsWith value (some (.Attribute o f pos')) pos.line X.env=pure false):PS X (.Assign [.Attribute o f pos'] value pos) (Lb X.K ta tv f):=by
 intro pins s σ H D I h
 refine plainObj_wpAny_Assign_Attribute (cI (hv pins s σ H _ I h) fun u s1 ⟨y,H1,I1,ry,q⟩=>cI (ha pins s1 σ H1 _ I1 q) fun ov s2 ⟨x,H2,I2,rx,a,C,dx,fs,ex,ea,c,n,l,q2⟩=>?_) hs
 subst ex
 obtain rfl:ov=Value.ref a:=rx
 exact xS I2 ea c n l ry fun s3 I3=>⟨σ,_,I3,q2⟩
end
section
variable {X:Cx} {pins:List (Addr × Obj)} {σ:St} {H:Hp} {s:Shared} {A:Around} {E:Value -> Shared -> Prop} {Q:Value -> Shared -> Prop} {c:Value} {b:Bool}
inductive nU (K:PySem.W.Frag) (H:Hp):V -> Value -> Prop where
 | non:nU K H .non (.type "NoneType")
 | bl (x:Bool):nU K H (.bl x) (.type "bool")
 | int (i:Int):nU K H (.int i) (.type "int")
 | str (x:Str):nU K H (.str x) (.type "str")
 | flt (x:UInt64):nU K H (.flt x) (.type "float")
 | lst {a:Addr} {xs:List V} (e:H a=some (.lst xs)):nU K H (.ref a) (.type "list")
 | frz {a:Addr} {o:Obj} {xs:List V} (e:H a=some (.frz o (.lst xs))):nU K H (.ref a) (.type "list")
 | tup {a:Addr} {xs:List V} (e:H a=some (.tup xs)):nU K H (.ref a) (.type "tuple")
 | dK {a:Addr} {kvs:List (Key × V)} (e:H a=some (.dK kvs)):nU K H (.ref a) (.type "dict")
 | dT {a:Addr} {kvs:List (List Key × V)} (e:H a=some (.dT kvs)):nU K H (.ref a) (.type "dict")
 | ins {a C dx:Addr} {fs:List (Str × V)} (e:H a=some (.ins C dx fs)) (cl:m7 K C) (ha:PySem.W.findIn K (.ref C) "__class__" = some (some (.builtin "object.__class__")))
   (hn:PySem.W.specialIn K (.builtin "object.__class__") "__get__" = some (some (.builtin "getset_descriptor.__get__"))) (htk:PySem.W.takesIn K (.builtin "object.__class__")=some true)
   (hm:PySem.W.mroIn K C (.type "object")=some true):nU K H (.ref a) (.ref C)
end
open PySem PySem.Spec PyProof.Rows
structure cY (k:Nat) (A:Around):Prop where
 hd:A.handled=none
 dp:A.depth + 3 * k + 5 < recursionLimit
 un:A.units + 16 * k + 200 < cLine
theorem cY.mono {j k:Nat} {A:Around} (r:cY k A) (h:j ≤ k):cY j A:=⟨r.hd,by have:=r.dp; omega,by have:=r.un; omega⟩
theorem cY.deeper {k:Nat} {A:Around} (r:cY (k + 1) A) (env:Env):cY k (A.deeper env):=
 ⟨r.hd,by have:=r.dp; show A.depth + 1 + 3 * k + 5 < _; omega,by have:=r.un; show A.units + 3 + 16 * k + 200 < _; omega⟩
theorem cY.in1 {k:Nat} {A:Around} (r:cY (k + 1) A):cY k A.in1:=
 ⟨r.hd,by have:=r.dp; show A.depth + 3 * k + 5 < _; omega,by have:=r.un; show A.units + 1 + 16 * k + 200 < _; omega⟩
theorem xq {A:Around} {C:Addr} {us:List Value} {kw:List (Str × Value)}:(A.under (.builtin "type.__call__" ⟨.ref C :: us,kw⟩)).depth=A.depth + 1:=by
 first | rfl | simp [Around.under,Code.weight,Code.isCreation,Code.isGuard,Code.isCaller,Code.frames,Code.isFrame,guardIds]
theorem xr {A:Around} {C:Addr} {us:List Value} {kw:List (Str × Value)}:(A.under (.builtin "type.__call__" ⟨.ref C :: us,kw⟩)).units=A.units + 1:=by
 first | rfl | simp [Around.under,Code.cUnits,Code.frames,Code.isFrame]
theorem cY.make {k:Nat} {A:Around} (r:cY (k + 1) A) (C:Addr) (us:List Value) (kw:List (Str × Value)):cY k (A.under (.builtin "type.__call__" ⟨.ref C :: us,kw⟩)):=
 ⟨r.hd,by have:=r.dp; rw [xq]; omega,by have:=r.un; rw [xr]; omega⟩
theorem cY.depth {k:Nat} {A:Around} (r:cY k A):A.depth < recursionLimit:=by have:=r.dp; omega
theorem cY.units {k:Nat} {A:Around} (r:cY k A):A.units + 64 < cLine:=by have:=r.un; omega
def JU:TA:=fun _ H Q=>Q [] H
def JQ (ta:TE) (tr:TA):TA:=fun σ H Q=>ta σ H fun x H1=>tr σ H1 fun xs H2=>Q (x :: xs) H2
section
variable {X:Cx} {e:Expr} {es:List Expr} {te:TE} {t:TA} {pos:Pos}
theorem jj:PA X [] JU:=fun _ _ _ _ H Q I h=>Calls.spliced_nil ⟨[],H,I,.nil,h⟩
theorem fF (ha:PE X e te) (hr:PA X es t) (hs:starEach (e :: es) X.env=(false,eval e X.env) :: starEach es X.env:=by rfl):PA X (e :: es) (JQ te t):=by
 intro pos pins s σ H Q I h
 rw [hs]
 show wpAny _ _ (spliced ((false,eval e X.env) :: backTo pos (starEach es X.env))) _ _ s
 refine Calls.spliced_cons (cI (ha pins s σ H _ I h) fun u s1 ⟨x,H1,I1,r1,q1⟩=>?_)
 exact cI (hr pos pins s1 σ H1 _ I1 q1) fun us s2 ⟨xs,H2,I2,r2,q2⟩=>⟨x :: xs,H2,I2,.cons r1 r2,q2⟩
def Lr (t:TA):TE:=fun σ H Q=>t σ H fun xs H1=>xs.length ≤ sizeLine /\ ∀ p,H1 p=none -> Q (.ref p) (upd H1 p (.tup xs))
def Ll (t:TA):TE:=fun σ H Q=>t σ H fun xs H1=>xs.length ≤ sizeLine /\ ∀ p,H1 p=none -> Q (.ref p) (upd H1 p (.lst xs))
theorem Cf {x1} (h:PA X es t):PE X (.Tuple es x1 pos) (Lr t):=by
 intro pins s σ H Q I hq
 refine wpAny_Tuple_spliced (cI (h pos pins s σ H _ I hq) fun us s1 ⟨xs,H1,I1,r,z,q⟩=>⟨by rw [<- r.length]; exact z,?_⟩)
 have hf:H1 s1.heap.objs.size=none:=I1.hok.fresh (Nat.le_refl _)
 refine ⟨.ref s1.heap.objs.size,upd H1 s1.heap.objs.size (.tup xs),I1.laid (t':=s1.toks) (fun b u e=>Heap.get?_push_of_some _ e) (Nat.le_refl _) ?_,rfl,q _ hf⟩
 exact ⟨z,us,r,⟨_,Heap.get?_push_size _ rfl,rfl,_,rfl⟩⟩
theorem xG (h:PA X es t):PE X (.List es pos) (Ll t):=by
 intro pins s σ H Q I hq
 refine wpAny_List_spliced (cI (h pos pins s σ H _ I hq) fun us s1 ⟨xs,H1,I1,r,z,q⟩=>⟨by rw [<- r.length]; exact z,?_⟩)
 have hf:H1 s1.heap.objs.size=none:=I1.hok.fresh (Nat.le_refl _)
 refine ⟨.ref s1.heap.objs.size,upd H1 s1.heap.objs.size (.lst xs),I1.laid (t':=s1.toks) (fun b u e=>Heap.get?_push_of_some _ e) (Nat.le_refl _) ?_,rfl,q _ hf⟩
 exact ⟨z,us,0,r,Heap.get?_push_size _ rfl⟩
end
abbrev Sp:=List V -> Hp -> VK -> XK -> Prop
abbrev yc:=List Env -> Hp -> Shared -> XK -> Value -> Shared -> Prop
structure pI (P:Program) (w:World) (K:PySem.W.Frag) (mg:Str -> Option Value) (base:Heap) (A:Around) (outer:List Env) (s:Shared) (H:Hp):Prop where
 frames:A.frames=some outer
 mod:Mod K mg base
 bs:∀ b o,base.get? b=some o -> s.heap.get? b=some o /\ H b=none
 bsz:base.objs.size ≤ s.heap.objs.size
 funs:s.heap.FunFrames base outer
 frf:∀ b ∈ nr outer,H b=none
 hok:mF P w H s.heap
 bare:AllBare s.gens
def CE (outer:List Env) (P:Program) (w:World) (H:Hp) (s:Shared) (Q:VK) (u:Value) (s':Shared):Prop:=
 ∃ v H',s'.os=s.os /\ AllBare s'.gens /\ Un (nr outer) [] H H' s.heap s'.heap /\ mF P w H' s'.heap /\ RelV v u /\ Q v H'
def CR (CX:yc) (outer:List Env) (P:Program) (w:World) (H:Hp) (s:Shared) (Q:VK) (E:XK) (r:Result) (s':Shared):Prop:=
 match r with
 | .ok (.ret u)=>CE outer P w H s Q u s'
 | .ok _=>False
 | .error e=>CX outer H s E e s'
structure eU (P:Program) (w:World) (K:PySem.W.Frag) (mg:Str -> Option Value) (base:Heap) (CX:yc) (k:Nat) (f:Addr) (fd:FuncData) (ps:List Str) (sp:Sp):Prop where
 len:∀ vs H Q E,sp vs H Q E -> vs.length=ps.length
 run:∀ (A:Around) (outer:List Env) (s:Shared) (H:Hp) (args:Args) (us:List Value) (vs:List V) (Q:VK) (E:XK),cY k A -> pI P w K mg base A outer s H -> BindsTo s fd args (ps.zip us) -> Vals vs us -> sp vs H Q E ->
  codeAny (model P w) A (.call (.ref f) args) (CR CX outer P w H s Q E) s
theorem eU.mono {P:Program} {w:World} {K:PySem.W.Frag} {mg:Str -> Option Value} {base:Heap} {CX:yc} {j k:Nat} {f:Addr} {fd:FuncData} {ps:List Str} {sp:Sp} (F:eU P w K mg base CX j f fd ps sp) (h:j ≤ k) :
  eU P w K mg base CX k f fd ps sp:=⟨F.len,fun A outer s H args us vs Q E hr=>F.run A outer s H args us vs Q E (hr.mono h)⟩
theorem eU.imp {P:Program} {w:World} {K:PySem.W.Frag} {mg:Str -> Option Value} {base:Heap} {CX:yc} {k:Nat} {f:Addr} {fd:FuncData} {ps:List Str} {sp sp':Sp} (F:eU P w K mg base CX k f fd ps sp)
  (h:∀ vs H Q E,sp' vs H Q E -> sp vs H Q E):eU P w K mg base CX k f fd ps sp':=
 ⟨fun vs H Q E q=>F.len vs H Q E (h _ _ _ _ q),fun A outer s H args us vs Q E hr he hb hv hs=>F.run A outer s H args us vs Q E hr he hb hv (h _ _ _ _ hs)⟩
theorem pI.make {P:Program} {w:World} {K:PySem.W.Frag} {mg:Str -> Option Value} {base:Heap} {A:Around} {outer:List Env} {s:Shared} {H:Hp} (e:pI P w K mg base A outer s H) (C:Addr) (us:List Value) (kw:List (Str × Value)) :
  pI P w K mg base (A.under (.builtin "type.__call__" ⟨.ref C :: us,kw⟩)) outer s H:=⟨by first | exact e.frames | (simpa [Around.under,Code.envs,Code.isFrame,pushEnvs] using e.frames),e.mod,e.bs,e.bsz,e.funs,e.frf,e.hok,e.bare⟩
theorem pI.in1 {P:Program} {w:World} {K:PySem.W.Frag} {mg:Str -> Option Value} {base:Heap} {A:Around} {outer:List Env} {s:Shared} {H:Hp} (e:pI P w K mg base A outer s H) :
  pI P w K mg base A.in1 outer s H:=⟨e.frames,e.mod,e.bs,e.bsz,e.funs,e.frf,e.hok,e.bare⟩
section
variable {X:Cx} {pins:List (Addr × Obj)} {σ:St} {H:Hp} {s s':Shared}
theorem Inv.env0 (I:Inv X pins σ H s):pI X.prog X.w X.K X.mg X.base X.A X.stack s H:=
 ⟨I.ok.frames,I.ok.mod,I.bs,Nat.le_trans I.ok.bsz I.sz,I.stack,I.stkFree,I.hok,I.bare⟩
theorem Inv.after {Q:VK} {u:Value} (I:Inv X pins σ H s) (h:CE X.stack X.prog X.w H s Q u s'):EP X pins σ Q u s':=by
 obtain ⟨v,H',os,bare,un,hok,r,q⟩:=h
 obtain ⟨hh,g,d,t,os'⟩:=s'
 obtain rfl:os'=s.os:=os
 exact ⟨v,H',I.call (h':=hh) (g':=g) (d':=d) (t':=t) (ch:=[]) un hok bare (fun b z=>absurd z (by simp)),r,q⟩
end
def JP (sp:Sp) (dvs:List V) (E:XK) (t:TA):TE:=fun σ H Q=>t σ H fun vs H1=>sp (vs ++ dvs) H1 Q E
def FF (C:Addr) (m:Str) (sp:Sp) (dvs:List V) (E:XK) (ta:TE) (t:TA):TE:=fun σ H Q=>ta σ H fun x H1=>∃ a dx fs,x=.ref a /\ H1 a=some (.ins C dx fs) /\ fs.lookup m=none /\
 t σ H1 fun vs H2=>sp (x :: (vs ++ dvs)) H2 Q E
def JS (C:Addr) (sp:Sp) (dvs:List V) (E:XK) (t:TA):TE:=fun σ H Q=>t σ H fun vs H1=>∀ x dx,H1 x=none -> H1 dx=none -> dx ≠ x ->
 sp (.ref x :: (vs ++ dvs)) (upd (upd H1 dx (.own x)) x (.ins C dx [])) (fun v H2=>v=.non /\ Q (.ref x) H2) E
def Binds (K:PySem.W.Frag) (fd:FuncData) (ps:List Str) (ds:List Value):Prop:=
 ∀ (s:Shared) (us:List Value),K.In s.heap -> (us ++ ds).length=ps.length -> BindsTo s fd ⟨us,[]⟩ (ps.zip (us ++ ds))
theorem Binds.all {K:PySem.W.Frag} {fd:FuncData} {ps:List Str} (h:∀ us:List Value,us.length=ps.length -> bindArgs fd ⟨us,[]⟩=pure (ps.zip us)):Binds K fd ps []:=fun s us _ hl=>by
 rw [List.append_nil] at hl ⊢
 exact .of_eq (h us hl)
def Passes (CX:yc) (X:Cx) (E:XK):Prop:=∀ (pins:List (Addr × Obj)) (σ:St) (H:Hp) (s:Shared) (e:Value) (s':Shared),Inv X pins σ H s -> CX X.stack H s E e s' -> X.xe e s'
section
variable {X:Cx} {CX:yc} {k:Nat} {f C:Addr} {fd:FuncData} {ps:List Str} {sp:Sp} {dvs:List V} {ds:List Value} {E:XK} {x m:Str} {p pos apos:Pos} {e o:Expr} {es:List Expr} {ta:TE} {t:TA}
theorem Cv {pins:List (Addr × Obj)} {σ:St} {H:Hp} {s:Shared} {Q:VK} {us:List Value} {vs:List V} (F:eU X.prog X.w X.K X.mg X.base CX k f fd ps sp) (hr:cY k X.A) (hb:Binds X.K fd ps ds) (hd:Vals dvs ds) (hx:Passes CX X E)
  (I:Inv X pins σ H s) (r:Vals vs us) (h:sp (vs ++ dvs) H Q E):wpAny (model X.prog X.w) X.A (call (.ref f) us) (EP X pins σ Q) X.xe s:=by
 have r2:Vals (vs ++ dvs) (us ++ ds):=r.append hd
 have hl:(us ++ ds).length=ps.length:=by rw [<- r2.length]; exact F.len _ _ _ _ h
 refine wpAny_call (codeAny_mono (F.run X.A X.stack s H ⟨us,[]⟩ (us ++ ds) (vs ++ dvs) Q E hr I.env0 (hb s us I.kIn hl) r2 h) fun r s' hq=>?_)
 cases r with
 | error e=>exact hx pins σ H s e s' I hq
 | ok fl =>
  cases fl with
  | ret u=>exact I.after hq
  | next=>exact False.elim hq
  | brk=>exact False.elim hq
  | cont=>exact False.elim hq
theorem yY (F:eU X.prog X.w X.K X.mg X.base CX k f fd ps sp) (hr:cY k X.A) (hg:Gl X x) (hm:X.mg x=some (.ref f)) (hk:PySem.W.keepIn X.K (.ref f)=true) (hb:Binds X.K fd ps ds) (hd:Vals dvs ds) (hx:Passes CX X E)
  (ha:PA X (e :: es) t) (hdb:(x == ("__debug__" : Str))=false:=by decide) (he:starEach (e :: es) X.env=(false,eval e X.env) :: starEach es X.env:=by rfl) (hpl:(backTo pos (starEach es X.env)).any (·.1)=false:=by rfl) :
  PE X (.Call (.Name x p) (e :: es) [] pos) (JP sp dvs E t):=by
 intro pins s σ H Q I h
 refine wpAny_Call_Name_kw (jE I hg hm ?_ hdb)
 refine PySem.W.callWith_K (h₀:=X.base) I.ok.mod.kin hk (cI (ha pos pins s σ H _ I h) fun us s1 ⟨vs,H1,I1,r,q⟩=>⟨I1.kIn,?_⟩) he hpl
 exact Cv F hr hb hd hx I1 r q
theorem Cd {pl:Sem Bool} (he:PE X o ta) (c:m7 X.K C) (hm:Meth X.K C m f) (F:eU X.prog X.w X.K X.mg X.base CX k f fd ps sp) (hr:cY k X.A) (hb:Binds X.K fd ps ds) (hd:Vals dvs ds) (hx:Passes CX X E)
  (ht:eval (.Call (.Attribute o m apos) [] [] pos) X.env=(do
   let ov <- eval o X.env
   standAt apos.atName
   let (f,first) <- holding [ov] (getMethod ov m pl)
   callWith pos f first (backTo pos (starEach [] X.env)) (backToKw pos (keywordEach [] X.env))):=by rfl) :
  PE X (.Call (.Attribute o m apos) [] [] pos) (FF C m sp dvs E ta JU):=by
 intro pins s σ H Q I h
 refine PySem.W.methodCall_KW (pl:=pl) (cI (he pins s σ H _ I h) fun u s1 ⟨x,H1,I1,rx,a,dx,fs,ex,ea,l,q⟩=>?_) ht
 subst ex
 obtain rfl:u=Value.ref a:=rx
 refine wR I1 ea c hm l ?_
 exact PySem.W.callWith_K0 (first:=[.ref a]) I1.kIn hm.kp (Cv (us:=[.ref a]) (vs:=[.ref a]) F hr hb hd hx I1 (.cons rfl .nil) q)
structure Mk (K:PySem.W.Frag) (C f:Addr):Prop where
 makes:PySem.W.makesIn K C=true
 init:PySem.W.findIn K (.ref C) "__init__" = some (some (.ref f))
 fn:PySem.W.isFn K (.ref f)=true
 kp:PySem.W.keepIn K (.ref C)=true
theorem Cw {pins:List (Addr × Obj)} {σ:St} {H:Hp} {s:Shared} {Q:VK} {us:List Value} {vs:List V} (M:Mk X.K C f) (F:eU X.prog X.w X.K X.mg X.base CX k f fd ps sp) (hr:cY (k + 1) X.A) (hb:Binds X.K fd ps ds) (hd:Vals dvs ds)
  (hx:Passes CX X E) (I:Inv X pins σ H s) (r:Vals vs us)
  (h:∀ x dx,H x=none -> H dx=none -> dx ≠ x -> sp (.ref x :: (vs ++ dvs)) (upd (upd H dx (.own x)) x (.ins C dx [])) (fun v H2=>v=.non /\ Q (.ref x) H2) E) :
  wpAny (model X.prog X.w) X.A (call (.ref C) us) (EP X pins σ Q) X.xe s:=by
 have hq:=h (s.heap.objs.size + 1) s.heap.objs.size (I.hok.fresh (Nat.le_succ _)) (I.hok.fresh (Nat.le_refl _)) (Nat.ne_of_lt (Nat.lt_succ_self _))
 have I2:=Inv.made (C:=C) I
 have r2:Vals (V.ref (s.heap.objs.size + 1) :: (vs ++ dvs)) (Value.ref (s.heap.objs.size + 1) :: (us ++ ds)):=.cons rfl (r.append hd)
 have hl:(Value.ref (s.heap.objs.size + 1) :: us ++ ds).length=ps.length:=by
  have e:=r2.length
  rw [F.len _ _ _ _ hq] at e
  exact e.symm
 refine wpAny_call (BV (f:=f) I.kIn M.makes M.init (beq_iff_eq.mp M.fn) (codeAny_mono (F.run _ X.stack _ _ ⟨Value.ref (s.heap.objs.size + 1) :: us,[]⟩ (Value.ref (s.heap.objs.size + 1) :: (us ++ ds)) _ _ E (hr.make C us [])
  (I2.env0.make C us []) (hb _ (Value.ref (s.heap.objs.size + 1) :: us) I2.kIn hl) r2 hq) fun r s' hq'=>?_))
 cases r with
 | error e=>exact hx pins σ _ _ e s' I2 hq'
 | ok fl =>
  cases fl with
  | ret u =>
   obtain ⟨v,H',I3,rv,ev,q3⟩:=I2.after hq'
   subst ev
   exact ⟨rv,⟨V.ref (s.heap.objs.size + 1),H',I3,rfl,q3⟩⟩
  | next=>exact False.elim hq'
  | brk=>exact False.elim hq'
  | cont=>exact False.elim hq'
theorem Eg (M:Mk X.K C f) (F:eU X.prog X.w X.K X.mg X.base CX k f fd ps sp) (hr:cY (k + 1) X.A) (hg:Gl X x) (hm:X.mg x=some (.ref C)) (hb:Binds X.K fd ps ds) (hd:Vals dvs ds) (hx:Passes CX X E)
  (ha:PA X (e :: es) t) (hdb:(x == ("__debug__" : Str))=false:=by decide) (he:starEach (e :: es) X.env=(false,eval e X.env) :: starEach es X.env:=by rfl) (hpl:(backTo pos (starEach es X.env)).any (·.1)=false:=by rfl) :
  PE X (.Call (.Name x p) (e :: es) [] pos) (JS C sp dvs E t):=by
 intro pins s σ H Q I h
 refine wpAny_Call_Name_kw (jE I hg hm ?_ hdb)
 refine PySem.W.callWith_K (h₀:=X.base) I.ok.mod.kin M.kp (cI (ha pos pins s σ H _ I h) fun us s1 ⟨vs,H1,I1,r,q⟩=>⟨I1.kIn,?_⟩) he hpl
 exact Cw M F hr hb hd hx I1 r q
end
section
variable {X:Cx} {CX:yc} {k:Nat} {f C:Addr} {fd:FuncData} {ps ks:List Str} {sp:Sp} {E:XK} {x m:Str} {p pos apos kpos:Pos} {e o:Expr} {es:List Expr} {kws:List Keyword} {te ta:TE} {t tk:TA} {nm:Option Str}
structure Kv (K:PySem.W.Frag) (fd:FuncData) (ps ks:List Str) (g:List Value -> List Value -> List Value) (gV:List V -> List V -> List V):Prop where
 to:∀ (s:Shared) (us ws:List Value),K.In s.heap -> (g us ws).length=ps.length -> BindsTo s fd ⟨us,ks.zip ws⟩ (ps.zip (g us ws))
 rel:∀ {vs:List V} {us:List Value} {zs:List V} {ws:List Value},Vals vs us -> Vals zs ws -> Vals (gV vs zs) (g us ws)
variable {g:List Value -> List Value -> List Value} {gV:List V -> List V -> List V}
end
structure aL (N P:List Str) (sc:Scope):Prop where
 kind:sc.kind=.function
 co:sc.isCoroutine=false
 gen:sc.isGenerator=false
 nd:N.Nodup
 pre:N.take P.length=P
 par:∀ x ∈ P,sc.names.lookup x=some .local \/ sc.names.lookup x=some .cell
 nofree:∀ y ∈ sc.names,y.2 ≠ .free
theorem qk {kindOf:Str -> Option NameKind} {x:Str}:∀ {binds:List (Str × Value)} {m:Str -> Option Value},(∀ v,(x,v) ∉ binds) -> bindL kindOf binds m x=m x
 | [],_,_=>rfl
 | (n,v) :: r,m,h=>by
  unfold bindL
  rw [qk fun w hw=>h w (List.mem_cons_of_mem _ hw)]
  split
  ·have:x ≠ n:=by rintro rfl; exact h v List.mem_cons_self
   simp [this]
  ·rfl
theorem qi {kindOf:Str -> Option NameKind} {x:Str}:∀ {binds:List (Str × Value)} {m:Str -> Option Value},(∀ v,(x,v) ∉ binds) -> bindC kindOf binds m x=m x
 | [],_,_=>rfl
 | (n,v) :: r,m,h=>by
  unfold bindC
  rw [qi fun w hw=>h w (List.mem_cons_of_mem _ hw)]
  split
  ·rfl
  ·have:x ≠ n:=by rintro rfl; exact h v List.mem_cons_self
   simp [this]
theorem qj {kindOf:Str -> Option NameKind} {x:Str} {v:Value}:∀ {P:List Str} {vs:List Value} {i:Nat} {m:Str -> Option Value},P.Nodup -> P[i]? = some x -> vs[i]? = some v -> kindOf x=some .local ->
  bindL kindOf (P.zip vs) m x=some v
 | [],_,_,_,_,h,_,_=>by simp at h
 | _ :: _,[],_,_,_,_,h,_=>by simp at h
 | p :: P,w :: vs,0,m,nd,h1,h2,hk=>by
  simp at h1 h2; subst h1; subst h2
  show bindL kindOf ((p,w) :: P.zip vs) m p=_
  unfold bindL
  rw [qk fun v hv=>(List.nodup_cons.mp nd).1 (List.of_mem_zip hv).1,if_pos hk]
  simp
 | p :: P,w :: vs,i + 1,m,nd,h1,h2,hk=>by
  show bindL kindOf ((p,w) :: P.zip vs) m x=_
  unfold bindL
  exact qj (i:=i) (List.nodup_cons.mp nd).2 (by simpa using h1) (by simpa using h2) hk
theorem qh {kindOf:Str -> Option NameKind} {x:Str} {v:Value}:∀ {P:List Str} {vs:List Value} {i:Nat} {m:Str -> Option Value},P.Nodup -> P[i]? = some x -> vs[i]? = some v -> kindOf x ≠ some .local ->
  bindC kindOf (P.zip vs) m x=some v
 | [],_,_,_,_,h,_,_=>by simp at h
 | _ :: _,[],_,_,_,_,h,_=>by simp at h
 | p :: P,w :: vs,0,m,nd,h1,h2,hk=>by
  simp at h1 h2; subst h1; subst h2
  show bindC kindOf ((p,w) :: P.zip vs) m p=_
  unfold bindC
  rw [qi fun v hv=>(List.nodup_cons.mp nd).1 (List.of_mem_zip hv).1,if_neg hk]
  simp
 | p :: P,w :: vs,i + 1,m,nd,h1,h2,hk=>by
  show bindC kindOf ((p,w) :: P.zip vs) m x=_
  unfold bindC
  exact qh (i:=i) (List.nodup_cons.mp nd).2 (by simpa using h1) (by simpa using h2) hk
def start (N:List Str) (vs:List V):St:=vs.map some ++ List.replicate (N.length - vs.length) none
def lS (CX:yc) (P:Program) (w:World) (K:PySem.W.Frag) (mg:Str -> Option Value) (base:Heap) (N:List Str) (qual:Str) (scope:Scope) (f:Addr) (cd:Value) (A:Around) (outer:List Env) (s:Shared) (H:Hp) (E:XK):Cx where
 prog:=P
 w:=w
 K:=K
 mg:=mg
 base:=base
 A:=A.deeper (envOfC qual scope s.heap.objs.size f cd)
 N:=N
 s₀:=s
 H₀:=H
 env:=envOfC qual scope s.heap.objs.size f cd
 outer:=outer
 stack:=envOfC qual scope s.heap.objs.size f cd :: outer
 ex:=[]
 calm:=true
 fn:=fun _=>true
 pn:=[]
 xe:=fun e s'=>wpAny (model P w) (A.deeper (envOfC qual scope s.heap.objs.size f cd)) (leaving (envOfC qual scope s.heap.objs.size f cd) e) (fun _ s''=>CX outer H s E e s'') (fun e' s''=>CX outer H s E e' s'') s'
theorem uy {sc:Scope} {n:Nat} {x:Str} (h:sc.names.lookup x=some .cell):∃ c,(cellsFrom n sc.names []).lookup x=some c:=by
 have q:=PySem.W.cellsFrom_some sc.names n [] (.inl h)
 exact Option.isSome_iff_exists.mp q
theorem Ac {CX:yc} {P:Program} {w:World} {K:PySem.W.Frag} {mg:Str -> Option Value} {base:Heap} {N ps:List Str} {qual:Str} {scope:Scope} {f:Addr} {cd:Value} {A:Around} {outer:List Env} {s s1:Shared} {H:Hp} {E:XK} {us:List Value} {vs:List V}
  (S:aL N ps scope) (hd:A.handled=none) (e0:pI P w K mg base A outer s H) (hl:vs.length=ps.length) (r:Vals vs us)
  (x:InCallC s s.heap.objs.size (bindL (envOfC qual scope s.heap.objs.size f cd).kindOf (ps.zip us) fun _=>none) (cellsFrom (s.heap.objs.size + 1) scope.names []) (bindC (envOfC qual scope s.heap.objs.size f cd).kindOf (ps.zip us) fun _=>none) s1) :
  Inv (lS CX P w K mg base N qual scope f cd A outer s H E) [] (start N vs) H s1:=by
 have hpl:ps.length ≤ N.length:=by have:=congrArg List.length S.pre; rw [List.length_take] at this; omega
 obtain ⟨h1,tk,rfl,hk⟩:=x.done
 have noA:∀ b:Addr,b ∉ (lS CX P w K mg base N qual scope f cd A outer s H E).ex:=fun b z=>absurd (show b ∈ ([]:List Addr) from z) (by simp)
 refine ⟨⟨e0.mod,S.kind,rfl,rfl,Nat.le_refl _,fun y z c h1 h2=>?_,fun y hy=>?_,fun y c _ h=>?_,fun _=>hd,Around.frames_deeper e0.frames,.inr ⟨rfl,rfl⟩,fun b z=>absurd z (noA b),e0.bs,e0.bsz,fun b _ _=>noA b,fun b z=>absurd z (noA b),e0.funs,e0.frf⟩,
  rfl,e0.bare,Un.kept hk,⟨_,x.toInCall.ns,fun i y v h1 h2 h3=>?_⟩,fun y c h=>⟨_,x.cell y c h⟩,e0.hok.fresh (Nat.le_refl _),fun y c h=>?_,fun p hp=>absurd (show p ∈ ([]:List (Addr × Obj)) from hp) (by simp),e0.hok.kept hk,?_⟩
 ·exact name_of_addr x.apart (PySem.mem_of_lookup h1) (PySem.mem_of_lookup h2)
 ·have hy:scope.names.lookup y=some .cell \/ scope.names.lookup y=some .free:=hy
  rcases hy with hy | hy
  ·exact uy hy
  ·exact absurd rfl (S.nofree _ (PySem.mem_of_lookup hy))
 ·exact Nat.le_of_lt (x.above y c (PySem.mem_of_lookup h))
 ·have hi:i < vs.length:=by
   unfold start at h2
   by_cases hi:i < vs.length
   ·exact hi
   ·rw [List.getElem?_append_right (by simpa using hi)] at h2
    rw [List.getElem?_replicate] at h2
    split at h2 <;> cases h2
  have ha:vs[i]? = some v:=by
   unfold start at h2
   rw [List.getElem?_append_left (by simpa using hi),List.getElem?_map] at h2
   cases e:vs[i]? with
   | none=>rw [e] at h2; cases h2
   | some a=>rw [e] at h2; cases h2; rfl
  obtain ⟨u,hu,rv⟩:=r.get ha
  have hp:ps[i]? = some y:=by
   rw [<- S.pre,List.getElem?_take_of_lt (by omega)]; exact h1
  have ndP:ps.Nodup:=by rw [<- S.pre]; exact S.nd.sublist (List.take_sublist _ _)
  refine ⟨u,rv,?_⟩
  rcases S.par y (List.mem_of_getElem? hp) with k | k
  ·exact .inl ⟨k,qj ndP hp hu k⟩
  ·obtain ⟨c,e⟩:=uy (n:=s.heap.objs.size + 1) k
   refine .inr ⟨.inl k,c,e,?_⟩
   have q:=x.cell y c e
   rw [qh ndP hp hu (by show scope.names.lookup y ≠ _; rw [k]; decide)] at q
   exact q
 ·exact e0.hok.fresh (Nat.le_of_lt (x.above y c (PySem.mem_of_lookup h)))
 ·unfold start
  show _=N.length
  rw [List.length_append,List.length_map,List.length_replicate]
  omega
theorem Fj {CX:yc} {P:Program} {w:World} {K:PySem.W.Frag} {mg:Str -> Option Value} {base:Heap} {k:Nat} {f:Addr} {name qual:Str} {params:Arguments} {body:List Stmt} {scope:Scope} {dV kV doc pm cdv ct oc:Value} {an od:Option Addr}
  {osl:Array (Option Value)} {N ps:List Str} {sp:Sp} (lk:K.lookup f=some ⟨oc,od,.func (PySem.W.fnOf name qual params body scope dV kV doc pm an cdv ct),osl⟩) (hcd:PySem.W.codeIn K cdv qual=true) (S:aL N ps scope)
  (len:∀ vs H Q E,sp vs H Q E -> vs.length=ps.length)
  (hbody:∀ (A:Around) (outer:List Env) (s:Shared) (H:Hp) (vs:List V) (Q:VK) (E:XK),cY k (A.deeper (envOfC qual scope s.heap.objs.size f cdv)) -> sp vs H Q E ->
   ∃ t,iX (lS CX P w K mg base N qual scope f cdv A outer s H E) body t /\ t { nx:=fun _ H'=>Q .non H',rt:=Q } (start N vs) H) :
  eU P w K mg base CX (k + 1) f (PySem.W.fnOf name qual params body scope dV kV doc pm an cdv ct) ps sp:=by
 refine ⟨len,fun A outer s H args us vs Q E hr e0 hb r hsp=>?_⟩
 have hl:=len _ _ _ _ hsp
 have KX:K.In s.heap:=e0.mod.kin.keeps fun b o e=>(e0.bs b o e).1
 have lim:s.heap.NoLimit:=e0.mod.nolimit.keeps fun b o e=>(e0.bs b o e).1
 have hkind:∀ y ∈ ps.zip us,scope.names.lookup y.1=some .local \/ (scope.names.lookup y.1=some .cell /\ ((cellsFrom (s.heap.objs.size + 1) scope.names []).lookup y.1).isSome=true):=fun ⟨n,v⟩ hy=>by
  rcases S.par n (List.of_mem_zip hy).1 with q | q
  ·exact .inl q
  ·exact .inr ⟨q,PySem.W.cellsFrom_some _ _ _ (.inl q)⟩
 refine codeAny_call_function hr.depth (KX _ _ lk) rfl S.co S.gen rfl (PySem.W.codeRec_of KX hcd) (hb _ _ _ _ ?_)
 refine wpAny_newFunctionEnv_cells S.kind hkind fun env he s1 x=>?_
 subst he
 refine ⟨lim.keeps x.toInCall.keep,codeAny_func ?_⟩
 obtain ⟨t,ht,hq⟩:=hbody A outer s H vs Q E (hr.deeper _) hsp
 have I:Inv (lS CX P w K mg base N qual scope f cdv A outer s H E) [] (start N vs) H s1:=Ac S hr.hd e0 hl r x
 refine wpAny_mono (ht [] s1 (start N vs) H _ I hq) (fun fl s' hs=>?_) fun e s' hs=>hs
 have fin:∀ {σ':St} {H':Hp} {v:V} {u:Value},Inv (lS CX P w K mg base N qual scope f cdv A outer s H E) [] σ' H' s' -> RelV v u -> Q v H' -> CE outer P w H s Q u s':=
  fun {σ' H' v u} J rv q=>⟨v,H',J.os,J.bare,J.base,J.hok,rv,q⟩
 cases fl with
 | ret u =>
  obtain ⟨v,σ',H',J,rv,q⟩:=hs
  exact fin J rv q
 | next =>
  obtain ⟨σ',H',J,q⟩:=hs
  exact fin (v:=V.non) (u:=Value.none) J rfl q
 | brk =>
  obtain ⟨_,_,_,q⟩:=hs
  exact False.elim q
 | cont =>
  obtain ⟨_,_,_,q⟩:=hs
  exact False.elim q
open PySem PySem.Spec PyProof.Rows
section
variable {X:Cx} {x:Str} {p pos:Pos} {e:Expr} {es:List Expr} {t:TA} {id T:String} {r:List V -> Hp -> VK -> Prop}
def LJ (r:List V -> Hp -> VK -> Prop) (t:TA):TE:=fun σ H Q=>t σ H fun vs H1=>r vs H1 Q
theorem vD (hc:eW X (.builtin id) r) (hg:Gl X x) (hm:X.mg x=none) (hv:bootBuiltins x=some (.builtin id)) (ha:PA X (e :: es) t) (hn:x ≠ "__name__" := by decide) (hdb:(x == ("__debug__" : Str))=false:=by decide)
  (he:starEach (e :: es) X.env=(false,eval e X.env) :: starEach es X.env:=by rfl) (hpl:(backTo pos (starEach es X.env)).any (·.1)=false:=by rfl):PE X (.Call (.Name x p) (e :: es) [] pos) (LJ r t):=by
 intro pins s σ H Q I h
 refine wpAny_Call_Name_kw (jY I hg hm hv ?_ hn hdb)
 exact PyProof.Rows.callWith_builtin1 (cI (ha pos pins s σ H _ I h) fun us s1 ⟨vs,H1,I1,r1,q1⟩=>hc pins s1 σ H1 vs us Q I1 r1 q1) he hpl
theorem qD (hc:eW X (.type T) r) (hg:Gl X x) (hm:X.mg x=none) (hv:bootBuiltins x=some (.type T)) (ha:PA X (e :: es) t) (hn:x ≠ "__name__" := by decide) (hdb:(x == ("__debug__" : Str))=false:=by decide)
  (he:starEach (e :: es) X.env=(false,eval e X.env) :: starEach es X.env:=by rfl) (hpl:(backTo pos (starEach es X.env)).any (·.1)=false:=by rfl):PE X (.Call (.Name x p) (e :: es) [] pos) (LJ r t):=by
 intro pins s σ H Q I h
 refine wpAny_Call_Name_kw (jY I hg hm hv ?_ hn hdb)
 exact PyProof.Rows.callWith_type1 (cI (ha pos pins s σ H _ I h) fun us s1 ⟨vs,H1,I1,r1,q1⟩=>hc pins s1 σ H1 vs us Q I1 r1 q1) he hpl
end
end L2
namespace HT
open PySem PyProof.Rows
section
open PySem.SeqAt
open PySem.AutoSeq1 (wpAny_loadPart')
open PySem.MeetsSeq PySem.MeetsSeq2 PySem.MeetsSeq3
end
section
variable {prog:Program} {w:World} {A:Around} {E:Value -> Shared -> Prop} {s:Shared}
theorem Di {t b:Addr} {vs ws:List Value} {Q:Value -> Shared -> Prop} (ht:IsTup s.heap t vs.toArray) (hb:IsTup s.heap b ws.toArray) (hv:vs ≠ [])
  (h1:ws=[] -> Q (.ref t) s) (h2:ws ≠ [] -> Q (.ref s.heap.objs.size) { s with heap:=s.heap.push { cls:=.type "tuple", data:=.seq (vs ++ ws).toArray } })
  (hsz:vs.length + ws.length ≤ sizeLine):wpAny (model prog w) A (binaryOp .Add (.ref t) (.ref b)) Q E s:=by
 obtain ⟨⟨cls,dd,data,sl⟩,ho,hc,n,hd⟩:=id ht
 obtain ⟨⟨cls2,dd2,data2,sl2⟩,ho2,hc2,n2,hd2⟩:=id hb
 simp only at hc hd hc2 hd2
 subst hc hd hc2 hd2
 have e:vs.toArray ++ ws.toArray=(vs ++ ws).toArray:=by simp
 by_cases hw:ws=[]
 ·exact concat_meets ⟨_,ho,rfl⟩ ⟨_,ho2,rfl⟩ noFill_tuple_add seq_tuple_add PySem.F.slot_tuple_add PySem.F.entry_tuple_add (PySem.F.args_tuple_add_2 _ _)
   (tuple_addW1 t b vs.toArray ws.toArray n n2 dd dd2 sl sl2 (by simpa using hv) (by simp [hw])) ⟨ho,ho2,h1 hw⟩
 ·refine concat_meets ⟨_,ho,rfl⟩ ⟨_,ho2,rfl⟩ noFill_tuple_add seq_tuple_add PySem.F.slot_tuple_add PySem.F.entry_tuple_add (PySem.F.args_tuple_add_2 _ _)
   (tuple_addW2 t b vs.toArray ws.toArray n n2 dd dd2 sl sl2 (by simpa using hv) (by simpa using hw) (by rw [List.size_toArray,List.size_toArray]; exact hsz)) ⟨ho,ho2,?_⟩
  rw [e]
  exact h2 hw
def eT (n d:Nat):Option Int -> Nat
 | none=>d
 | some v=>if v < 0 then (v + (n:Int)).toNat else min v.toNat n
theorem Cy (n d:Nat):eT n d none=d:=rfl
theorem tJ (n d k:Nat):eT n d (some (k:Int))=min k n:=by
 show (if (k:Int) < 0 then ((k:Int) + (n:Int)).toNat else min (k:Int).toNat n)=min k n
 rw [if_neg (by omega),Int.toNat_natCast]
theorem Hq (n d:Nat) (hd:d ≤ n) (o:Option Int):eT n d o ≤ n:=by
 cases o with
 | none=>exact hd
 | some v =>
  show (if v < 0 then (v + (n:Int)).toNat else min v.toNat n) ≤ n
  by_cases hv:v < 0
  ·rw [if_pos hv]; omega
  ·rw [if_neg hv]; exact Nat.min_le_right _ _
theorem yj (v:Int) (n d:Nat):(if v < 0 then max (v + (n:Int)) 0 else min v (n:Int))=((eT n d (some v):Nat):Int):=by
 show (if v < 0 then max (v + (n:Int)) 0 else min v (n:Int))=(((if v < 0 then (v + (n:Int)).toNat else min v.toNat n):Nat):Int)
 by_cases hv:v < 0
 ·simp only [if_pos hv]; omega
 ·simp only [if_neg hv]; omega
theorem wk (lo hi:Option Int) (n:Nat):Builtin.Slice.sliceAdjust lo hi 1 (n:Int)=(((eT n 0 lo:Nat):Int),((eT n n hi:Nat):Int)):=by
 have h1:¬ ((1:Int) < 0):=by omega
 unfold Builtin.Slice.sliceAdjust
 simp only [h1,if_false]
 refine Prod.ext ?_ ?_
 ·cases lo with
  | none=>rfl
  | some v=>exact yj v n 0
 ·cases hi with
  | none=>rfl
  | some v=>exact yj v n n
theorem xI (i j:Nat):Builtin.Slice.slicePlaces (i:Int) (j:Int) 1=j - i:=by
 unfold Builtin.Slice.slicePlaces
 have h1:(1:Int) > 0:=by omega
 simp only [h1,if_true,Int.ediv_one]
 split <;> omega
theorem pe {v:Value} {o:Option Int} {Q:Option Int -> Shared -> Prop} (p:IsPart v o) (h:Q o s):wpAny (model prog w) A (Builtin.Slice.slicePartIndex v) Q E s:=by
 cases p with
 | none=>exact slicePart_none h
 | int i t=>exact slicePart_int h
theorem mw {sl:Addr} {vl vu:Value} {lo hi:Option Int} {n:Nat} {Q:Int × Int × Nat -> Shared -> Prop} (hs:s.heap.IsSliceOf sl vl vu .none) (pl:IsPart vl lo) (pu:IsPart vu hi)
  (h:Q (((eT n 0 lo:Nat):Int),1,eT n n hi - eT n 0 lo) s):wpAny (model prog w) A (Builtin.Slice.sliceApplied (.ref sl) (pure (n:Int))) Q E s:=by
 obtain ⟨os,hos,hcs,hds⟩:=id hs
 unfold Builtin.Slice.sliceApplied Builtin.Slice.sliceFields
 refine wpAny_bind (wpAny_bind (wpAny_field hos hds (x:=vl) rfl (wpAny_bind (wpAny_field hos hds (x:=vu) rfl (wpAny_bind (wpAny_field hos hds (x:=.none) rfl (wpAny_pure ?_)))))))
 refine wpAny_bind (slicePart_none ?_)
 show wpAny _ _ (if ((1:Int) == 0)=true then _ else _) _ _ s
 rw [if_neg (by decide)]
 refine wpAny_bind (pe pl (wpAny_bind (pe pu (wpAny_bind (wpAny_pure ?_)))))
 show wpAny _ _ (match Builtin.Slice.sliceAdjust lo hi 1 (n:Int) with | (lo,hi)=>pure (lo,(1:Int),Builtin.Slice.slicePlaces lo hi 1)) _ _ s
 rw [wk lo hi n]
 show wpAny _ _ (pure (((eT n 0 lo:Nat):Int),(1:Int),Builtin.Slice.slicePlaces ((eT n 0 lo:Nat):Int) ((eT n n hi:Nat):Int) 1)) _ _ s
 rw [xI]
 exact wpAny_pure h
theorem Cj (xs:Array Value) (i k:Nat):((List.range k).filterMap fun (m:Nat)=>xs[((i:Int) + (m:Int) * 1).toNat]?).toArray=((xs.toList.drop i).take k).toArray:=by
 have e:(fun (m:Nat)=>xs[((i:Int) + (m:Int) * 1).toNat]?)=fun m=>xs[i + m]?:=by
  funext m
  have:((i:Int) + (m:Int) * 1).toNat=i + m:=by omega
  rw [this]
 rw [e]
 have:=pick_run xs i k
 rw [List.filterMap_map] at this
 have e2:((fun x=>xs[x]?) ∘ fun x=>i + x)=fun m=>xs[i + m]?:=rfl
 rw [e2] at this
 rw [this]
theorem kJ {t sl:Addr} {items:Array Value} {vl vu:Value} {lo hi:Option Int} {Q:Value -> Shared -> Prop} (ht:IsTup s.heap t items) (hs:s.heap.IsSliceOf sl vl vu .none) (pl:IsPart vl lo) (pu:IsPart vu hi)
  (hw:¬ (eT items.size 0 lo=0 /\ eT items.size items.size hi=items.size))
  (h:Q (.ref s.heap.objs.size) { s with heap:=s.heap.push { cls:=.type "tuple", data:=.seq ((items.toList.drop (eT items.size 0 lo)).take (eT items.size items.size hi - eT items.size 0 lo)).toArray } })
  (hsz:items.size ≤ sizeLine):wpAny (model prog w) A (getItem (.ref t) (.ref sl)) Q E s:=by
 have htake:sizeOk (.seq ((items.toList.drop (eT items.size 0 lo)).take (eT items.size items.size hi - eT items.size 0 lo)).toArray):=by
  show ((items.toList.drop (eT items.size 0 lo)).take (eT items.size items.size hi - eT items.size 0 lo)).toArray.size ≤ sizeLine
  rw [List.size_toArray,List.length_take,List.length_drop,Array.length_toList]
  omega
 have hj:eT items.size items.size hi ≤ items.size:=Hq _ _ (Nat.le_refl _) hi
 obtain ⟨os,hos,hcs,hds⟩:=id hs
 have hTs:s.TypeIs (.ref sl) "slice" := ⟨os,hos,hcs⟩
 unfold getItem
 try with_reducible refine wpAny_holding ?_
 first | refine wpAny_bind (wpAny_pure ?_) | skip
 refine wpAny_bind (wpAny_sequenceKey ht.typeIs (by decide) ?_)
 refine wpAny_bind (wpAny_callSpecial?_slot (name:=Str.ofString "__getitem__") ht.typeIs PyProof.Rows.slot_tuple_getitem
  (wpAny_call_entry PyProof.Rows.slot_tuple_getitem ht.typeIs entry_tuple_getitem ?_ (args_tuple_getitem _ _)))
 show wpAny _ _ (Builtin.Tuple.tupleItemsOf (.ref t) >>= _) _ _ s
 refine wpAny_bind (tupleItemsOf_ ht ?_)
 refine wpAny_bind (wpAny_typeOf hTs ?_)
 rw [if_pos (by decide)]
 refine wpAny_bind (mw hs pl pu ?_)
 have hno:¬ ((((eT items.size 0 lo:Nat):Int) == 0 && (1:Int) == 1 && (eT items.size items.size hi - eT items.size 0 lo) == items.size)=true):=by
  intro q
  rw [Bool.and_eq_true,Bool.and_eq_true] at q
  have q1:((eT items.size 0 lo:Nat):Int)=0:=eq_of_beq q.1.1
  have q2:eT items.size items.size hi - eT items.size 0 lo=items.size:=eq_of_beq q.2
  exact hw ⟨by omega,by omega⟩
 show wpAny _ _ (if (((eT items.size 0 lo:Nat):Int) == 0 && (1:Int) == 1 && (eT items.size items.size hi - eT items.size 0 lo) == items.size)=true then _ else _) _ _ s
 rw [if_neg hno,Cj]
 first
  | exact wpAny_bind (m:=Builtin.Tuple.tupleExact _) (wpAny_newObj_type (wpAny_pure ⟨_,rfl,wpAny_pure h⟩) htake)
  | exact wpAny_bind (m:=Builtin.Tuple.tupleExact _) (wpAny_newObj_type (wpAny_bind (wpAny_pure (wpAny_pure ⟨_,rfl,wpAny_pure h⟩))) htake)
  | exact wpAny_bind (wpAny_bind (m:=Builtin.Tuple.tupleExact _) (wpAny_newObj_type (wpAny_pure (wpAny_pure ⟨_,rfl,wpAny_pure h⟩)) htake))
  | exact wpAny_bind (wpAny_bind (m:=Builtin.Tuple.tupleExact _) (wpAny_newObj_type (wpAny_pure ⟨_,rfl,wpAny_pure h⟩) htake))
end
end HT
namespace L2
open PySem PySem.Spec PyProof.Rows
abbrev TO:=St -> Hp -> (Option Int -> Hp -> Prop) -> Prop
def PO (X:Cx) (e:Option Expr) (t:TO):Prop:=
 ∀ (pins:List (Addr × Obj)) (s:Shared) (σ:St) (H:Hp) (Q:Option Int -> Hp -> Prop),Inv X pins σ H s -> t σ H Q ->
  wpAny (model X.prog X.w) X.A (evalPart e X.env) (fun u s'=>∃ o H',Inv X pins σ H' s' /\ IsPart u o /\ Q o H') X.xe s
def EN:TO:=fun _ H Q=>Q none H
def JY (t:TE):TO:=fun σ H Q=>t σ H fun x H1=>∃ i,x=.int i /\ Q (some i) H1
section
variable {X:Cx} {e:Expr} {te:TE} {lo hi:Option Expr} {tl th:TO} {pos p2:Pos}
theorem Ek:PO X none EN:=by
 intro pins s σ H Q I h
 rw [evalPart_none]
 exact wpAny_pure ⟨none,H,I,.none,h⟩
theorem El (h:PE X e te):PO X (some e) (JY te):=by
 intro pins s σ H Q I hw
 rw [evalPart_some]
 refine cI (h pins s σ H _ I hw) fun u s1 ⟨x,H1,I1,r1,q1⟩=>?_
 obtain ⟨i,rfl,q⟩:=q1
 obtain ⟨t,rfl⟩:=r1
 exact ⟨some i,H1,I1,.int i t,q⟩
def E9 (X:Cx) (r:V -> Option Int -> Option Int -> Hp -> VK -> Prop):Prop:=
 ∀ (pins:List (Addr × Obj)) (s:Shared) (σ:St) (H:Hp) (x:V) (v vl vu:Value) (lo hi:Option Int) (sl:Addr) (Q:VK),Inv X pins σ H s -> RelV x v -> s.heap.IsSliceOf sl vl vu .none -> IsPart vl lo -> IsPart vu hi -> r x lo hi H Q ->
  ∃ T id,typeLookup (.type T) "__getitem__" = pure (some (.builtin id)) /\ s.TypeIs v T /\ wpAny (model X.prog X.w) X.A (getItem v (.ref sl)) (EP X pins σ Q) X.xe s
theorem E9.or {r r':V -> Option Int -> Option Int -> Hp -> VK -> Prop} (h:E9 X r) (h':E9 X r'):E9 X (fun x lo hi H Q=>r x lo hi H Q \/ r' x lo hi H Q):=by
 intro pins s σ H x v vl vu lo hi sl Q I rx hs pl pu q
 rcases q with q | q
 ·exact h pins s σ H x v vl vu lo hi sl Q I rx hs pl pu q
 ·exact h' pins s σ H x v vl vu lo hi sl Q I rx hs pl pu q
def Mj (r:V -> Option Int -> Option Int -> Hp -> VK -> Prop) (te:TE) (tl th:TO):TE:=fun σ H Q=>te σ H fun x H1=>tl σ H1 fun l H2=>th σ H2 fun u H3=>r x l u H3 Q
theorem Ce {r:V -> Option Int -> Option Int -> Hp -> VK -> Prop} (hr:E9 X r) (he:PE X e te) (hl:PO X lo tl) (hu:PO X hi th):PE X (.Subscript e (.Slice lo hi none p2) pos) (Mj r te tl th):=by
 intro pins s σ H Q I h
 refine Subscript_ (cI (he pins s σ H _ I h) fun v s1 ⟨x,H1,I1,r1,q1⟩=>?_)
 refine wpAny_Slice (cI (hl pins s1 σ H1 _ I1 q1) fun vl s2 ⟨l,H2,I2,pl,q2⟩=>cI (hu pins s2 σ H2 _ I2 q2) fun vu s3 ⟨u,H3,I3,pu,q3⟩=>?_)
 rw [evalPart_none]
 refine wpAny_pure ?_
 have I4:Inv X pins σ H3 { s3 with heap:=s3.heap.push { cls:=.type "slice", data:=.fields #[vl,vu,.none] } }:=I3.kept (t':=s3.toks) fun b ob q=>Heap.get?_push_of_some _ q
 obtain ⟨T,id,hT,ht,hg⟩:=hr pins { s3 with heap:=s3.heap.push { cls:=.type "slice", data:=.fields #[vl,vu,.none] } } σ H3 x v vl vu l u s3.heap.objs.size Q I4 r1 (Heap.IsSliceOf.new ..) pl pu q3
 show wpAny (model X.prog X.w) X.A (subscriptTail e (.Slice lo hi none p2) v (.ref s3.heap.objs.size)) (EP X pins σ Q) X.xe { s3 with heap:=s3.heap.push { cls:=.type "slice", data:=.fields #[vl,vu,.none] } }
 exact tail_any (ops:=[.ref s3.heap.objs.size,v]) ht hT hg (by with_unfolding_all rfl)
def og (xs:List V) (lo hi:Option Int):List V:=(xs.drop (HT.eT xs.length 0 lo)).take (HT.eT xs.length xs.length hi - HT.eT xs.length 0 lo)
theorem mH (xs:List V) (lo hi:Option Int):(og xs lo hi).length ≤ xs.length:=by
 unfold og
 rw [List.length_take,List.length_drop]
 omega
def La (K:PySem.W.Frag):V -> Option Int -> Option Int -> Hp -> VK -> Prop:=fun x lo hi H Q=>∃ a xs,x=.ref a /\ jP K H a xs /\
 ¬ (HT.eT xs.length 0 lo=0 /\ HT.eT xs.length xs.length hi=xs.length) /\ ∀ p,H p=none -> Q (.ref p) (upd H p (.tup (og xs lo hi)))
theorem Hw:E9 X (La X.K):=by
 intro pins s σ H x v vl vu lo hi sl Q I rx hs pl pu h
 obtain ⟨a,xs,rfl,hx,hw,q⟩:=h
 cases rx
 obtain ⟨its,r,ht,hz⟩:=I.tuple hx
 have hlen:its.toArray.size=xs.length:=by rw [List.size_toArray]; exact r.length.symm
 refine ⟨"tuple", _,PyProof.Rows.slot_tuple_getitem.lookup,ht.typeIs,?_⟩
 refine HT.kJ ht hs pl pu (by rw [hlen]; exact hw) ?_ (by rw [hlen]; exact hz)
 rw [hlen]
 refine ⟨.ref s.heap.objs.size,_,I.laid (t':=s.toks) (o:=.tup (og xs lo hi)) (fun b ob q=>Heap.get?_push_of_some _ q) (Nat.le_refl _) ?_,rfl,q _ (I.hok.fresh (Nat.le_refl _))⟩
 exact ⟨Nat.le_trans (mH xs lo hi) hz,_,(r.drop (HT.eT xs.length 0 lo)).take (HT.eT xs.length xs.length hi - HT.eT xs.length 0 lo),IsTup.new _ _⟩
def JH (K:PySem.W.Frag):R2:=fun x y H Q=>∃ a b xs ys,x=.ref a /\ y=.ref b /\ jP K H a xs /\ jP K H b ys /\ xs ≠ [] /\ xs.length + ys.length ≤ sizeLine /\
 (ys=[] -> Q (.ref a) H) /\ (ys ≠ [] -> ∀ p,H p=none -> Q (.ref p) (upd H p (.tup (xs ++ ys))))
theorem Vals.nil_iff {xs:List V} {us:List Value} (r:Vals xs us):us=[] ↔ xs=[]:=by
 cases r with
 | nil=>simp
 | cons _ _=>simp
theorem Ea:mR X (binaryOp .Add) (JH X.K):=by
 intro pins s σ H x y v u Q I rx ry h
 obtain ⟨a,b,xs,ys,rfl,rfl,ha,hb,hx,hz,q1,q2⟩:=h
 cases rx
 cases ry
 obtain ⟨its,r1,p1,_⟩:=I.tuple ha
 obtain ⟨its2,r2,p2,_⟩:=I.tuple hb
 refine HT.Di p1 p2 (fun z=>hx (r1.nil_iff.mp z)) (fun z=>⟨.ref a,H,I,rfl,q1 (r2.nil_iff.mp z)⟩) (fun z=>?_) (by rw [<- r1.length,<- r2.length]; exact hz)
 refine ⟨.ref s.heap.objs.size,_,I.laid (t':=s.toks) (o:=.tup (xs ++ ys)) (fun b ob q=>Heap.get?_push_of_some _ q) (Nat.le_refl _) ?_,rfl,q2 (fun w=>z (r2.nil_iff.mpr w)) _ (I.hok.fresh (Nat.le_refl _))⟩
 exact ⟨by rw [List.length_append]; exact hz,_,r1.append r2,IsTup.new _ _⟩
end
open PySem PySem.Spec PyProof.Rows
def yF (n:Nat) (i:Int):Option Nat:=if 0 ≤ i then (if i < n then some i.toNat else none) else if -(n:Int) ≤ i then some (i + n).toNat else none
def ng {α:Type} (xs:List α) (i:Int):Option α:=(yF xs.length i).bind fun j=>xs[j]?
theorem yG {n:Nat} {i:Int} {j:Nat} (h:yF n i=some j):seqIndex? i n=some j /\ j < n /\ -(n:Int) ≤ i /\ i < n:=by
 unfold yF at h
 by_cases h0:0 ≤ i
 ·rw [if_pos h0] at h
  by_cases h1:i < n
  ·rw [if_pos h1] at h
   have e:i.toNat=j:=Option.some.inj h
   exact ⟨by rw [seqIndex_of h0 h1,e],by omega,by omega,h1⟩
  ·rw [if_neg h1] at h; cases h
 ·rw [if_neg h0] at h
  by_cases h1 : -(n:Int) ≤ i
  ·rw [if_pos h1] at h
   have e:(i + n).toNat=j:=Option.some.inj h
   exact ⟨by rw [seqIndex_neg (by omega) h1,e],by omega,h1,by omega⟩
  ·rw [if_neg h1] at h; cases h
theorem qU {α:Type} {xs:List α} {i:Int} {v:α} (h:ng xs i=some v):∃ j,seqIndex? i xs.length=some j /\ xs[j]? = some v /\ j < xs.length /\ -(xs.length:Int) ≤ i /\ i < xs.length:=by
 unfold ng at h
 cases e:yF xs.length i with
 | none=>rw [e] at h; cases h
 | some j =>
  rw [e] at h
  obtain ⟨h1,h2,h3,h4⟩:=yG e
  exact ⟨j,h1,h,h2,h3,h4⟩
theorem qV {α:Type} {xs:List α} {j:Nat} {v:α} (h:xs[j]? = some v):ng xs (j:Int)=some v:=by
 have hj:j < xs.length:=(List.getElem?_eq_some_iff.mp h).1
 have e:yF xs.length (j:Int)=some j:=by
  unfold yF
  rw [if_pos (by omega),if_pos (by omega)]; simp
 unfold ng; rw [e]; exact h
def nc (b:Expr):Prop:=∀ o i,subscripted b false o i=operate [o,i] (getItem o i)
def CW (X:Cx) (r:R2):Prop:=
 ∀ (value slice:Expr) (pins:List (Addr × Obj)) (s:Shared) (σ:St) (H:Hp) (x y:V) (v u:Value) (Q:VK),Inv X pins σ H s -> RelV x v -> RelV y u -> r x y H Q ->
  subscripted slice false v u=operate [v,u] (getItem v u) -> wpAny (model X.prog X.w) X.A (subscriptTail value slice v u) (EP X pins σ Q) X.xe s
def EY (X:Cx) (id:String) (r:V -> List V -> Hp -> VK -> Prop):Prop:=
 ∀ (pins:List (Addr × Obj)) (s:Shared) (σ:St) (H:Hp) (x:V) (xs:List V) (v:Value) (us:List Value) (Q:VK),Inv X pins σ H s -> RelV x v -> Vals xs us -> r x xs H Q ->
  wpAny (model X.prog X.w) X.A (call (.builtin id) (v :: us)) (EP X pins σ Q) X.xe s
section
variable {X:Cx} {a b:Expr} {ta tb:TE} {pos:Pos}
theorem CW.or {r r':R2} (h:CW X r) (h':CW X r'):CW X (fun x y H Q=>r x y H Q \/ r' x y H Q):=by
 intro value slice pins s σ H x y v u Q I rx ry q hs
 rcases q with q | q
 ·exact h value slice pins s σ H x y v u Q I rx ry q hs
 ·exact h' value slice pins s σ H x y v u Q I rx ry q hs
theorem EY.or {id:String} {r r':V -> List V -> Hp -> VK -> Prop} (h:EY X id r) (h':EY X id r'):EY X id (fun x xs H Q=>r x xs H Q \/ r' x xs H Q):=by
 intro pins s σ H x xs v us Q I rx rs q
 rcases q with q | q
 ·exact h pins s σ H x xs v us Q I rx rs q
 ·exact h' pins s σ H x xs v us Q I rx rs q
theorem Cc {r:R2} (hr:CW X r) (ha:PE X a ta) (hb:PE X b tb) (hs:nc b):PE X (.Subscript a b pos) (JW r ta tb):=by
 intro pins s σ H Q I h
 exact Subscript_ (FV ha hb I h fun v u s2 x y H2 I2 rx ry q=>hr a b pins s2 σ H2 x y v u Q I2 rx ry q (hs _ _))
def K6 (K:PySem.W.Frag):R2:=fun x y H Q=>∃ p xs i v,x=.ref p /\ y=.int i /\ gE K H p xs /\ ng xs i=some v /\ Q v H
def K8 (K:PySem.W.Frag):R2:=fun x y H Q=>∃ p xs i v,x=.ref p /\ y=.int i /\ jP K H p xs /\ ng xs i=some v /\ Q v H
def K7:R2:=fun x y H Q=>∃ z i c,x=.str z /\ y=.int i /\ z.length ≤ sizeLine /\ ng z.cps.toList i=some c /\ Q (.str ⟨#[c]⟩) H
theorem nz:CW X (K6 X.K):=by
 intro value slice pins s σ H x y v u Q I rx ry h hs
 obtain ⟨p,xs,i,z,rfl,rfl,hq,he,q⟩:=h
 cases rx
 obtain ⟨t,rfl⟩:=ry
 obtain ⟨its,r,pl,hz⟩:=I.list hq
 obtain ⟨j,h1,h2,h3,h4,h5⟩:=qU he
 obtain ⟨w,ew,rw'⟩:=r.get h2
 have hl:=r.length
 have hn:=jZ
 have fin:EP X pins σ Q w s:=⟨z,H,I,rw',q⟩
 by_cases h0:0 ≤ i
 ·have hj:i.toNat=j:=by
   rw [seqIndex_of h0 h5] at h1
   exact Option.some.inj h1
  exact item_listR pl.isList h0 (by omega) (by rw [hj]; simpa using ew) fin hs
 ·have hj:(i + (its.toArray.size:Int)).toNat=j:=by
   rw [seqIndex_neg (by omega) h4] at h1
   rw [List.size_toArray,<- hl]
   exact Option.some.inj h1
  exact subscriptTail_builtinR (x:=w) pl.isList.typeIs slot_list_getitem.lookup
   (wpAny_getItem_list_neg (Q:=fun r s'=>r=w /\ EP X pins σ Q r s') pl.isList (by omega) (by rw [List.size_toArray] <;> omega) (by omega) (by rw [hj]; simpa using ew) ⟨rfl,fin⟩) hs
theorem GL:CW X (K8 X.K):=by
 intro value slice pins s σ H x y v u Q I rx ry h hs
 obtain ⟨p,xs,i,z,rfl,rfl,hq,he,q⟩:=h
 cases rx
 obtain ⟨t,rfl⟩:=ry
 obtain ⟨its,r,pl,hz⟩:=I.tuple hq
 obtain ⟨j,h1,h2,h3,h4,h5⟩:=qU he
 obtain ⟨w,ew,rw'⟩:=r.get h2
 have hl:=r.length
 have hn:=jZ
 have fin:EP X pins σ Q w s:=⟨z,H,I,rw',q⟩
 exact subscriptTail_builtinR (x:=w) pl.typeIs slot_tuple_getitem.lookup
  (getItem_tuple (j:=j) (Q:=fun r s'=>r=w /\ EP X pins σ Q r s') pl (by omega) (by omega) (by rw [List.size_toArray,<- hl]; exact h1) (by simpa using ew) ⟨rfl,fin⟩) hs
theorem GJ:CW X K7:=by
 intro value slice pins s σ H x y v u Q I rx ry h hs
 obtain ⟨z,i,c,rfl,rfl,hz,he,q⟩:=h
 obtain ⟨t,rfl⟩:=rx
 obtain ⟨t',rfl⟩:=ry
 obtain ⟨j,h1,h2,h3,h4,h5⟩:=qU he
 have hl:z.cps.toList.length=z.length:=by simp [Str.length]
 rw [hl] at h1 h4 h5
 have hn:=jZ
 exact tail_any (typeIs_str s z t) slot_str_getitem.lookup (getItem_str (c:=c) (by
  have e1:decide (i < -(2 ^ 63:Int))=false:=decide_eq_false (by omega)
  have e2:decide (i ≥ 2 ^ 63)=false:=decide_eq_false (by omega)
  rw [e1,e2,Bool.or_false]) (by rw [h1]; simpa using h2) ⟨.str ⟨#[c]⟩,H,I.tok _,⟨_,rfl⟩,q⟩) hs
theorem xu (its:List Value) (n j:Nat) (u:Value):Obj.mapSeq (·.setIfInBounds j u) { cls:=.type "list", data:=.seq its.toArray n }={ cls:=.type "list", data:=.seq (its.set j u).toArray n }:=by
 simp [Obj.mapSeq]
theorem Inv.lst {pins:List (Addr × Obj)} {σ:St} {H:Hp} {s:Shared} {p:Addr} {xs:List V} (I:Inv X pins σ H s) (h:H p=some (.lst xs)) :
  ∃ (its:List Value) (n:Nat),Vals xs its /\ s.heap.get? p=some { cls:=.type "list", data:=.seq its.toArray n } /\ xs.length ≤ sizeLine:=by
 obtain ⟨z,its,n,r,e⟩:=I.hok p _ h
 exact ⟨its,n,r,e,z⟩
theorem Inv.lstUpd {pins:List (Addr × Obj)} {σ:St} {H:Hp} {s:Shared} {p:Addr} {xs ys:List V} {its its':List Value} {n n':Nat} {f:Obj -> Obj} (I:Inv X pins σ H s) (h:H p=some (.lst xs))
  (ho:s.heap.get? p=some { cls:=.type "list", data:=.seq its.toArray n }) (hf:f { cls:=.type "list", data:=.seq its.toArray n }={ cls:=.type "list", data:=.seq its'.toArray n' }) (r:Vals ys its') (hz:ys.length ≤ sizeLine) (t:Nat) :
  Inv X pins σ (upd H p (.lst ys)) { s with heap:=s.heap.update p f,toks:=t }:=by
 have e:(s.heap.update p f).get? p=some { cls:=.type "list", data:=.seq its'.toArray n' }:=by
  rw [Heap.get?_update_self f ho (by rw [hf] <;> rfl),hf]
 refine I.write (x:=p) (e:=p) (by rw [h]; trivial) (.inl rfl) (fun b u hb q=>(Heap.get?_update_other _ _ (Ne.symm hb)).trans q) ⟨_,e⟩ ?_
 exact ⟨hz,its',n',r,e⟩
def JI:V -> V -> V -> Hp -> (Hp -> Prop) -> Prop:=fun o i v H Q=>∃ p xs k j,o=.ref p /\ i=.int k /\ H p=some (.lst xs) /\ yF xs.length k=some j /\ Q (upd H p (.lst (xs.set j v)))
theorem set_list:Il X JI:=by
 intro pins s σ H o i v ov iv u Q I ro ri rv h
 obtain ⟨p,xs,k,j,rfl,rfl,hp,hj,q⟩:=h
 cases ro
 obtain ⟨t,rfl⟩:=ri
 obtain ⟨its,n,r,ho,hz⟩:=I.lst hp
 obtain ⟨h1,h2,h3,h4⟩:=yG hj
 have hl:=r.length
 have hn:=jZ
 have I':Inv X pins σ (upd H p (.lst (xs.set j v))) { s with heap:=s.heap.update p (Obj.mapSeq (·.setIfInBounds j u)) }:=
  I.lstUpd hp ho (xu its n j u) (r.set rv j) (by rw [List.length_set]; exact hz) s.toks
 by_cases h0:0 ≤ k
 ·have hk:k.toNat=j:=by
   rw [seqIndex_of h0 h4] at h1
   exact Option.some.inj h1
  exact PySem.W.ki_setAt ho h0 (by omega) (by rw [List.size_toArray,<- hl]; exact h4) (by rw [hk]; exact ⟨_,I',q⟩)
 ·have hk:(k + (its.toArray.size:Int)).toNat=j:=by
   rw [seqIndex_neg (by omega) h3] at h1
   rw [List.size_toArray,<- hl]
   exact Option.some.inj h1
  exact PySem.W.ki_setBack ho (by omega) (by rw [List.size_toArray,<- hl]; exact h3) (by omega) (by rw [hk]; exact ⟨_,I',q⟩)
theorem tX (lo hi:Option Int) (n:Nat):(sliceBounds lo hi none n).1=((HT.eT n 0 lo:Nat):Int) /\ (sliceBounds lo hi none n).2.1=((HT.eT n n hi:Nat):Int) /\ (sliceBounds lo hi none n).2.2=1:=by
 refine ⟨?_,?_,rfl⟩
 ·cases lo with
  | none=>simp [sliceBounds,HT.eT]
  | some i =>
   simp only [sliceBounds,HT.eT,Option.getD_none,show (1:Int) > 0 by decide,if_true]
   by_cases h:i < 0
   ·simp only [h,if_true] <;> omega
   ·simp only [h,if_false] <;> omega
 ·cases hi with
  | none=>simp [sliceBounds,HT.eT]
  | some i =>
   simp only [sliceBounds,HT.eT,Option.getD_none,show (1:Int) > 0 by decide,if_true]
   by_cases h:i < 0
   ·simp only [h,if_true] <;> omega
   ·simp only [h,if_false] <;> omega
theorem qc (its:List Value) (lo hi:Option Int):slicePick its.toArray lo hi none=((its.drop (HT.eT its.length 0 lo)).take (HT.eT its.length its.length hi - HT.eT its.length 0 lo)).toArray:=by
 obtain ⟨h1,h2,h3⟩:=tX lo hi its.toArray.size
 unfold slicePick
 rw [h1,h2,h3]
 simp only [sliceRange_one,pick_run,List.size_toArray] <;> rfl
def K9 (K:PySem.W.Frag):V -> Option Int -> Option Int -> Hp -> VK -> Prop:=fun x lo hi H Q=>∃ a xs,x=.ref a /\ gE K H a xs /\ ∀ p,H p=none -> Q (.ref p) (upd H p (.lst (og xs lo hi)))
theorem EF:E9 X (K9 X.K):=by
 intro pins s σ H x v vl vu lo hi sl Q I rx hs pl pu h
 obtain ⟨a,xs,rfl,hx,q⟩:=h
 cases rx
 obtain ⟨its,r,ht,hz⟩:=I.list hx
 have hlen:=r.length
 refine ⟨"list", _,slot_list_getitem.lookup,ht.isList.typeIs,?_⟩
 refine wpAny_getItem_list_slice ht.isList hs pl pu .none (by simp) ?_ (by rw [List.size_toArray] <;> omega)
 rw [qc,<- hlen]
 refine ⟨.ref s.heap.objs.size,_,I.laid (t':=s.toks) (o:=.lst (og xs lo hi)) (fun b ob q=>Heap.get?_push_of_some _ q) (Nat.le_refl _) ?_,rfl,q _ (I.hok.fresh (Nat.le_refl _))⟩
 exact ⟨Nat.le_trans (mH xs lo hi) hz,_,0,(r.drop (HT.eT xs.length 0 lo)).take (HT.eT xs.length xs.length hi - HT.eT xs.length 0 lo),Heap.get?_push_size _ rfl⟩
theorem qY:eW X (.builtin "len") (fun xs H Q=>∃ p ys,xs=[.ref p] /\ (gE X.K H p ys \/ jP X.K H p ys) /\ Q (.int ys.length) H):=by
 intro pins s σ H xs us Q I r h
 obtain ⟨p,ys,rfl,hq,q⟩:=h
 obtain ⟨u,rfl,rx⟩:=vals1 r
 cases rx
 have hn:=jZ
 rcases hq with hq | hq
 ·obtain ⟨its,r',pl,hz⟩:=I.list hq
  have hlen:=r'.length
  exact Calls.call_len_list pl.isList (by simp only [List.size_toArray] <;> omega) ⟨.int ys.length,H,I.tok _,⟨s.toks + 1,by rw [List.size_toArray,hlen]⟩,q⟩
 ·obtain ⟨its,r',pl,hz⟩:=I.tuple hq
  have hlen:=r'.length
  exact len_tuple pl (by simp only [List.size_toArray] <;> omega) ⟨.int ys.length,H,I.tok _,⟨s.toks + 1,by rw [List.size_toArray,hlen]⟩,q⟩
theorem qZ:eW X (.builtin "len") (fun xs H Q=>∃ z,xs=[.str z] /\ z.length ≤ sizeLine /\ Q (.int z.length) H):=by
 intro pins s σ H xs us Q I r h
 obtain ⟨z,rfl,hz,q⟩:=h
 obtain ⟨u,rfl,t,rfl⟩:=vals1 r
 have hn:=jZ
 exact len_str (by omega) ⟨.int z.length,H,I.tok _,⟨_,rfl⟩,q⟩
theorem eW.or {f:Value} {r r':List V -> Hp -> VK -> Prop} (h:eW X f r) (h':eW X f r'):eW X f (fun xs H Q=>r xs H Q \/ r' xs H Q):=by
 intro pins s σ H xs us Q I rs q
 rcases q with q | q
 ·exact h pins s σ H xs us Q I rs q
 ·exact h' pins s σ H xs us Q I rs q
theorem ku:eW X (.type "list") (fun xs H Q=>∃ p ys,xs=[.ref p] /\ (gE X.K H p ys \/ jP X.K H p ys) /\ ∀ l,H l=none -> Q (.ref l) (upd H l (.lst ys))):=by
 intro pins s σ H xs us Q I r h
 obtain ⟨p,ys,rfl,hq,q⟩:=h
 obtain ⟨u,rfl,rx⟩:=vals1 r
 cases rx
 have fin:∀ (its:List Value),Vals ys its -> ys.length ≤ sizeLine -> ∀ (h':Heap) (c':Nat),(∀ b o',s.heap.get? b=some o' -> h'.get? b=some o') ->
   h'.get? s.heap.objs.size=some { cls:=.type "list", dict:=none,data:=.seq its.toArray c',slots:=#[] } -> EP X pins σ Q (.ref s.heap.objs.size) { s with heap:=h' }:=fun its r' hz h' c' kp e =>
  ⟨.ref s.heap.objs.size,_,I.laid (t':=s.toks) kp (Nat.le_refl _) (show dY X.prog X.w _ h' _ (.lst ys) from ⟨hz,its,c',r',e⟩),rfl,q _ (I.hok.fresh (Nat.le_refl _))⟩
 rcases hq with hq | hq
 ·obtain ⟨its,r',pl,hz⟩:=I.list hq
  have hlen:=r'.length
  obtain ⟨o,ho,hc,n,hd⟩:=pl.isList
  exact call_list_seq p (.inl rfl) ho hc hd (fun h' c' kp e=>fin its r' hz h' c' kp e) (by simp only [List.size_toArray] <;> omega)
 ·obtain ⟨its,r',pl,hz⟩:=I.tuple hq
  have hlen:=r'.length
  obtain ⟨o,ho,hc,n,hd⟩:=pl
  exact call_list_seq p (.inr rfl) ho hc hd (fun h' c' kp e=>fin its r' hz h' c' kp e) (by simp only [List.size_toArray] <;> omega)
theorem pL:eW X (.type "tuple") (fun xs H Q=>∃ p ys,xs=[.ref p] /\ ((gE X.K H p ys /\ ∀ l,H l=none -> Q (.ref l) (upd H l (.tup ys))) \/ (jP X.K H p ys /\ Q (.ref p) H))):=by
 intro pins s σ H xs us Q I r h
 obtain ⟨p,ys,rfl,h⟩:=h
 obtain ⟨u,rfl,rx⟩:=vals1 r
 cases rx
 rcases h with ⟨hq,q⟩ | ⟨hq,q⟩
 ·obtain ⟨its,r',pl,hz⟩:=I.list hq
  have hlen:=r'.length
  refine call_tuple_list pl.isList (fun h' kp=>?_) (by simp only [List.size_toArray] <;> omega)
  have I1:Inv X pins σ H { s with heap:=h' }:=I.kept (t':=s.toks) kp
  have I2:Inv X pins σ (upd H h'.objs.size (.tup ys)) { s with heap:=h'.push { cls:=.type "tuple", data:=.seq its.toArray } }:=
   I1.laid (t':=s.toks) (fun b o e=>Heap.get?_push_of_some _ e) (Nat.le_refl _) (show dY X.prog X.w _ _ _ (.tup ys) from ⟨hz,its,r',IsTup.new _ _⟩)
  exact ⟨.ref h'.objs.size,_,I2,rfl,q _ (I1.hok.fresh (Nat.le_refl _))⟩
 ·obtain ⟨its,r',pl,hz⟩:=I.tuple hq
  exact call_tuple_same pl ⟨.ref p,H,I,rfl,q⟩
def Lu (K:PySem.W.Frag) (T:String) (x:V) (H:Hp):Prop:=match x with
 | .str _=>T = "str"
 | .int _=>T = "int"
 | .ref p=>(T = "list" /\ ∃ xs,gE K H p xs) \/ (T = "tuple" /\ ∃ o,K.lookup p=some o /\ o.cls=.type "tuple" /\ o.dict=none) \/
   (T = "dict" /\ ((∃ kvs,H p=some (.dK kvs)) \/ ∃ kvs,H p=some (.dT kvs))) \/ (T = "set" /\ ∃ S n,H p=some (.set S n))
 | _=>False
theorem CT {pins:List (Addr × Obj)} {σ:St} {H:Hp} {s:Shared} {T:String} {x:V} {v:Value} (I:Inv X pins σ H s) (r:RelV x v) (ty:Lu X.K T x H) :
  s.TypeIs v T /\ ∀ a,v=.ref a -> ∃ ob,s.heap.get? a=some ob /\ ob.dict=none:=by
 cases x with
 | str z =>
  obtain ⟨t,rfl⟩:=r
  cases (show T = "str" from ty)
  exact ⟨typeIs_str s z t,fun _ e=>nomatch e⟩
 | int i =>
  obtain ⟨t,rfl⟩:=r
  cases (show T = "int" from ty)
  exact ⟨typeIs_int s i t,fun _ e=>nomatch e⟩
 | ref p =>
  cases r
  rcases ty with ⟨rfl,xs,hq⟩ | ⟨rfl,o,hk,hc,hd⟩ | ⟨rfl,hk⟩ | ⟨rfl,S,n,hk⟩
  ·obtain ⟨its,_,pl,_⟩:=I.list hq
   refine ⟨pl.isList.typeIs,fun a e=>?_⟩
   cases e
   obtain ⟨o,n,e,c,hd,_⟩:=pl
   exact ⟨o,e,hd⟩
  ·refine ⟨⟨o,I.kIn p o hk,hc⟩,fun a e=>?_⟩
   cases e
   exact ⟨o,I.kIn _ o hk,hd⟩
  ·have z:∃ o,s.heap.get? p=some o /\ o.ExactDict:=by
    rcases hk with ⟨kvs,hk⟩ | ⟨kvs,hk⟩
    ·obtain ⟨_,_,_,_,o,_,_,e,ex,_⟩:=I.hok p _ hk
     exact ⟨o,e,ex⟩
    ·obtain ⟨_,_,_,_,o,_,_,e,ex,_⟩:=I.hok p _ hk
     exact ⟨o,e,ex⟩
   obtain ⟨o,e,ex⟩:=z
   refine ⟨⟨o,e,ex.1⟩,fun a e2=>?_⟩
   cases e2
   exact ⟨o,e,ex.2.1⟩
  ·obtain ⟨o,_,_,_,e,ex,_⟩:=I.hok p _ hk
   refine ⟨⟨o,e,ex.1⟩,fun a e2=>?_⟩
   cases e2
   exact ⟨o,e,ex.2.1⟩
 | _=>exact False.elim ty
def Lg (K:PySem.W.Frag) (T:String) (r:V -> List V -> Hp -> VK -> Prop) (to:TE):TE:=fun σ H Q=>to σ H fun x H1=>Lu K T x H1 /\ r x [] H1 Q
def Me (K:PySem.W.Frag) (T:String) (r:V -> List V -> Hp -> VK -> Prop) (to:TE) (t:TA):TE:=fun σ H Q=>to σ H fun x H1=>Lu K T x H1 /\ t σ H1 fun xs H2=>r x xs H2 Q
variable {o e:Expr} {es:List Expr} {to:TE} {t:TA} {name:Str} {apos cpos:Pos} {T id:String} {r:V -> List V -> Hp -> VK -> Prop}
theorem G6 (pa:PlainAttrs T) (slot:Slot T name id) (hty:typeOf (.builtin id)=pure (.type "method_descriptor")) (hm:EY X id r) (ho:PE X o to)
  (hbase:attributeBase o name X.env (eval o X.env)=eval o X.env:=by rfl) (hline:(apos.endLine == cpos.line)=true:=by rfl):PE X (.Call (.Attribute o name apos) [] [] cpos) (Lg X.K T r to):=by
 intro pins s σ H Q I h
 refine wpAny_Call_method0_late hbase hline (cI (ho pins s σ H _ I h) fun v s1 ⟨x,H1,I1,r1,ty,q1⟩=>?_)
 obtain ⟨h1,h2⟩:=CT I1 r1 ty
 exact ⟨T,id,pa,slot,hty,h1,h2,Calls.callWith_builtin rfl (PySem.evalArgs_none (hm pins s1 σ H1 x [] v [] Q I1 r1 .nil q1))⟩
theorem Cb (pa:PlainAttrs T) (slot:Slot T name id) (hty:typeOf (.builtin id)=pure (.type "method_descriptor")) (hm:EY X id r) (ho:PE X o to) (ha:PA X (e :: es) t)
  (hbase:attributeBase o name X.env (eval o X.env)=eval o X.env:=by rfl)
  (hfew:((backTo cpos (starEach (e :: es) X.env)).all (fun x=>!x.1) && (backToKw cpos (keywordEach [] X.env)).all (fun x=>x.1.isSome)
   && decide ((e :: es).length + ([]:List Keyword).length + (if ([]:List Keyword).isEmpty then 0 else 1) < 30))=true:=by rfl)
  (hline:(apos.endLine == cpos.line)=true:=by rfl) (hs:starEach (e :: es) X.env=(false,eval e X.env) :: starEach es X.env:=by rfl) (hplain:(backTo cpos (starEach es X.env)).any (·.1)=false:=by rfl) :
  PE X (.Call (.Attribute o name apos) (e :: es) [] cpos) (Me X.K T r to t):=by
 intro pins s σ H Q I h
 refine wpAny_Call_method_late hbase hfew hline rfl (cI (ho pins s σ H _ I h) fun v s1 ⟨x,H1,I1,r1,ty,q1⟩=>?_)
 obtain ⟨h1,h2⟩:=CT I1 r1 ty
 refine ⟨T,id,pa,slot,hty,h1,h2,?_⟩
 have hA:=ha cpos pins s1 σ H1 _ I1 q1
 rw [hs] at hA ⊢
 refine Calls.callWith_builtin (by show (false || (backTo cpos (starEach es X.env)).any (·.1))=false; rw [hplain] <;> rfl) (Calls.evalArgs_plain ?_)
 exact cI hA fun us s2 ⟨vs,H2,I2,r2,q2⟩=>hm pins s2 σ H2 x vs v us Q I2 r1 r2 q2
/- xs.append(e),list.index on a module's tuple .. are EY facts of 06m -/
end
open PySem PySem.Spec PyProof.Rows
def LQ (X:Cx) (id:String) (r:V -> List V -> Hp -> VK -> Prop):Prop:=
 ∀ (pins:List (Addr × Obj)) (s:Shared) (σ:St) (H:Hp) (x:V) (xs:List V) (v:Value) (us:List Value) (Q:VK),Inv X pins σ H s -> RelV x v -> Vals xs us -> r x xs H Q ->
  wpAny (model X.prog X.w) X.A (call (.builtin id) (v :: us)) (EP X pins σ Q) X.xe s
theorem Vals.one:∀ {x:V} {us:List Value},Vals [x] us -> ∃ u,us=[u] /\ RelV x u
 | _,_,.cons r .nil=>⟨_,rfl,r⟩
theorem Vals.two:∀ {x y:V} {us:List Value},Vals [x,y] us -> ∃ u v,us=[u,v] /\ RelV x u /\ RelV y v
 | _,_,_,.cons r (.cons q .nil)=>⟨_,_,rfl,r,q⟩
theorem Vals.zero:∀ {us:List Value},Vals [] us -> us=[]
 | _,.nil=>rfl
theorem Vals.dropLast {xs:List V} {us:List Value} (h:Vals xs us):Vals xs.dropLast us.dropLast:=by
 induction h with
 | nil=>exact .nil
 | cons r t ih =>
  cases t with
  | nil=>exact .nil
  | cons q t'=>exact .cons r ih
theorem Vals.reverse {xs:List V} {us:List Value} (h:Vals xs us):Vals xs.reverse us.reverse:=by
 induction h with
 | nil=>exact .nil
 | cons r t ih=>rw [List.reverse_cons,List.reverse_cons]; exact Vals.append ih (.cons r .nil)
theorem Vals.rep {xs:List V} {us:List Value} (h:Vals xs us):∀ k:Nat,Vals (List.replicate k xs).flatten (List.replicate k us).flatten
 | 0=>.nil
 | k + 1=>by
  rw [List.replicate_succ,List.replicate_succ,List.flatten_cons,List.flatten_cons]
  exact Vals.append h (Vals.rep h k)
section
variable {X:Cx} {pins:List (Addr × Obj)} {σ:St} {H:Hp} {s:Shared} {l b:Addr} {xs ys zs:List V}
theorem Inv.lset {its its':List Value} {n:Nat} {f:Array Value -> Array Value} {t':Nat} (I:Inv X pins σ H s) (hH:H l=some (.lst xs))
  (e:s.heap.get? l=some { cls:=.type "list", data:=.seq its.toArray n }) (hf:f its.toArray=its'.toArray) (hv:Vals ys its') (hz:ys.length ≤ sizeLine) :
  Inv X pins σ (upd H l (.lst ys)) { s with heap:=s.heap.update l (Obj.mapSeq f),toks:=t' }:=by
 have q:=PySem.IsL.update e f
 rw [hf] at q
 refine I.write (x:=l) (e:=l) (by rw [hH]; exact trivial) (.inl rfl) (fun b' u hb hu=>(Heap.get?_update_other s.heap (Obj.mapSeq f) (Ne.symm hb)).trans hu) ⟨_,q⟩ ?_
 exact ⟨hz,its',_,hv,q⟩
theorem Inv.lnew {its:List Value} {t':Nat} (I:Inv X pins σ H s) (hv:Vals ys its) (hz:ys.length ≤ sizeLine) :
  Inv X pins σ (upd H s.heap.objs.size (.lst ys)) { s with heap:=s.heap.push { cls:=.type "list", data:=.seq its.toArray },toks:=t' }:=
 I.laid (fun _ _ q=>Heap.get?_push_of_some _ q) (Nat.le_refl _) ⟨hz,its,0,hv,Heap.get?_push_size _ rfl⟩
theorem Inv.fresh (I:Inv X pins σ H s):H s.heap.objs.size=none:=I.hok.fresh (Nat.le_refl _)
theorem Inv.lstM (I:Inv X pins σ H s) (hH:H l=some (.lst xs)):xs.length ≤ sizeLine /\ ∃ (its:List Value) (n:Nat),Vals xs its /\ xs.length=its.length /\ s.heap.get? l=some { cls:=.type "list", data:=.seq its.toArray n }:=by
 obtain ⟨z,its,n,r,e⟩:=I.hok l _ hH
 exact ⟨z,its,n,r,r.length,e⟩
end
section
variable {X:Cx}
def Ep:V -> List V -> Hp -> VK -> Prop:=fun x vs H Q=>∃ l xs y,x=.ref l /\ vs=[y] /\ H l=some (.lst xs) /\ xs.length < sizeLine /\ Q .non (upd H l (.lst (xs ++ [y])))
theorem ic:LQ X "list.append" Ep:=by
 intro pins s σ H x vs v us Q I rx rv h
 obtain ⟨l,xs,y,rfl,rfl,hH,hz,q⟩:=h
 cases rx
 obtain ⟨u,rfl,ru⟩:=rv.one
 obtain ⟨z,its,n,r,hl,e⟩:=I.lstM hH
 refine call_meets F.slot_list_append ⟨_,e,rfl⟩ F.entry_list_append (F.args_list_append_2 _ _) (PySem.list_append l its.toArray n u (by rw [List.size_toArray]; omega)) ⟨e,?_⟩
 refine ⟨.non,_,I.lset (its':=its ++ [u]) hH e (by simp) (r.append (.cons ru .nil)) ?_,rfl,q⟩
 rw [List.length_append,List.length_singleton]
 omega
def K5:R2:=fun x y H Q=>∃ l b xs zs,x=.ref l /\ y=.ref b /\ H l=some (.lst xs) /\ H b=some (.lst zs) /\ xs.length + zs.length ≤ sizeLine /\ ∀ p,H p=none -> Q (.ref p) (upd H p (.lst (xs ++ zs)))
theorem G3:mR X (binaryOp .Add) K5:=by
 intro pins s σ H x y v u Q I rx ry h
 obtain ⟨l,b,xs,zs,rfl,rfl,hH,hB,hz,q⟩:=h
 cases rx
 cases ry
 obtain ⟨z,its,n,r,hl,e⟩:=I.lstM hH
 obtain ⟨z2,its2,n2,r2,IW,e2⟩:=I.lstM hB
 refine PySem.P.add_list e e2 ?_ (by rw [List.size_toArray,List.size_toArray]; omega)
 have ea:its.toArray ++ its2.toArray=(its ++ its2).toArray:=by simp
 rw [ea]
 exact ⟨.ref _,_,I.lnew (t':=s.toks) (r.append r2) (by rw [List.length_append]; omega),rfl,q _ I.fresh⟩
end
section
variable {prog:Program} {w:World} {A:Around} {E:Value -> Shared -> Prop} {s:Shared}
end
section
variable {X:Cx}
end
end L2
namespace Att
open PySem PySem.W PySem.Calls PyProof.Rows
theorem mU {P:Params} {h:Heap}:∀ (ns:List Int) (vs:List Value),WellAll P h vs (ns.map WData.int) -> IntsAre vs ns:=by
 intro ns
 induction ns with
 | nil =>
  intro vs w
  rw [List.map_nil] at w
  cases w
  exact .nil
 | cons n ns ih =>
  intro vs w
  rw [List.map_cons] at w
  cases w with
  | cons a b =>
   cases a
   exact .cons _ _ (ih _ b)
theorem Au {l:OpenLaw} {n:Nat} (hn:l.most=some n) {P:Params} {h:Heap} {args:List WData} {vals:List Value}
  (hpre:l.row.toRowW.claim.pre args=true) (hwl:WellAll P h vals args) :
  ∃ a vs ns,vals=[Value.ref a] /\ args=[WData.list (ns.map WData.int)] /\ h.get? a=some { cls:=.type "list", data:=.seq vs.toArray } /\ IntsAre vs ns /\ ns.length ≤ n:=by
 have hsh:WShape.hasAll [] args [.list .int]=true:=(pre_splitW hpre).1
 have hc:l.pre.holds [] { args:=args }=true:=(pre_splitW hpre).2
 obtain ⟨d,r,rfl,h1,h2⟩:=hasAllW_cons hsh
 obtain rfl:=hasAllW_nil h2
 obtain ⟨xs,rfl,h3⟩:=hasW_list h1
 obtain ⟨ns,rfl⟩:=items_int h3
 have hlen:ns.length ≤ n:=by
  unfold OpenLaw.pre at hc
  have h4:(WTm.not (.lt (.lit (.int (n:Int))) (.len (.arg 0)))).holds [] { args:=[.list (ns.map .int)] }=true:=by
   have h4:=(holds_andW hc).1
   rw [hn] at h4
   exact h4
  have h5:=condW_of h4 (w_not (w_lt w_lit (w_len_list (w_arg rfl))))
  rw [List.length_map] at h5
  refine Nat.le_of_not_lt fun q=>?_
  have q':(n:Int) < ((ns.length:Nat):Int):=by omega
  first
   | (rw [decide_eq_true q'] at h5; exact absurd h5 (by decide))
   | (simp at h5; omega)
 cases hwl with
 | cons w1 w2 =>
  cases w2
  cases w1 with
  | list ho hall=>exact ⟨_,_,ns,rfl,rfl,ho,mU ns _ hall,hlen⟩
theorem An (l:OpenLaw) (args:List WData):l.row.toRowW.claim.post args (.bool true) args=true:=
 postW_of (r:=l.row.toRowW) (X:=(true == true))
  (show WShape.has [] (.bool true) .bool=true by first | rfl | decide | simp [WShape.has,WShape.arms,WShape.armsAll])
  (show (WTm.eq .res (.lit (.bool true))).value [] { args:=args,res:=some (.bool true),after:=args }=some (.bool (true == true)) from w_eq_bool (w_res rfl) w_lit) rfl
theorem uq {l:OpenLaw} {n:Nat} {q:Program} {loose:List Str} {XP:(Str -> Option Value) -> Heap -> Prop} {YP:World -> Heap -> Prop} {d:DefRec}
  (hn:l.most=some n) (hdf:d.params.defaults=[])
  (call:∀ (w:World) (s₀ s₁:Shared) (mg mb:Str -> Option Value) (fa:Addr) (o:Obj) (pm cd doc:Value) (a:Addr) (vs:List Value) (ns:List Int),
   Ground q loose [] XP w s₀ mg mb s₁.heap -> YP w s₁.heap ->
   s₁.heap.get? fa=some o -> o.data=.func (docDef d.name d.params d.body d.scope pm cd doc) -> s₁.heap.CodeRec cd d.name -> mg d.name=some (.ref fa) ->
   s₁.heap.get? a=some { cls:=.type "list", data:=.seq vs.toArray } -> IntsAre vs ns -> ns.length ≤ n -> s₁.gens = #[] ->
   codeAny (model l.prog w) callerA (.call (.ref fa) ⟨[.ref a],[]⟩) (fun r s'=>r=.ok (.ret (.bool true)) /\ OldK s₁.heap s'.heap /\ s'.os=s₁.os /\ AllBare s'.gens) s₁) :
  WalkO q loose XP YP l.row.toRowW d [] (fun f vs=>PySem.call f vs):=by
 intro w s₀ s₁ mg mb G Y fa o pm cd doc dV kV ho hd hcd hD hmg hg args vals as hpre hlay hrd hwl hlo
 obtain rfl:dV=.none:=Dflts.none hD hdf
 obtain rfl:kV=.none:=Dflts.noKw hD
 obtain ⟨a,vs,ns,rfl,rfl,hobj,hints,hlen⟩:=Au hn hpre hwl
 refine enter_call (codeAny_mono (call w s₀ s₁ mg mb fa o pm cd doc a vs ns G Y ho (fd_plain hd) hcd hmg hobj hints hlen hg) fun r s' hq=>?_)
 obtain ⟨rfl,h2,h3,h4⟩:=hq
 exact ⟨.inl ⟨.bool true,.bool true,[],rfl,fun _=>rfl,.bool true,An l _,fun _=>⟨List.Pairwise.nil,fun _ hm=>(nomatch hm)⟩⟩,h2,h3,h4⟩
section
variable {prog:Program} {w:World} {A:Around} {E:Value -> Shared -> Prop} {s:Shared} {K:Frag}
end
end Att
namespace L2
open PySem PySem.Spec PyProof.Rows
theorem qJ:∀ {vs:List Value} {ns:List Int},IntsAre vs ns -> Vals (ns.map V.int) vs
 | _,_,.nil=>.nil
 | _,_,.cons n t h=>.cons ⟨t,rfl⟩ (qJ h)
def FP (H:Hp):Prop:=∀ b,H b=none \/ ∃ o xs,H b=some (.frz o (.lst xs))
theorem BO {P:Program} {w:World} {K:PySem.W.Frag} {mg mb:Str -> Option Value} {CX:yc} {k:Nat} {fa a:Addr} {fd:FuncData} {x:Str} {sp:Sp} {s₁:Shared} {vs:List Value} {ns:List Int}
  (KX:K.In s₁.heap) (hns:s₁.heap.Ns mainGlobals mg) (hb:s₁.heap.Ns builtinsNs mb) (hbb:∀ x:Str,x ≠ "__name__" -> mb x=bootBuiltins x) (hlim:s₁.heap.NoLimit) (hg:s₁.gens = #[])
  (ha:s₁.heap.get? a=some { cls:=.type "list", data:=.seq vs.toArray }) (hi:IntsAre vs ns) (hl:ns.length ≤ sizeLine) (hr:cY k callerA)
  (F:∀ base:Heap,K.In base -> base.Ns mainGlobals mg -> eU P w K mg base CX k fa fd [x] sp) (hbind:∀ (s:Shared) (u:Value),BindsTo s fd ⟨[u],[]⟩ [(x,u)])
  (hsp:∀ H:Hp,FP H -> gE K H a (ns.map V.int) -> sp [.ref a] H (fun v _=>v=.bl true) fun _ _ _=>False)
  (hCX:∀ H e s',CX [] H s₁ (fun _ _ _=>False) e s' -> False) :
  codeAny (model P w) callerA (.call (.ref fa) ⟨[.ref a],[]⟩) (fun r s'=>r=.ok (.ret (.bool true)) /\ OldK s₁.heap s'.heap /\ s'.os=s₁.os /\ AllBare s'.gens) s₁:=by
 have rv:=qJ hi
 have lenV:=hi.length
 -- from an abstract heap in which nothing but the script may be tracked
 have core:∀ H:Hp,FP H -> gE K H a (ns.map V.int) -> mF P w H s₁.heap -> (∀ b,H b ≠ none -> b=a) -> (H a ≠ none -> K.lookup a=none) ->
   codeAny (model P w) callerA (.call (.ref fa) ⟨[.ref a],[]⟩) (fun r s'=>r=.ok (.ret (.bool true)) /\ OldK s₁.heap s'.heap /\ s'.os=s₁.os /\ AllBare s'.gens) s₁:=by
  intro H hO hS hok hA hK
  have base_of:∀ {b:Addr} {o:Obj},s₁.heap.get? b=some o -> H b=none -> (rL s₁.heap H).get? b=some o:=fun e n=>BB e n
  have noA:∀ {b:Addr} {o:Obj} {es:Array DictEntry} {ep:Nat},s₁.heap.get? b=some o -> o.data=.dict es ep -> H b=none:=fun {b o es ep} e d=>by
   cases q:H b with
   | none=>rfl
   | some u =>
    have e':b=a:=hA b (by rw [q]; simp)
    subst e'
    rw [ha] at e; cases e
    have d':Data.seq vs.toArray _=Data.dict es ep:=d
    cases d'
  have nsK:∀ {b:Addr} {m:Str -> Option Value},s₁.heap.Ns b m -> (rL s₁.heap H).Ns b m:=fun {b m} ⟨o,es,ep,e,d,r⟩=>⟨o,es,ep,base_of e (noA e d),d,r⟩
  have hKb:K.In (rL s₁.heap H):=fun b o e=>base_of (KX b o e) (by
   cases q:H b with
   | none=>rfl
   | some u =>
    have e':b=a:=hA b (by rw [q]; simp)
    subst e'
    rw [hK (by rw [q]; simp)] at e; cases e)
  have hM:Mod K mg (rL s₁.heap H):=⟨hKb,nsK hns,⟨mb,nsK hb,hbb⟩,let ⟨mc,h1,h2⟩:=hlim; ⟨mc,nsK h1,h2⟩⟩
  have e0:pI P w K mg (rL s₁.heap H) callerA [] s₁ H:=⟨rfl,hM,fun b o e=>D6 e,Nat.le_of_eq (Ab _ _),trivial,fun b hb=>absurd (show b ∈ ([]:List Addr) from hb) (by simp),hok,.of_eq hg⟩
  refine codeAny_mono ((F _ hKb (nsK hns)).run callerA [] s₁ H ⟨[.ref a],[]⟩ [.ref a] [.ref a] _ _ hr e0 (hbind s₁ (.ref a)) (.cons rfl .nil) (hsp H hO hS)) fun r s' h=>?_
  cases r with
  | error e=>exact (hCX H e s' h).elim
  | ok fl =>
   cases fl with
   | next=>exact False.elim h
   | brk=>exact False.elim h
   | cont=>exact False.elim h
   | ret u =>
    obtain ⟨v,H',os,bare,un,hok',r',q⟩:=h
    have q':v=.bl true:=q
    subst q'
    obtain rfl:u=Value.bool true:=r'
    refine ⟨rfl,OldK.of_keep fun b o e=>?_,os,bare⟩
    cases q:H b with
    | none=>exact un.keep b o e q (by intro z; exact absurd (show b ∈ ([]:List Addr) from z) (by simp)) (by simp)
    | some u =>
     rcases hO b with z | ⟨ob,xs,z⟩
     ·rw [q] at z; cases z
     ·have z2:=un.frzs b ob _ z
      obtain ⟨e1,_⟩:=hok b _ z
      obtain ⟨e2,_⟩:=hok' b _ z2
      rw [e] at e1; cases e1
      exact e2
 cases hk:K.lookup a with
 | some o =>
  -- the script is one of the module's own objects
  have e:=KX a o hk
  rw [ha] at e
  cases e
  refine core (fun _=>none) (fun _=>.inl rfl) (.inr ⟨_,vs.toArray,_,hk,rfl,rfl,rfl,by rw [List.size_toArray,lenV]; exact hl,by simpa using rv⟩) (fun b u z=>by have z':(none:Option HO)=some u:=z; cases z') (fun b z=>absurd rfl z) fun z=>absurd rfl z
 | none =>
  refine core (fun b=>if b=a then some (.frz { cls:=.type "list", data:=.seq vs.toArray } (.lst (ns.map V.int))) else none) (fun b=>?_) (.inl (.inr ⟨{ cls:=.type "list", data:=.seq vs.toArray },if_pos rfl⟩)) (fun b u z=>?_) (fun b z=>?_) fun _=>hk
  ·by_cases hb:b=a
   ·exact .inr ⟨_,_,if_pos hb⟩
   ·exact .inl (if_neg hb)
  ·by_cases hb:b=a
   ·have z':=(if_pos hb).symm.trans z
    cases z'
    subst hb
    exact ⟨ha,by rw [List.length_map]; exact hl,vs,_,rv,ha⟩
   ·have z':=(if_neg hb).symm.trans z
    cases z'
  ·by_cases hb:b=a
   ·exact hb
   ·exact absurd (if_neg hb) z
open PySem PySem.Spec PyProof.Rows
abbrev Ly {K:PySem.W.Frag} {h:Heap} (_:K.In h):PySem.W.Frag:=K
theorem zE {l:PySem.W.OpenLaw} {n k:Nat} {q:Program} {loose:List Str} {XP:(Str -> Option Value) -> Heap -> Prop} {YP:World -> Heap -> Prop} {d:DefRec} {K:Params -> PySem.W.Frag} {CX:World -> yc} {sp:World -> Sp} {x:Str}
  (hn:l.most=some n) (hn2:n ≤ sizeLine) (hdf:d.params.defaults=[]) (hr:cY k callerA)
  (hY:∀ (w:World) (h:Heap),YP w h -> (K w.params).In h)
  (F:∀ (w:World) (mg:Str -> Option Value) (fa:Addr) (h:Heap),(K w.params).In h -> h.Ns mainGlobals mg -> mg d.name=some (.ref fa) ->
   ∃ fd:FuncData,(∀ (s:Shared) (u:Value),BindsTo s fd ⟨[u],[]⟩ [(x,u)]) /\
    ∀ base:Heap,(K w.params).In base -> base.Ns mainGlobals mg -> eU l.prog w (K w.params) mg base (CX w) k fa fd [x] (sp w))
  (hsp:∀ (w:World) (H:Hp) (a:Addr) (ns:List Int),ns.length ≤ n -> FP H -> gE (K w.params) H a (ns.map V.int) -> sp w [.ref a] H (fun v _=>v=.bl true) fun _ _ _=>False)
  (hCX:∀ (w:World) (H:Hp) (s:Shared) (e:Value) (s':Shared),CX w [] H s (fun _ _ _=>False) e s' -> False) :
  PySem.W.WalkO q loose XP YP l.row.toRowW d [] (fun f vs=>PySem.call f vs):=by
 refine Att.uq hn hdf fun w s₀ s₁ mg mb fa o pm cd doc a vs ns G Y ho hd hcd hmg hobj hints hlen hg=>?_
 have KX:=hY w _ Y
 obtain ⟨fd,hb,hF⟩:=F w mg fa _ KX G.T.g hmg
 exact BO KX G.T.g G.T.b G.T.builtins G.T.nolimit hg hobj hints (Nat.le_trans hlen hn2) hr hF hb (fun H hO hS=>hsp w H a ns hlen hO hS) fun H e s'=>hCX w H s₁ e s'
end L2
/- THE LAST THEOREM (shape; LID,My.* are yours):
   My.Adr: a structure of the addresses that your layer names (classes,functions); My.Txt K t: a structure (Prop) of the equations over K;
   My.txt_mk:{K} {implicit addresses ..} (e1:nsIn K mainGlobals "law" = some (some (.ref f))) (e2:K.lookup f=some ⟨oc,od,.func (fnOf "law" "law" params body scope dV kV doc pm an cdv ct),sl⟩) (e3:codeIn K cdv "law" = true) .. : ∃ t,My.Txt K t
set_option maxRecDepth 100000 in
set_option maxHeartbeats 0 in
theorem PySem.Challenge.cw_LID_holds : PySem.Challenge.rw_LID.Holds := by
 w_on; o_law; k_head; (case hw=>w_witness2)
 k_fill
 refine L2.zE (l:=PySem.Challenge.rw_LID) (n:=63) (k:=40) (x := "script") (CX:=fun w=>..) (sp:=fun _=>My.sp_law) rfl (by decide) rfl ⟨rfl,by decide,by decide⟩ (fun w h Y=>PySem.W.kIn_of Y) ?F ?S ?C
 case F =>
  intro w mg fa h KX G hmg
  have T:∃ t,My.Txt (L2.Ly KX) t:=by
   dsimp only [L2.Ly]                          -- K must stand as «<heap const> w.params» for k_is
   refine' My.txt_mk ?e1 ?e2 ?e3 ..
   (case e1=>PySem.W.k_is)                    -- in the order: a name -> its address -> its object -> its parts
   (case e2=>PySem.W.k_is)
   ..
  obtain ⟨t,T⟩:=T
  have e0:=hmg.symm.trans (PySem.W.mg_of KX G T.law)
  cases e0                                       -- fa is the law's own address
  exact ⟨_,fun s u=>.of_eq rfl,fun base kb nb=>My.law_fn T kb nb⟩     -- if «.of_eq rfl» comes too early: refine' ⟨_,?b,fun base kb nb=>My.law_fn T kb nb⟩; exact fun s u=>.of_eq rfl
 case S=>exact fun w H a ns hl hO hS=>..
 case C=>exact ..
(the tactic k_is has no namespace: write k_is) -/
namespace L2
open PySem PySem.Spec PyProof.Rows
def inClass (s:Stmt) (j:Nat):Stmt:=match s with
 | .ClassDef _ _ _ body _ _ _ _ _ _ _=>body.getD j (.Pass ⟨0,0,0,0⟩)
 | _=>.Pass ⟨0,0,0,0⟩
def iB (s:Stmt):Arguments:=match s with
 | .FunctionDef _ a _ _ _ _ _ _ _ _=>a
 | _=>{ posonlyargs:=[],args:=[],vararg:=none,kwonlyargs:=[],kw_defaults:=[],kwarg:=none,defaults:=[] }
def cQ (s:Stmt):List Stmt:=match s with
 | .FunctionDef _ _ b _ _ _ _ _ _ _=>b
 | _=>[]
def av (s:Stmt):Scope:=match s with
 | .FunctionDef _ _ _ _ _ _ sc _ _ _=>sc
 | _=>{ kind:=.function,names:=[],isGenerator:=false,isCoroutine:=false }
abbrev nN:yc:=fun _ _ _ _ _ _=>False
abbrev E0:XK:=fun _ _ _=>False
theorem yX {X:Cx}:Passes nN X E0:=fun _ _ _ _ _ _ _ h=>h.elim
structure eR (K:PySem.W.Frag) (x qual:Str) (st:Stmt) (f:Addr) (fd:FuncData):Prop where
 ex:∃ (oc:Value) (od:Option Addr) (kV doc pm:Value) (an:Option Addr) (cdv ct:Value) (osl:Array (Option Value)),
  fd=PySem.W.fnOf x qual (iB st) (cQ st) (av st) .none kV doc pm an cdv ct /\ K.lookup f=some ⟨oc,od,.func fd,osl⟩ /\ PySem.W.codeIn K cdv qual=true
 kp:PySem.W.keepIn K (.ref f)=true
section
variable {P:Program} {w:World} {K:PySem.W.Frag} {mg:Str -> Option Value} {base:Heap}
theorem eR.ok {x qual:Str} {st:Stmt} {f:Addr} {fd:FuncData} {N ps:List Str} {k:Nat} {sp:Sp} (F:eR K x qual st f fd) (S:aL N ps (av st)) (len:∀ vs H Q E,sp vs H Q E -> vs.length=ps.length)
  (hbody:∀ (cdv:Value) (A:Around) (outer:List Env) (s:Shared) (H:Hp) (vs:List V) (Q:VK) (E:XK),cY k (A.deeper (envOfC qual (av st) s.heap.objs.size f cdv)) -> sp vs H Q E ->
   ∃ t,iX (lS nN P w K mg base N qual (av st) f cdv A outer s H E).nox (cQ st) t /\ t { nx:=fun _ H'=>Q .non H',rt:=Q } (start N vs) H):eU P w K mg base nN (k + 1) f fd ps sp:=by
 obtain ⟨oc,od,kV,doc,pm,an,cdv,ct,osl,rfl,lk,hcd⟩:=F.ex
 refine Fj lk hcd S len fun A outer s H vs Q E hr hsp=>?_
 obtain ⟨t,h,q⟩:=hbody cdv A outer s H vs Q E hr hsp
 exact ⟨t,h.nox,q⟩
theorem eR.binds {x qual:Str} {st:Stmt} {f:Addr} {fd:FuncData} {ps:List Str} (F:eR K x qual st f fd)
  (h:∀ (kV doc pm:Value) (an:Option Addr) (cdv ct:Value) (us:List Value),us.length=ps.length -> bindArgs (PySem.W.fnOf x qual (iB st) (cQ st) (av st) .none kV doc pm an cdv ct) ⟨us,[]⟩=pure (ps.zip us)):Binds K fd ps []:=by
 obtain ⟨oc,od,kV,doc,pm,an,cdv,ct,osl,rfl,lk,hcd⟩:=F.ex
 exact .all (h kV doc pm an cdv ct)
theorem Gx {x qual:Str} {st:Stmt} {f:Addr} {oc:Value} {od an:Option Addr} {osl:Array (Option Value)} {kV doc pm cdv ct:Value} (l:K.lookup f=some ⟨oc,od,.func (PySem.W.fnOf x qual (iB st) (cQ st) (av st) .none kV doc pm an cdv ct),osl⟩)
  (c:PySem.W.codeIn K cdv qual=true) (k:PySem.W.keepIn K (.ref f)=true):eR K x qual st f (PySem.W.fnOf x qual (iB st) (cQ st) (av st) .none kV doc pm an cdv ct):=⟨⟨oc,od,kV,doc,pm,an,cdv,ct,osl,rfl,l,c⟩,k⟩
end
theorem dR {n:Nat} (h:n ≤ 1000):n < sizeLine:=Nat.lt_of_le_of_lt h (by decide)
section
variable {X:Cx}
theorem pv (i:Nat) {x:Str} {pos:Pos} (hN:X.N[i]? = some x:=by rfl) (hv:HM X.env.scope x:=by first | exact Or.inl rfl | exact Or.inr (Or.inl rfl) | exact Or.inr (Or.inr rfl)) (hd:(x == ("__debug__" : Str))=false:=by decide)
  (hcd:(x == ("__classdict__" : Str))=false:=by decide):PE X (.Name x pos) (qd i):=He hN hv hd hcd
end
def aI (H H':Hp):Prop:=∀ b o,H b=some o -> H' b=some o
theorem aI.refl (H:Hp):aI H H:=fun _ _ h=>h
theorem aI.trans {H H1 H2:Hp} (a:aI H H1) (b:aI H1 H2):aI H H2:=fun c o h=>b c o (a c o h)
theorem aI.free {H H':Hp} (e:aI H H') {l:Addr} (h:H' l=Option.none):H l=Option.none:=by
 cases q:H l with
 | none=>rfl
 | some o =>
  rw [e l o q] at h
  cases h
theorem aI.seq {K:PySem.W.Frag} {H H':Hp} {a:Addr} {xs:List V} (e:aI H H') (h:gE K H a xs):gE K H' a xs:=by
 rcases h with (h | ⟨o,h⟩) | h
 ·exact .inl (.inl (e _ _ h))
 ·exact .inl (.inr ⟨o,e _ _ h⟩)
 ·exact .inr h
open PySem PySem.Spec PyProof.Rows
abbrev vE:List Value:=[.type "ValueError", .type "Exception", .type "BaseException", .type "object"]
structure iS (K:PySem.W.Frag) (C:Addr) (bm:List Value):Prop where
 ex:∃ N nm q bs hdct sn sub ab col dd k0 k1 k2 k3 k5 od es ep,K.lookup C=some (excClassObj nm q C N bs bm hdct sn sub ab col dd k0 k1 k2 k3 k5 "ValueError.__new__") /\ K.lookup N=some od /\ od.data=.dict es ep /\ es.all (fun e=>match e.key with | .str _ _=>true | _=>false)=true /\ nsFind es "__init__" = none
theorem iS.at {K:PySem.W.Frag} {C:Addr} {bm:List Value} (x:iS K C bm):∃ N nm q bs hdct sn sub ab col dd k0 k1 k2 k3 k5 mN,(∀ h,K.In h -> h.get? C=some (excClassObj nm q C N bs bm hdct sn sub ab col dd k0 k1 k2 k3 k5 "ValueError.__new__") /\ h.Ns N mN) /\ mN "__init__" = none:=by
 obtain ⟨N,nm,q,bs,hdct,sn,sub,ab,col,dd,k0,k1,k2,k3,k5,od,es,ep,e1,e2,e3,e4,e5⟩:=x.ex
 refine ⟨N,nm,q,bs,hdct,sn,sub,ab,col,dd,k0,k1,k2,k3,k5,nsFind es,fun h k=>⟨k _ _ e1,?_⟩,e5⟩
 have hN:h.isNs N=true:=by
  unfold Heap.isNs
  rw [k _ _ e2]
  dsimp only
  rw [e3]
  exact e4
 obtain ⟨o,es',ep',f1,f2,f3,f4⟩:=Heap.Ns.of_isNs hN
 rw [k _ _ e2] at f1
 cases f1
 rw [e3] at f2
 cases f2
 exact ⟨_,es,ep,k _ _ e2,e3,f3,fun _=>rfl⟩
structure nS (K:PySem.W.Frag) (C:Addr) (up:List Addr):Prop where
 cls:iS K C (up.map Value.ref ++ vE)
 ups:∀ A ∈ up,∃ bm,iS K A bm
theorem ub {K:PySem.W.Frag} {h:Heap} (k:K.In h):∀ up:List Addr,(∀ A ∈ up,∃ bm,iS K A bm) -> OwnTail h vE (up.map Value.ref ++ vE)
 | [],_=>.base
 | A :: up,x=>by
  obtain ⟨bm,z⟩:=x A List.mem_cons_self
  obtain ⟨N,nm,q,bs,hdct,sn,sub,ab,col,dd,k0,k1,k2,k3,k5,mN,e1,e3⟩:=z.at
  exact .own (e1 h k).1 (e1 h k).2 e3 (ub k up fun B hB=>x B (List.mem_cons_of_mem _ hB))
section
variable {X:Cx} {pins:List (Addr × Obj)} {σ:St} {H:Hp} {s:Shared} {C:Addr} {up:List Addr} {x:Str} {np cpos pos:Pos} {e:Expr} {t:TA}
theorem Cr (hc:X.calm=true) (hx:∀ e s,X.xe e s -> False) (E:nS X.K C up) (hg:Gl X x) (hm:X.mg x=some (.ref C)) (ha:PA X [e] t) {P:Value -> Shared -> Prop} (I:Inv X pins σ H s)
  (ht:t σ H fun vs H1=>vs.length ≤ sizeLine /\ ∀ h' a s1 args,Inv X pins σ H1 s1 -> Heap.MadeExcOf s1.heap h' a (.ref C) args -> P (.ref a) { s1 with heap:=h' })
  (hdb:(x == ("__debug__" : Str))=false:=by decide) (he:starEach [e] X.env=(false,eval e X.env) :: starEach [] X.env:=by rfl) :
  wpAny (model X.prog X.w) X.A (exec (.Raise (some (.Call (.Name x np) [e] [] cpos)) none pos) X.env) (fun _ _=>False) P s:=by
 obtain ⟨N,nm,q,bs,hdct,sn,sub,ab,col,dd,k0,k1,k2,k3,k5,mN,e1,e3⟩:=E.cls.at
 refine wpAny_Raise_call_subU (C:=C) (N:=N) (nm:=nm) (q:=q) (bs:=bs) (bm:=up.map Value.ref ++ vE) (hdct:=hdct) (sn:=sn) (sub:=sub) (ab:=ab) (col:=col) (dd:=dd) (k0:=k0) (k1:=k1) (k2:=k2) (k3:=k3) (k5:=k5) (mN:=mN) (bmB:=vE) PySem.F.excBase_ValueError (by decide +kernel) PySem.F.excBase_ValueError ((ub I.kIn up E.ups).hasType (by decide +kernel)) (I.ok.hd hc) (by rw [he]; rfl) e3 ?_
 refine jE I hg hm ⟨rfl,?_⟩ hdb
 have hs:=ha cpos pins s σ H _ I ht
 rw [he] at hs ⊢
 refine Calls.evalArgs_plain (wpAny_mono hs (fun us s1 z=>?_) fun e s z=>False.elim (hx e s z))
 obtain ⟨vs,H1,I1,r,hl,q1⟩:=z
 exact ⟨rfl,by rw [<- r.length]; exact hl,(e1 _ I1.kIn).1,(e1 _ I1.kIn).2,ub I1.kIn up E.ups,fun h' a hm=>q1 h' a s1 us I1 hm⟩
end
theorem dY.has {P:Program} {w:World} {H:Hp} {h:Heap} {a:Addr} {o:HO} (x:dY P w H h a o):∃ ob,h.get? a=some ob:=by
 cases o with
 | lst xs=>obtain ⟨_,_,_,_,e⟩:=x; exact ⟨_,e⟩
 | tup xs=>obtain ⟨_,_,_,o,e,_⟩:=x; exact ⟨_,e⟩
 | dK kvs=>obtain ⟨_,_,_,_,o,_,_,e,_⟩:=x; exact ⟨_,e⟩
 | dT kvs=>obtain ⟨_,_,_,_,o,_,_,e,_⟩:=x; exact ⟨_,e⟩
 | set S n=>obtain ⟨o,_,_,_,e,_⟩:=x; exact ⟨_,e⟩
 | ins C dx fs=>obtain ⟨_,_,_,e,_⟩:=x; exact ⟨_,e⟩
 | own y=>exact x
 | xd fs=>obtain ⟨_,⟨_,_,_,e,_⟩,_⟩:=x; exact ⟨_,e⟩
 | rng lo hi=>obtain ⟨_,_,_,e⟩:=x; exact ⟨_,e⟩
 | frz ob u=>obtain ⟨e,_⟩:=x; exact ⟨_,e⟩
 | tbl ps=>exact ⟨_,x⟩
 | met f y=>exact ⟨_,x⟩
 | ext φ=>exact x.2.1
structure HK (P:Program) (w:World) (outer:List Env) (H:Hp) (s:Shared) (C a:Addr) (H':Hp) (s':Shared):Prop where
 os:s'.os=s.os
 bare:AllBare s'.gens
 un:Un (nr outer) [] H H' s.heap s'.heap
 hok:mF P w H' s'.heap
 new:s.heap.get? a=none
 nH:H' a=none
 fl:∃ B a0,Heap.FlyingW B outer a (.ref C) a0 s'.heap /\ ∀ b o,s'.heap.get? b=some o -> (H' b ≠ none \/ ((∃ o',s.heap.get? b=some o') /\ b ∉ nr outer)) -> B.get? b=some o
def Ie (P:Program) (w:World):yc:=fun outer H s E e s'=>∃ a C H',e=.ref a /\ HK P w outer H s C a H' s' /\ E e (some C) H'
def Made (X:Cx) (pins:List (Addr × Obj)) (σ:St) (H:Hp) (C:Addr) (e:Value) (s':Shared):Prop:=∃ a h args,e=.ref a /\ Inv X pins σ H { s' with heap:=h } /\ Heap.MadeExcOf h s'.heap a (.ref C) args
def FN (X:Cx) (pins:List (Addr × Obj)) (σ:St) (H:Hp) (C:Addr) (e:Value) (s':Shared):Prop:=∃ a s H0,e=.ref a /\ Inv X pins σ H0 s /\ HK X.prog X.w X.stack H0 s C a H s'
section
variable {X:Cx} {pins:List (Addr × Obj)} {σ:St} {H H0:Hp} {s s':Shared} {C a:Addr} {h1 h' B:Heap}
theorem Inv.offStack (I:Inv X pins σ H s) {b:Addr} {o:Obj} (e:X.s₀.heap.get? b=some o) (hb:b ∉ X.fs):b ∉ nr X.stack:=fun z=>by
 rcases List.mem_cons.mp (I.stkSub b z) with z | z
 ·exact absurd (Nat.lt_of_lt_of_le (Heap.lt_size e) I.ok.above) (by rw [z]; exact Nat.lt_irrefl _)
 ·exact hb z
theorem yx (hex:X.ex=[]) (I:Inv X pins σ H { s' with heap:=h1 }) (hB:B.StaysIn h') (cov:∀ b o,h1.get? b=some o -> (H b ≠ none \/ ((∃ o',X.s₀.heap.get? b=some o') /\ b ∉ nr X.stack)) -> B.get? b=some o)
  (up:h1.UpToSlots h') (na:h1.get? a=none \/ (X.s₀.heap.get? a=none /\ H a=none)) {a0:Value} (fl:Heap.FlyingW B X.outer a (.ref C) a0 h') :
  HK X.prog X.w X.outer X.H₀ X.s₀ C a H { s' with heap:=h' }:=by
 have un0:=I.base
 rw [hex] at un0
 have kept:∀ b o,X.s₀.heap.get? b=some o -> b ∉ X.fs -> ∀ o1,h1.get? b=some o1 -> h'.get? b=some o1:=fun b o e hb o1 e1=>hB _ _ (cov b o1 e1 (.inr ⟨⟨o,e⟩,I.offStack e hb⟩))
 have AK:∀ b u o,H b=some u -> h1.get? b=some o -> h'.get? b=some o:=fun b u o e e1=>hB _ _ (cov b o e1 (.inl (by rw [e]; simp)))
 refine ⟨I.os,I.bare,⟨fun b o e n hb hx=>?_,fun b o e n hb hx=>?_,fun b o e n hx=>un0.free b o e n hx,fun b o e hx=>?_,un0.tups,un0.frzs,un0.tbls⟩,fun b u e=>?_,?_,?_,B,a0,fl,fun b o e z=>?_⟩
 ·exact kept b o e hb o (un0.keep b o e n hb hx)
 ·obtain ⟨sl,e1⟩:=un0.slot b o e n hb hx
  obtain ⟨_,o2,e2,d2⟩:=I.ok.funs.mem hb
  rw [e] at e2
  cases e2
  obtain ⟨sl2,e3⟩:=up b _ e1 d2
  exact ⟨sl2,e3⟩
 ·obtain ⟨o1,e1⟩:=un0.there b o e hx
  by_cases hb:b ∈ X.fs
  ·cases q:X.H₀ b with
   | none =>
    obtain ⟨sl,e1⟩:=un0.slot b o e q hb hx
    obtain ⟨_,o2,e2,d2⟩:=I.ok.funs.mem hb
    rw [e] at e2
    cases e2
    obtain ⟨sl2,e3⟩:=up b _ e1 d2
    exact ⟨_,e3⟩
   | some u=>rw [I.ok.frf b hb] at q; cases q
  ·exact ⟨o1,kept b o e hb o1 e1⟩
 ·exact (I.hok b u e).stay (fun c v hc q=>by
   rcases hc with rfl | hc
   ·exact AK _ u v e q
   ·exact AK _ _ v hc q) (fun _ q=>q) fun _ _ q=>q
 ·rcases na with na | na
  ·cases q:X.s₀.heap.get? a with
   | none=>rfl
   | some o =>
    obtain ⟨o1,e1⟩:=un0.there a o q (by simp)
    have e2:h1.get? a=some o1:=e1
    rw [na] at e2; cases e2
  ·exact na.1
 ·rcases na with na | na
  ·cases q:H a with
   | none=>rfl
   | some u =>
    obtain ⟨ob,e1⟩:=(I.hok a u q).has
    have e2:h1.get? a=some ob:=e1
    rw [na] at e2; cases e2
  ·exact na.2
 ·rcases z with z | ⟨⟨o',e'⟩,hb⟩
  ·cases q:H b with
   | none=>exact absurd q z
   | some u =>
    obtain ⟨ob,e1⟩:=(I.hok b u q).has
    have e2:=AK b u ob q e1
    have e3:h'.get? b=some o:=e
    rw [e2] at e3; cases e3
    exact cov b _ e1 (.inl z)
  ·obtain ⟨o1,e1⟩:=un0.there b o' e' (by simp)
   have e2:=kept b o' e' hb o1 e1
   have e3:h'.get? b=some o:=e
   rw [e2] at e3; cases e3
   exact cov b _ e1 (.inr ⟨⟨o',e'⟩,I.offStack e' hb⟩)
theorem Gw {l:List Env}:∀ env ∈ l,∀ b,env.frame=some b -> b ∈ nr l:=fun env he b hb=>List.mem_filterMap.mpr ⟨env,he,hb⟩
theorem xm {e:Value} {E:Value -> Shared -> Prop} (hex:X.ex=[]) (hst:X.stack=X.env :: X.outer) (hf:X.env.frame=some X.env.locals) (z:Made X pins σ H C e s') :
  wpAny (model X.prog X.w) X.A (leaving X.env e) (fun _ s''=>∃ a,e=.ref a /\ HK X.prog X.w X.outer X.H₀ X.s₀ C a H s'') E s':=by
 obtain ⟨a,h,args,rfl,I,hm⟩:=z
 have hfr:=I.ok.frames
 have fun1:h.FunFrames X.base X.stack:=I.stack
 have fr0:=I.stkFree
 rw [hst] at hfr fun1
 refine PySem.wpAny_leaves_madeW (base:=PySem.W.hideAll h (nr X.stack)) (h:=h) hfr hf (fun b o q=>PySem.W.of_hideAll _ q) (PySem.W.funFrames_hide fun1 (by rw [hst]; exact Gw)) hm fun h' t x1 x2 x3 x4=>⟨a,rfl,?_⟩
 refine yx (h1:=h) (B:=PySem.W.hideAll h (nr X.stack)) hex I x1.1 (fun b o e1 z=>PySem.W.hideAll_get _ e1 fun hb=>?_) (fun b o e1 d=>x4 b o (hm.keeps b o e1) d) (.inl hm.new) x1
 rcases z with z | z
 ·exact z (fr0 b hb)
 ·exact z.2 hb
theorem xk {e:Value} {E:Value -> Shared -> Prop} (hex:X.ex=[]) (hst:X.stack=X.env :: X.outer) (hf:X.env.frame=some X.env.locals) (z:FN X pins σ H C e s') :
  wpAny (model X.prog X.w) X.A (leaving X.env e) (fun _ s''=>∃ a,e=.ref a /\ HK X.prog X.w X.outer X.H₀ X.s₀ C a H s'') E s':=by
 obtain ⟨a,s,H0,rfl,I0,F⟩:=z
 obtain ⟨B,a0,fl,cov⟩:=F.fl
 have hfr:=I0.ok.frames
 rw [hst] at hfr fl
 have I:=I0.call' F.os F.un F.hok F.bare (fun b hb=>absurd hb (by simp))
 refine PySem.wpAny_leaves_onW hfr hf fl fun h' x1 x2=>⟨a,rfl,?_⟩
 refine yx (h1:=s'.heap) (B:=B) hex I x1.1 (fun b o e1 z=>cov b o e1 ?_) x2 (.inr ⟨?_,F.nH⟩) x1
 ·rcases z with z | ⟨⟨o',e'⟩,hb⟩
  ·exact .inl z
  ·obtain ⟨o2,e2⟩:=I0.base.there b o' e' (by rw [hex]; simp)
   exact .inr ⟨⟨o2,e2⟩,hb⟩
 ·cases q:X.s₀.heap.get? a with
  | none=>rfl
  | some o =>
   obtain ⟨o2,e2⟩:=I0.base.there a o q (by rw [hex]; simp)
   rw [F.new] at e2; cases e2
end
open PySem PySem.Spec PyProof.Rows
abbrev Cx.inS (X:Cx) (e:Value):Cx:={ X with A:=X.A.mark (some e),calm:=false,xe:=fun _ _=>False }
section
variable {X:Cx} {pins:List (Addr × Obj)} {σ:St} {H H0:Hp} {s s':Shared} {C D a:Addr} {h1 h' B:Heap}
theorem Inv.inS (I:Inv X pins σ H s) (e:Value):Inv (X.inS e) pins σ H s:=
 ⟨⟨I.ok.mod,I.ok.kind,I.ok.glob,I.ok.blt,I.ok.above,I.ok.inj,I.ok.has,I.ok.cab,(fun z=>nomatch z),I.ok.frames,I.ok.stk,I.ok.exf,I.ok.bs,I.ok.bsz,I.ok.noex,I.ok.exfs,I.ok.funs,I.ok.frf⟩,I.os,I.bare,I.base,I.loc,I.cell,I.free,I.freeC,I.pin,I.hok,I.len⟩
theorem Inv.outS {e:Value} (ok:X.Ok) (I:Inv (X.inS e) pins σ H s):Inv X pins σ H s:=⟨ok,I.os,I.bare,I.base,I.loc,I.cell,I.free,I.freeC,I.pin,I.hok,I.len⟩
theorem ny {i:Nat} {n:Str} {m:Str -> Option Value} {v:Option Value} {tk:Nat} (I:Inv X pins σ H s) (hN:X.N.Nodup) (hi:X.N[i]? = some n)
  (hl:∀ (j:Nat) (x:Str) (w:V),X.N[j]? = some x -> σ[j]? = some (some w) -> HM X.env.scope x -> ∃ u,RelV w u /\ Look X.env s.heap m x u)
  (hn:h'.Ns X.env.locals (fun x=>if x=n then v else m x)) (sb:Heap.SameBut X.env.locals s.heap h'):Inv X pins (σ.set i none) H { s with heap:=h',toks:=tk }:=by
 have neL:∀ b o,X.s₀.heap.get? b=some o -> b ≠ X.env.locals:=fun b o e=>Nat.ne_of_lt (Nat.lt_of_lt_of_le (Heap.lt_size e) I.ok.above)
 have oth:∀ b,b ≠ X.env.locals -> h'.get? b=s.heap.get? b:=fun b hb=>sb.2 b hb
 refine ⟨I.ok,I.os,I.bare,⟨fun b o e n' hb hx=>?_,fun b o e n' hb hx=>?_,fun b o e n' hx=>I.base.free b o e n' hx,fun b o e hx=>?_,I.base.tups,I.base.frzs,I.base.tbls⟩,⟨_,hn,fun j x w e1 e2 e3=>?_⟩,fun x c e=>?_,I.free,I.freeC,fun p hp=>?_,fun b u e=>?_,by rw [List.length_set]; exact I.len⟩
 ·rw [oth b (neL b o e)]; exact I.base.keep b o e n' hb hx
 ·rw [oth b (neL b o e)]; exact I.base.slot b o e n' hb hx
 ·rw [oth b (neL b o e)]; exact I.base.there b o e hx
 ·have hj:j ≠ i:=fun z=>by
   rw [z] at e2
   by_cases hil:i < σ.length
   ·rw [List.getElem?_set_self hil] at e2; cases e2
   ·rw [List.getElem?_eq_none (by rw [List.length_set]; omega)] at e2; cases e2
  rw [List.getElem?_set_ne (Ne.symm hj)] at e2
  obtain ⟨u,r,l⟩:=hl j x w e1 e2 e3
  refine ⟨u,r,?_⟩
  have hxn:x ≠ n:=fun z=>by
   rw [z,<- hi] at e1
   exact hj (((List.getElem?_inj (List.getElem?_eq_some_iff.mp hi).1 hN).mp e1.symm).symm)
  rcases l with ⟨k,l⟩ | ⟨k,c,e,ob,z⟩
  ·exact .inl ⟨k,by dsimp only; rw [if_neg hxn]; exact l⟩
  ·exact .inr ⟨k,c,e,ob,by rw [oth c (I.cne x c e)]; exact z.1,z.2⟩
 ·obtain ⟨w,ob,z⟩:=I.cell x c e
  exact ⟨w,ob,by rw [oth c (I.cne x c e)]; exact z.1,z.2⟩
 ·obtain ⟨e,n',ne,nf,d⟩:=I.pin p hp
  exact ⟨by rw [oth p.1 ne]; exact e,n',ne,nf,d⟩
 ·refine (I.hok b u e).stay (fun c w hc q=>?_) (fun _ q=>q) fun _ _ q=>q
  have hcl:c ≠ X.env.locals:=fun z=>by
   have f:=I.free
   rw [<- z] at f
   rcases hc with rfl | hc
   ·rw [e] at f; cases f
   ·rw [hc] at f; cases f
  rw [oth c hcl]; exact q
def h9 (a C:Addr):Heap -> Prop:=fun h=>∃ oe vs,h.get? a=some oe /\ oe.cls=.ref C /\ oe.data=.fields vs
theorem ot (I0:Inv X pins σ H0 s) (F:HK X.prog X.w X.stack H0 s C a H s') (hB:B.StaysIn h') (cov:∀ b o,s'.heap.get? b=some o -> (H b ≠ none \/ ((∃ o',s.heap.get? b=some o') /\ b ∉ nr X.stack)) -> B.get? b=some o)
  (up:s'.heap.UpToSlots h') (he:h9 a C h') {tk:Nat}:Inv X pins σ (upd H a (.ext (h9 a C))) { s' with heap:=h',toks:=tk }:=by
 have un0:=F.un
 have ne:∀ b u,H b=some u -> b ≠ a:=fun b u e z=>by rw [z,F.nH] at e; cases e
 have ne':∀ b o,s.heap.get? b=some o -> b ≠ a:=fun b o e z=>by rw [z,F.new] at e; cases e
 have AK:∀ b u o,H b=some u -> s'.heap.get? b=some o -> h'.get? b=some o:=fun b u o e e1=>hB _ _ (cov b o e1 (.inl (by rw [e]; simp)))
 have kept:∀ b o,s.heap.get? b=some o -> b ∉ nr X.stack -> ∀ o1,s'.heap.get? b=some o1 -> h'.get? b=some o1:=fun b o e hb o1 e1=>hB _ _ (cov b o1 e1 (.inr ⟨⟨o,e⟩,hb⟩))
 have slot:∀ b o,s.heap.get? b=some o -> H0 b=none -> b ∈ nr X.stack -> ∃ sl,h'.get? b=some { o with slots:=sl }:=fun b o e n hb=>by
  obtain ⟨sl,e1⟩:=un0.slot b o e n hb (by simp)
  obtain ⟨_,o2,e2,d2⟩:=I0.stack.mem hb
  rw [e] at e2
  cases e2
  obtain ⟨sl2,e3⟩:=up b _ e1 d2
  exact ⟨sl2,e3⟩
 refine I0.call' (s':={ s' with heap:=h',toks:=tk }) (ch:=[]) F.os ⟨fun b o e n hb hx=>?_,fun b o e n hb hx=>slot b o e n hb,fun b o e n hx=>?_,fun b o e hx=>?_,fun b xs e=>?_,fun b o u e=>?_,fun b ps e=>?_⟩ (fun b u e=>?_) F.bare fun b hb=>absurd hb (by simp)
 ·exact kept b o e hb o (un0.keep b o e n hb hx)
 ·rw [aE (ne' b o e)]; exact un0.free b o e n hx
 ·obtain ⟨o1,e1⟩:=un0.there b o e hx
  by_cases hb:b ∈ nr X.stack
  ·obtain ⟨sl,q⟩:=slot b o e (I0.stkFree b hb) hb
   exact ⟨_,q⟩
  ·exact ⟨o1,kept b o e hb o1 e1⟩
 ·have:=un0.tups b xs e
  rw [aE (ne b _ this)]; exact this
 ·have:=un0.frzs b o u e
  rw [aE (ne b _ this)]; exact this
 ·obtain ⟨more,this⟩:=un0.tbls b ps e
  exact ⟨more,by rw [aE (ne b _ this)]; exact this⟩
 ·by_cases hb:b=a
  ·subst hb
   rw [aN] at e
   cases e
   obtain ⟨oe,vs,q⟩:=id he
   exact ⟨he,⟨oe,q.1⟩,fun g1 g2 ⟨o1,v1,q1⟩ k=>⟨o1,v1,k _ q1.1,q1.2⟩⟩
  ·rw [aE hb] at e
   refine (F.hok b u e).stay (fun c w hc q=>?_) (fun c q=>?_) fun c xs q=>?_
   ·rcases hc with rfl | hc
    ·exact AK _ u w e q
    ·exact AK _ _ w hc q
   ·rw [aE (ne c _ q)]; exact q
   ·rw [aE (ne c _ q)]; exact q
theorem zU {M:Model} {A:Around} {E:Value -> Shared -> Prop} {K:PySem.W.Frag} {upC:List Addr} {bD:List Value} (k:K.In s.heap) (cC:nS K C upC) (cD:iS K D bD) (hbD:bD.contains (.type "BaseException")=true) (hD:D=C \/ D ∈ upC) (he:h9 a C s.heap)
  {Q:Bool -> Shared -> Prop} (hq:Q true s):wpAny M A (excMatches (.ref a) (.ref D)) Q E s:=by
 obtain ⟨N,nm,q,bs,hdct,sn,sub,ab,col,dd,k0,k1,k2,k3,k5,mN,e1,_⟩:=cC.cls.at
 obtain ⟨N',nm',q',bs',hdct',sn',sub',ab',col',dd',j0,j1,j2,j3,j5,mN',e1',_⟩:=cD.at
 have hC:=(e1 _ k).1
 have hDc:=(e1' _ k).1
 obtain ⟨oe,vs,g1,g2,g3⟩:=he
 have hcB:(Value.ref D :: bD).contains (.type "BaseException")=true:=by rw [List.contains_cons,hbD,Bool.or_true]
 have hcC:(Value.ref C :: (upC.map Value.ref ++ vE)).contains (.ref D)=true:=by
  rw [List.contains_iff_mem]
  rcases hD with rfl | hD
  ·exact List.mem_cons_self
  ·exact List.mem_cons_of_mem _ (List.mem_append_left _ (List.mem_map.mpr ⟨D,hD,rfl⟩))
 have f:=PySem.tc_notTuple
 obtain ⟨hp,g,d,tk,os⟩:=s
 unfold excMatches
 repeat (first
  | (with_reducible refine wpAny_loadPart_at g1 ?_; rw [g2])
  | (with_reducible refine wpAny_loadPart_at hDc ?_)
  | (with_reducible refine PySem.wpAny_isSubtype_exc hDc ?_; rw [hcB])
  | (with_reducible refine PySem.wpAny_isSubtype_exc hC ?_; rw [hcC])
  | wp_step)
 exact hq
end
open PySem PySem.Spec PyProof.Rows
theorem lV {B h:Heap} {l:List Env} {a C:Addr} {a0:Value} (x:Heap.FlyingW B l a (.ref C) a0 h):h9 a C h:=by
 obtain ⟨_,_,_,oe,vs,T,oT,ts,e1,e2,e3,_⟩:=x
 exact ⟨oe,vs,e1,e2.1,e3⟩
def Ends.gone (D:Ends) (i:Nat):Ends:={ nx:=fun σ H=>D.nx (σ.set i none) H,bk:=fun σ H=>D.bk (σ.set i none) H,ct:=fun σ H=>D.ct (σ.set i none) H,rt:=D.rt }
section
variable {X:Cx} {pins:List (Addr × Obj)} {σ:St} {H:Hp} {s':Shared} {C D:Addr} {upC:List Addr} {bD:List Value} {e:Value} {i:Nat} {n x:Str} {b₀:Stmt} {suite:List Stmt} {np pos:Pos} {Dn:Ends} {E:Value -> Shared -> Prop}
theorem wx (hst:X.stack=X.env :: X.outer) (hf:X.env.frame=some X.env.locals) (z:FN X pins σ H C e s') (cC:nS X.K C upC) (cD:iS X.K D bD) (hbD:bD.contains (.type "BaseException")=true) (hD:D=C \/ D ∈ upC)
  (hg:Gl X x) (hm:X.mg x=some (.ref D)) (hN:X.N.Nodup) (hi:X.N[i]? = some n) (hl:X.env.scope.names.lookup n=some .local) (hlo:X.env.kindOf n=some .local)
  (hs:∀ a s2,H a=none -> Inv (X.inS (.ref a)) pins (σ.set i (some (.ref a))) (upd H a (.ext (h9 a C))) s2 -> wpAny (model X.prog X.w) (X.A.mark (some (.ref a))) (execs (b₀ :: suite) X.env) (SP (X.inS (.ref a)) pins (Dn.gone i)) (fun _ _=>False) s2)
  (hdb:(x == ("__debug__" : Str))=false:=by decide) :
  wpAny (model X.prog X.w) X.A (noteFrame e X.env) (fun _ s₂=>wpAny (model X.prog X.w) X.A (setFlight e none) (fun _ s₃=>wpAny (model X.prog X.w) X.A (handleBy e X.env [.ExceptHandler (some (.Name x np)) (some n) (b₀ :: suite) pos]) (SP X pins Dn) E s₃) E s₂) E s':=by
 obtain ⟨a,s,H0,rfl,I0,F⟩:=z
 obtain ⟨B,a0,fl,cov⟩:=F.fl
 have hfr:=I0.ok.frames
 rw [hst] at fl hfr
 have hp:(X.env.scope.kind == .class || (X.env.scope.kind == .module && X.env.locals != X.env.globals))=false:=by rw [I0.ok.kind]; rfl
 refine PySem.wpAny_looks_onW hfr hf fl fun h₄ x4 u4=>PySem.wpAny_landsW x4 fun h₅ x5 u5=>?_
 have I5:=ot (tk:=s'.toks) I0 F x5.1 cov (u4.trans u5) (lV x5)
 refine wpAny_handleBy_cons (codeAny_handlers_test ?_) (by intro q; cases q)
 refine jE (I5.inS (.ref a)) hg hm ?_ hdb
 refine zU I5.kIn cC cD hbD hD (lV x5) ?_
 show codeAny _ _ _ _ _
 refine codeAny_handlers_suite_as ?_
 refine lands_againW x5 fun h₆ x6 u6=>?_
 have I6:=ot (tk:=s'.toks) I0 F x6.1 cov ((u4.trans u5).trans u6) (lV x6)
 refine fL (i:=i) (v:=.ref a) I6 hN hi (.inl hl) rfl (fun s7 I7=>?_) (.inr hl)
 refine wpAny_mono (hs a s7 F.nH (I7.inS (.ref a))) (fun f s8 h8=>?_) fun _ _ q=>False.elim q
 cases f with
 | next =>
  obtain ⟨σ',H',I8,q⟩:=h8
  have I9:=I8.outS I0.ok
  obtain ⟨m,hn,hll⟩:=id I9.loc
  exact wpAny_nameGoes_keeps hlo hn hp fun h' v hn' sb=>⟨σ'.set i none,H',ny I9 hN hi hll hn' sb,q⟩
 | brk =>
  obtain ⟨σ',H',I8,q⟩:=h8
  have I9:=I8.outS I0.ok
  obtain ⟨m,hn,hll⟩:=id I9.loc
  exact wpAny_nameGoes_keeps hlo hn hp fun h' v hn' sb=>⟨σ'.set i none,H',ny I9 hN hi hll hn' sb,q⟩
 | cont =>
  obtain ⟨σ',H',I8,q⟩:=h8
  have I9:=I8.outS I0.ok
  obtain ⟨m,hn,hll⟩:=id I9.loc
  exact wpAny_nameGoes_keeps hlo hn hp fun h' v hn' sb=>⟨σ'.set i none,H',ny I9 hN hi hll hn' sb,q⟩
 | ret u =>
  obtain ⟨w,σ',H',I8,r,q⟩:=h8
  have I9:=I8.outS I0.ok
  obtain ⟨m,hn,hll⟩:=id I9.loc
  exact wpAny_nameGoes_keeps hlo hn hp fun h' v hn' sb=>⟨w,σ'.set i none,H',ny I9 hN hi hll hn' sb,r,q⟩
end
open PySem PySem.Spec PyProof.Rows
structure we (K:PySem.W.Frag) (C:Addr) (bm:List Value):Prop where
 cls:iS K C bm
 fc:PySem.W.findIn K (.ref C) "__class__" = some (some (.builtin "object.__class__"))
 fg:PySem.W.findIn K (.ref C) "__getattribute__" = some (some (.builtin "BaseException.__getattribute__"))
 fn:PySem.W.findIn K (.ref C) "__getattr__" = some none
 ob:bm.contains (.type "object")=true
 be:bm.contains (.type "BaseException")=true
section
variable {prog:Program} {w:World} {A:Around} {E:Value -> Shared -> Prop} {h:Heap} {g:Array GenState} {d:Drawn} {t:Nat} {os:OsState} {a C:Addr} {o:Obj} {K:PySem.W.Frag} {bm:List Value}
theorem Ga {R:Result -> Shared -> Prop} (X:we K C bm) (k:K.In h) (hx:h.get? a=some o) (hc:o.cls=.ref C) (hq:R (.ok (.ret (.ref C))) ⟨h,g,d,t,os⟩) :
  codeAny (model prog w) A (.call (.builtin "getset_descriptor.__get__") ⟨[.builtin "object.__class__", .ref a,.ref C],[]⟩) R ⟨h,g,d,t,os⟩:=by
 obtain ⟨N,nm,q,bs,hdct,sn,sub,ab,col,dd,k0,k1,k2,k3,k5,mN,e1,_⟩:=X.cls.at
 have hC:=(e1 _ k).1
 have tD:(⟨h,g,d,t,os⟩:Shared).TypeIs (.builtin "object.__class__") "getset_descriptor" := F.typeOf_object_class
 have hcO:(Value.ref C :: bm).contains (.type (".".intercalate ("object.__class__".cutAt '.').dropLast))=true:=by
  rw [F.owner_object_class,List.contains_cons,X.ob,Bool.or_true]
 refine codeAny_call_builtin F.slot_gs_get.plain F.entry_gs_get (F.slot_gs_get.check _ _ _ _ _ _ _ _ tD (F.args_gs_get _ _ _) ?_)
 repeat (any_goals (first
  | assumption
  | (with_reducible refine wpAny_loadPart_at hx ?_; rw [hc])
  | (with_reducible refine PySem.wpAny_isSubtype_exc hC ?_; rw [hcO])
  | wp_step))
 refine ⟨Code.quiet_builtin _ (by decide +kernel),codeAny_builtin F.entry_object_class ?_⟩
 repeat (any_goals (first
  | assumption
  | (with_reducible refine wpAny_loadPart_at hx ?_; rw [hc])
  | wp_step))
theorem F9 {tk:Tok} {Q:Fin -> Shared -> Prop} (X:we K C bm) (k:K.In h) (hx:h.get? a=some o) (hc:o.cls=.ref C) (hq:Q (.done (.ret (.ref C))) ⟨h,g,d,t,os⟩) :
  wpAny (model prog w) A (Builtin.«object.__getattribute__» ⟨[.ref a,.str "__class__" tk],[]⟩) Q E ⟨h,g,d,t,os⟩:=by
 have tD:(⟨h,g,d,t,os⟩:Shared).TypeIs (.builtin "object.__class__") "getset_descriptor" := F.typeOf_object_class
 have g5:=F.typeOf_object_class
 have g6:=F.slot_gs_get.lookup
 have g7:=F.slot_gs_set.lookup
 have lk:=fun M=>PySem.W.looks_findIn (M:=M) k X.fc
 repeat (any_goals (first
  | assumption
  | (with_reducible refine wpAny_loadPart_at hx ?_; rw [hc])
  | (with_reducible refine (lk _).here ?_)
  | wp_step))
 refine Ga X k hx hc ?_
 repeat (any_goals (first
  | assumption
  | wp_step))
theorem FZ {M:Model} {nameV:Value} {Q:Unit -> Shared -> Prop} (X:we K C bm) (k:K.In h) (hx:h.get? a=some o) (hc:o.cls=.ref C) (hq:Q () ⟨h,g,d,t,os⟩) :
  wpAny M A (checkBuiltinCall "BaseException.__getattribute__" ⟨[.ref a,nameV],[]⟩) Q E ⟨h,g,d,t,os⟩:=by
 obtain ⟨N,nm,q,bs,hdct,sn,sub,ab,col,dd,k0,k1,k2,k3,k5,mN,e1,_⟩:=X.cls.at
 have hC:=(e1 _ k).1
 have y1:builtinKind "BaseException.__getattribute__" = some .slot:=by decide +kernel
 have y2:splitId "BaseException.__getattribute__" = some ("BaseException", "__getattribute__"):=by decide +kernel
 have hcE:(Value.ref C :: bm).contains (.type "BaseException")=true:=by rw [List.contains_cons,X.be,Bool.or_true]
 have y3:=F.args_bexc_ga (.ref a) nameV
 simp only [checkBuiltinCall,y1,y2]
 refine wpAny_bind ?_
 unfold isInstance
 repeat (first
  | (with_reducible refine wpAny_loadPart_at hx ?_; rw [hc])
  | (with_reducible refine PySem.wpAny_isSubtype_exc hC ?_; rw [hcE])
  | wp_step)
 exact hq
theorem FY {tk:Tok} {Q:Value -> Shared -> Prop} (X:we K C bm) (k:K.In h) (hx:h.get? a=some o) (hc:o.cls=.ref C) (hq:Q (.ref C) ⟨h,g,d,t,os⟩) :
  wpAny (model prog w) A (getAttrBy (.ref a) (.str "__class__" tk) false) Q E ⟨h,g,d,t,os⟩:=by
 have lg:=fun M=>PySem.W.looks_findIn (M:=M) k X.fg
 have ln:=fun M=>PySem.W.looks_findIn (M:=M) k X.fn
 have z1:=F.attr_ValueError.ga.bind (.ref a)
 have z2:(Value.builtin "BaseException.__getattribute__" == Value.builtin "object.__getattribute__")=false:=by decide +kernel
 have z3:(onTheHeap (Value.ref C) && Value.builtin "BaseException.__getattribute__" == Value.builtin "object.__getattribute__")=false:=by rw [z2]; rfl
 repeat (any_goals (first
  | assumption
  | (with_reducible refine wpAny_loadPart_at hx ?_; rw [hc])
  | (with_reducible refine (lg _).here ?_)
  | (with_reducible refine (ln _).here ?_)
  | wp_step))
 refine codeAny_call_builtin F.attr_ValueError.ga.plain F.entry_bexc_ga (FZ X k hx hc (F9 X k hx hc ?_))
 repeat (any_goals (first
  | assumption
  | wp_step))
theorem FW {Q:Option Value -> Shared -> Prop} (X:we K C bm) (k:K.In h) (hx:h.get? a=some o) (hc:o.cls=.ref C) (hq:Q (some (.ref C)) ⟨h,g,d,t + 1,os⟩) :
  wpAny (model prog w) A (getAttr? (.ref a) "__class__") Q E ⟨h,g,d,t,os⟩:=by
 unfold getAttr? getAttrBy?
 repeat (any_goals (first
  | assumption
  | (with_reducible apply FY X k hx hc)
  | wp_step))
theorem BI (X:we K C bm):PySem.W.KitX K (.ref a) (.ref C) (h9 a C):=by
 obtain ⟨N,nm,q,bs,hdct,sn,sub,ab,col,dd,k0,k1,k2,k3,k5,mN,e1,_⟩:=X.cls.at
 refine ⟨fun M h k he=>?_,fun M h k he=>?_,fun h tp dd' its n sl k htp=>?_,fun {prog w A E Q s} k he hq=>?_⟩
 ·obtain ⟨oe,vs,g1,g2,g3⟩:=he
  intro A' Q' E' s' kk hq
  obtain ⟨hp,gg,dd,tk,os⟩:=s'
  have g1':=kk _ _ g1
  repeat (first
   | (with_reducible refine wpAny_loadPart_at g1' ?_; rw [g2])
   | wp_step)
  exact hq
 ·intro A' Q' E' s' kk hq
  unfold isType loadHead
  exact wpAny_bind (wpAny_loadPart (kk _ _ (e1 _ k).1) (wpAny_pure hq))
 ·refine Bool.eq_false_iff.mpr fun z=>?_
  have e:C=tp:=Value.ref.inj (beq_iff_eq.mp z)
  subst e
  have z2:=(e1 _ k).1.symm.trans htp
  injection z2 with z2
  have z3:=congrArg Obj.cls z2
  injection z3 with z3
  exact absurd z3 (by decide)
 ·obtain ⟨oe,vs,g1,g2,g3⟩:=he
  obtain ⟨hp,gg,dd,tk,os⟩:=s
  exact FW X k g1 g2 hq
end
end L2
namespace TM
open PySem PySem.Spec PyProof.Rows L2
inductive T where
 | non | bl (b:Bool) | int (i:Int) | str (x:Str) | ty (n:String) | tup (ts:List T) | lst (ts:List T) | scr (ts:List T) | dic | obj (C:Addr) (ns:List Str) (ts:List T) | ptr (a:Addr) | exc (C:Addr)
mutual
def Rep (K:PySem.W.Frag) (F:Hp):T -> V -> Prop
 | .non,v=>v=.non
 | .bl b,v=>v=.bl b
 | .int i,v=>v=.int i
 | .str x,v=>v=.str x
 | .ty n,v=>v=.ty n
 | .tup ts,v=>∃ a xs,v=.ref a /\ jP K F a xs /\ aP K F ts xs
 | .lst ts,v=>∃ a xs,v=.ref a /\ F a=some (.lst xs) /\ aP K F ts xs
 | .scr ts,v=>∃ a xs,v=.ref a /\ gE K F a xs /\ aP K F ts xs
 | .dic,v=>∃ a,v=.ref a /\ F a=some (.dK [])
 | .obj C ns ts,v=>∃ a dx vs,v=.ref a /\ F a=some (.ins C dx (ns.zip vs)) /\ vs.length=ns.length /\ aP K F ts vs
 | .ptr a,v=>v=.ref a
 | .exc C,v=>∃ a,v=.ref a /\ F a=some (.ext (h9 a C))
def aP (K:PySem.W.Frag) (F:Hp):List T -> List V -> Prop
 | [],xs=>xs=[]
 | t :: ts,xs=>∃ v r,xs=v :: r /\ Rep K F t v /\ aP K F ts r
end
theorem bI {K:PySem.W.Frag} {H H':Hp} {a:Addr} {xs:List V} (e:aI H H') (h:jP K H a xs):jP K H' a xs:=by
 rcases h with (h | ⟨o,h⟩) | h
 ·exact .inl (.inl (e _ _ h))
 ·exact .inl (.inr ⟨o,e _ _ h⟩)
 ·exact .inr h
mutual
theorem Rep.mono {K:PySem.W.Frag} {F F':Hp} (e:aI F F'):∀ {t:T} {v:V},Rep K F t v -> Rep K F' t v
 | .non,_,h=>h
 | .bl _,_,h=>h
 | .int _,_,h=>h
 | .str _,_,h=>h
 | .ty _,_,h=>h
 | .tup ts,_,h=>by
  obtain ⟨a,xs,h1,h2,h3⟩:=h
  exact ⟨a,xs,h1,bI e h2,aP.mono e h3⟩
 | .lst ts,_,h=>by
  obtain ⟨a,xs,h1,h2,h3⟩:=h
  exact ⟨a,xs,h1,e _ _ h2,aP.mono e h3⟩
 | .scr ts,_,h=>by
  obtain ⟨a,xs,h1,h2,h3⟩:=h
  exact ⟨a,xs,h1,e.seq h2,aP.mono e h3⟩
 | .dic,_,h=>by
  obtain ⟨a,h1,h2⟩:=h
  exact ⟨a,h1,e _ _ h2⟩
 | .obj C ns ts,_,h=>by
  obtain ⟨a,dx,vs,h1,h2,h3,h4⟩:=h
  exact ⟨a,dx,vs,h1,e _ _ h2,h3,aP.mono e h4⟩
 | .ptr _,_,h=>h
 | .exc _,_,h=>by
  obtain ⟨a,h1,h2⟩:=h
  exact ⟨a,h1,e _ _ h2⟩
theorem aP.mono {K:PySem.W.Frag} {F F':Hp} (e:aI F F'):∀ {ts:List T} {vs:List V},aP K F ts vs -> aP K F' ts vs
 | [],_,h=>h
 | t :: ts,_,h=>by
  obtain ⟨v,r,h1,h2,h3⟩:=h
  exact ⟨v,r,h1,Rep.mono e h2,aP.mono e h3⟩
end
section
variable {K:PySem.W.Frag} {F:Hp}
theorem aP.length:∀ {ts:List T} {vs:List V},aP K F ts vs -> vs.length=ts.length
 | [],_,h=>by cases h; rfl
 | t :: ts,_,h=>by
  obtain ⟨v,r,rfl,h2,h3⟩:=h
  simp [aP.length h3]
theorem aP.get:∀ {ts:List T} {vs:List V} {i:Nat} {t:T},aP K F ts vs -> ts[i]? = some t -> ∃ v,vs[i]? = some v /\ Rep K F t v
 | [],_,_,_,h,e=>by simp at e
 | t :: ts,_,0,_,h,e=>by
  obtain ⟨v,r,rfl,h2,h3⟩:=h
  simp at e; subst e
  exact ⟨v,rfl,h2⟩
 | t :: ts,_,i + 1,u,h,e=>by
  obtain ⟨v,r,rfl,h2,h3⟩:=h
  obtain ⟨w,h4,h5⟩:=aP.get (i:=i) (t:=u) h3 (by simpa using e)
  exact ⟨w,by simpa using h4,h5⟩
theorem aP.append:∀ {ts us:List T} {vs ws:List V},aP K F ts vs -> aP K F us ws -> aP K F (ts ++ us) (vs ++ ws)
 | [],_,_,_,h,h'=>by cases h; exact h'
 | t :: ts,_,_,_,h,h'=>by
  obtain ⟨v,r,rfl,h2,h3⟩:=h
  exact ⟨v,r ++ _,rfl,h2,aP.append h3 h'⟩
theorem aP.one {t:T} {v:V} (h:Rep K F t v):aP K F [t] [v]:=⟨v,[],rfl,h,rfl⟩
theorem aP.take:∀ {ts:List T} {vs:List V} (n:Nat),aP K F ts vs -> aP K F (ts.take n) (vs.take n)
 | _,_,0,_=>rfl
 | [],_,n + 1,h=>by cases h; rfl
 | t :: ts,_,n + 1,h=>by
  obtain ⟨v,r,rfl,h2,h3⟩:=h
  exact ⟨v,r.take n,rfl,h2,aP.take n h3⟩
theorem aP.drop:∀ {ts:List T} {vs:List V} (n:Nat),aP K F ts vs -> aP K F (ts.drop n) (vs.drop n)
 | _,_,0,h=>h
 | [],_,n + 1,h=>by cases h; rfl
 | t :: ts,_,n + 1,h=>by
  obtain ⟨v,r,rfl,h2,h3⟩:=h
  exact aP.drop n h3
theorem qE:∀ ns:List Int,aP K F (ns.map T.int) (ns.map V.int)
 | []=>rfl
 | n :: ns=>⟨.int n,ns.map V.int,rfl,rfl,qE ns⟩
end
structure aX (F H F' H':Hp):Prop where
 sF:aI F F'
 sH:aI H H'
 fh:aI F' H'
 nw:∀ a o,F' a=some o -> F a=some o \/ H a=none
theorem aX.refl {F H:Hp} (h:aI F H):aX F H F H:=⟨aI.refl _,aI.refl _,h,fun _ _ e=>.inl e⟩
theorem aX.trans {F H F1 H1 F2 H2:Hp} (a:aX F H F1 H1) (b:aX F1 H1 F2 H2):aX F H F2 H2:=
 ⟨a.sF.trans b.sF,a.sH.trans b.sH,b.fh,fun x o e=>by
  rcases b.nw x o e with e | e
  ·exact a.nw x o e
  ·exact .inr (a.sH.free e)⟩
theorem bO {H:Hp} {p:Addr} {o:HO} (h:H p=none):aI H (upd H p o):=fun b u q=>by rw [aE (bq q h)]; exact q
theorem aX.new {F H:Hp} {p:Addr} (o:HO) (h:aI F H) (n:H p=none):aX F H (upd F p o) (upd H p o):=by
 refine ⟨bO (h.free n),bO n,fun b u q=>?_,fun a u q=>?_⟩
 ·by_cases e:b=p
  ·subst e; rw [aN] at q ⊢; exact q
  ·rw [aE e] at q ⊢; exact h _ _ q
 ·by_cases e:a=p
  ·subst e; exact .inr n
  ·rw [aE e] at q; exact .inl q
inductive Sl where
 | sh (t:T) | own (ts:List T)
abbrev aA:=List (Option Sl)
def uj (K:PySem.W.Frag) (H₀ F H:Hp):Sl -> V -> Prop
 | .sh t,v=>Rep K F t v
 | .own ts,v=>∃ p vs,v=.ref p /\ H p=some (.lst vs) /\ F p=none /\ H₀ p=none /\ aP K F ts vs
structure az (K:PySem.W.Frag) (F₀ H₀ F H:Hp) (σ:L2.St) (τ:aA):Prop where
 g:aX F₀ H₀ F H
 len:σ.length=τ.length
 sl:∀ (i:Nat) (s:Sl),τ[i]? = some (some s) -> ∃ v,σ[i]? = some (some v) /\ uj K H₀ F H s v
 dj:∀ (i j:Nat) (ts us:List T) (p:Addr),i ≠ j -> τ[i]? = some (some (.own ts)) -> τ[j]? = some (some (.own us)) -> σ[i]? = some (some (.ref p)) -> σ[j]? ≠ some (some (.ref p))
section
variable {K:PySem.W.Frag} {F₀ H₀ F H F' H':Hp} {σ:L2.St} {τ:aA}
theorem uj.grow {s:Sl} {v:V} (g:aX F H F' H') (h:uj K H₀ F H s v):uj K H₀ F' H' s v:=by
 cases s with
 | sh t=>exact Rep.mono g.sF h
 | own ts =>
  obtain ⟨p,vs,h1,h2,h3,h4,h5⟩:=h
  refine ⟨p,vs,h1,g.sH _ _ h2,?_,h4,aP.mono g.sF h5⟩
  cases e:F' p with
  | none=>rfl
  | some o =>
   rcases g.nw p o e with q | q
   ·rw [q] at h3; cases h3
   ·rw [q] at h2; cases h2
theorem az.grow (E:az K F₀ H₀ F H σ τ) (g:aX F H F' H'):az K F₀ H₀ F' H' σ τ:=by
 refine ⟨E.g.trans g,E.len,fun i s e=>?_,E.dj⟩
 obtain ⟨v,h1,h2⟩:=E.sl i s e
 exact ⟨v,h1,h2.grow g⟩
theorem az.set {i:Nat} {t:T} {v:V} (E:az K F₀ H₀ F H σ τ) (r:Rep K F t v):az K F₀ H₀ F H (σ.set i (some v)) (τ.set i (some (.sh t))):=by
 refine ⟨E.g,by simp [E.len],fun j s e=>?_,fun j k ts us p hjk e1 e2 e3=>?_⟩
 ·by_cases hj:i=j
  ·subst hj
   by_cases hl:i < τ.length
   ·rw [List.getElem?_set_self hl] at e
    cases e
    exact ⟨v,List.getElem?_set_self (by rw [E.len]; exact hl),r⟩
   ·rw [List.getElem?_eq_none (by simp; omega)] at e; cases e
  ·rw [List.getElem?_set_ne hj] at e
   rw [List.getElem?_set_ne hj]
   exact E.sl j s e
 ·have n1:i ≠ j:=fun z=>by
   subst z
   by_cases hl:i < τ.length
   ·rw [List.getElem?_set_self hl] at e1; cases e1
   ·rw [List.getElem?_eq_none (by simp; omega)] at e1; cases e1
  have n2:i ≠ k:=fun z=>by
   subst z
   by_cases hl:i < τ.length
   ·rw [List.getElem?_set_self hl] at e2; cases e2
   ·rw [List.getElem?_eq_none (by simp; omega)] at e2; cases e2
  rw [List.getElem?_set_ne n1] at e1 e3
  rw [List.getElem?_set_ne n2] at e2 ⊢
  exact E.dj j k ts us p hjk e1 e2 e3
theorem az.freeze {i:Nat} {ts:List T} (E:az K F₀ H₀ F H σ τ) (e:τ[i]? = some (some (.own ts))) :
  ∃ F' v,σ[i]? = some (some v) /\ az K F₀ H₀ F' H σ (τ.set i (some (.sh (.lst ts)))) /\ aI F F' /\ Rep K F' (.lst ts) v:=by
 obtain ⟨v,h1,p,vs,rfl,h2,h3,h4,h5⟩:=E.sl i _ e
 have sF:aI F (upd F p (.lst vs)):=bO h3
 have rp:Rep K (upd F p (.lst vs)) (.lst ts) (.ref p):=⟨p,vs,rfl,aN,aP.mono sF h5⟩
 refine ⟨upd F p (.lst vs),.ref p,h1,⟨⟨E.g.sF.trans sF,E.g.sH,fun b o q=>?_,fun b o q=>?_⟩,by simp [E.len],fun j s q=>?_,fun j k us ws r hjk e1 e2 e3=>?_⟩,sF,rp⟩
 ·by_cases z:b=p
  ·subst z; rw [aN] at q; cases q; exact h2
  ·rw [aE z] at q; exact E.g.fh _ _ q
 ·by_cases z:b=p
  ·subst z; exact .inr h4
  ·rw [aE z] at q; exact E.g.nw _ _ q
 ·by_cases hj:i=j
  ·subst hj
   have hl:i < τ.length:=by
    have:=(List.getElem?_eq_some_iff.mp e).1
    exact this
   rw [List.getElem?_set_self hl] at q
   cases q
   exact ⟨_,h1,rp⟩
  ·rw [List.getElem?_set_ne hj] at q
   obtain ⟨v,g1,g2⟩:=E.sl j s q
   refine ⟨v,g1,?_⟩
   cases s with
   | sh t=>exact Rep.mono sF g2
   | own us =>
    obtain ⟨r,ws,rfl,k2,k3,k4,k5⟩:=g2
    have hne:r ≠ p:=fun z=>by
     subst z
     exact E.dj i j ts us r hj e q h1 g1
    exact ⟨r,ws,rfl,k2,by rw [aE hne]; exact k3,k4,aP.mono sF k5⟩
 ·have hl:i < τ.length:=(List.getElem?_eq_some_iff.mp e).1
  have n1:i ≠ j:=fun z=>by subst z; rw [List.getElem?_set_self hl] at e1; cases e1
  have n2:i ≠ k:=fun z=>by subst z; rw [List.getElem?_set_self hl] at e2; cases e2
  rw [List.getElem?_set_ne n1] at e1
  rw [List.getElem?_set_ne n2] at e2
  exact E.dj j k us ws r hjk e1 e2 e3
theorem az.setOwn {i:Nat} {ts:List T} {vs:List V} {p:Addr} (E:az K F₀ H₀ F H σ τ) (n:H p=none) (r:aP K F ts vs):az K F₀ H₀ F (upd H p (.lst vs)) (σ.set i (some (.ref p))) (τ.set i (some (.own ts))):=by
 have sH:aI H (upd H p (.lst vs)):=bO n
 have fp:F p=none:=E.g.fh.free n
 have old:∀ {j:Nat} {s:Sl},i ≠ j -> τ[j]? = some (some s) -> ∃ v,σ[j]? = some (some v) /\ uj K H₀ F (upd H p (.lst vs)) s v:=fun {j s} hj q=>by
  obtain ⟨v,g1,g2⟩:=E.sl j s q
  refine ⟨v,g1,?_⟩
  cases s with
  | sh t=>exact g2
  | own us =>
   obtain ⟨r,ws,rfl,k2,k3,k4,k5⟩:=g2
   exact ⟨r,ws,rfl,sH _ _ k2,k3,k4,k5⟩
 refine ⟨⟨E.g.sF,E.g.sH.trans sH,E.g.fh.trans sH,E.g.nw⟩,by simp [E.len],fun j s e=>?_,fun j k ts' us q hjk e1 e2 e3 e4=>?_⟩
 ·by_cases hj:i=j
  ·subst hj
   by_cases hl:i < τ.length
   ·rw [List.getElem?_set_self hl] at e
    cases e
    exact ⟨.ref p,List.getElem?_set_self (by rw [E.len]; exact hl),p,vs,rfl,aN,fp,E.g.sH.free n,r⟩
   ·rw [List.getElem?_eq_none (by simp; omega)] at e; cases e
  ·rw [List.getElem?_set_ne hj] at e
   rw [List.getElem?_set_ne hj]
   exact old hj e
 ·by_cases hj:i=j
  ·subst hj
   have n2:i ≠ k:=hjk
   rw [List.getElem?_set_ne n2] at e2 e4
   by_cases hl:i < τ.length
   ·rw [List.getElem?_set_self (by rw [E.len]; exact hl)] at e3
    cases e3
    obtain ⟨v,g1,r',ws,rfl,k2,_⟩:=E.sl k _ e2
    rw [g1] at e4; cases e4
    rw [n] at k2; cases k2
   ·rw [List.getElem?_eq_none (by simp; omega)] at e1; cases e1
  ·rw [List.getElem?_set_ne hj] at e1 e3
   by_cases hk:i=k
   ·subst hk
    by_cases hl:i < τ.length
    ·rw [List.getElem?_set_self (by rw [E.len]; exact hl)] at e4
     cases e4
     obtain ⟨v,g1,r',ws,rfl,k2,_⟩:=E.sl j _ e1
     rw [g1] at e3; cases e3
     rw [n] at k2; cases k2
    ·rw [List.getElem?_eq_none (by simp; omega)] at e2; cases e2
   ·rw [List.getElem?_set_ne hk] at e2 e4
    exact E.dj j k ts' us q hjk e1 e2 e3 e4
theorem az.turnOwn {i:Nat} {ts us:List T} {vs:List V} {p:Addr} (E:az K F₀ H₀ F H σ τ) (e:τ[i]? = some (some (.own ts))) (hp:σ[i]? = some (some (.ref p))) (r:aP K F us vs) :
  az K F₀ H₀ F (upd H p (.lst vs)) σ (τ.set i (some (.own us))):=by
 obtain ⟨v,h1,p',vs',rfl,h2,h3,h4,h5⟩:=E.sl i _ e
 rw [hp] at h1; cases h1
 have hl:i < τ.length:=(List.getElem?_eq_some_iff.mp e).1
 refine ⟨⟨E.g.sF,fun b o q=>?_,fun b o q=>?_,E.g.nw⟩,by simp [E.len],fun j s q=>?_,fun j k ts' us' q hjk e1 e2 e3=>?_⟩
 ·rw [aE (fun z=>by subst z; rw [h4] at q; cases q)]; exact E.g.sH _ _ q
 ·rw [aE (fun z=>by subst z; rw [h3] at q; cases q)]; exact E.g.fh _ _ q
 ·by_cases hj:i=j
  ·subst hj
   rw [List.getElem?_set_self hl] at q; cases q
   exact ⟨_,hp,p,vs,rfl,aN,h3,h4,r⟩
  ·rw [List.getElem?_set_ne hj] at q
   obtain ⟨v,g1,g2⟩:=E.sl j s q
   refine ⟨v,g1,?_⟩
   cases s with
   | sh t=>exact g2
   | own us' =>
    obtain ⟨r',ws,rfl,k2,k3,k4,k5⟩:=g2
    have hne:r' ≠ p:=fun z=>by subst z; exact E.dj i j ts us' r' hj e q hp g1
    exact ⟨r',ws,rfl,by rw [aE hne]; exact k2,k3,k4,k5⟩
 ·have q1:∃ zs,τ[j]? = some (some (.own zs)):=by
   by_cases hj:i=j
   ·subst hj; exact ⟨_,e⟩
   ·rw [List.getElem?_set_ne hj] at e1; exact ⟨_,e1⟩
  have q2:∃ zs,τ[k]? = some (some (.own zs)):=by
   by_cases hj:i=k
   ·subst hj; exact ⟨_,e⟩
   ·rw [List.getElem?_set_ne hj] at e2; exact ⟨_,e2⟩
  obtain ⟨z1,q1⟩:=q1
  obtain ⟨z2,q2⟩:=q2
  exact E.dj j k z1 z2 q hjk q1 q2 e3
end
open PySem PySem.Spec PyProof.Rows L2
abbrev FE:=aA -> Option (T × aA)
abbrev FA:=aA -> Option (List T × aA)
abbrev FT:=aA -> Option (Bool × aA)
inductive R where
 | nx (τ:aA) | rt (t:T) | bk (τ:aA) | ct (τ:aA)
abbrev FS:=aA -> Option R
abbrev FG:=T -> aA -> Option aA
section
variable (K:PySem.W.Frag) (F₀ H₀:Hp)
def tE (f:FE):TE:=fun σ H Q=>∃ F τ t τ',az K F₀ H₀ F H σ τ /\ f τ=some (t,τ') /\ ∀ F' H' v,az K F₀ H₀ F' H' σ τ' -> aI F F' -> Rep K F' t v -> Q v H'
def tA (f:FA):TA:=fun σ H Q=>∃ F τ ts τ',az K F₀ H₀ F H σ τ /\ f τ=some (ts,τ') /\ ∀ F' H' vs,az K F₀ H₀ F' H' σ τ' -> aI F F' -> aP K F' ts vs -> Q vs H'
def tT (f:FT):TT:=fun σ H Q=>∃ F τ b τ',az K F₀ H₀ F H σ τ /\ f τ=some (b,τ') /\ ∀ F' H',az K F₀ H₀ F' H' σ τ' -> aI F F' -> Q b H'
def qQ (F:Hp) (D:Ends):R -> Prop
 | .nx τ'=>∀ F' H' σ',az K F₀ H₀ F' H' σ' τ' -> aI F F' -> D.nx σ' H'
 | .rt t=>∀ F' H' v,aX F₀ H₀ F' H' -> Rep K F' t v -> D.rt v H'
 | .bk τ'=>∀ F' H' σ',az K F₀ H₀ F' H' σ' τ' -> aI F F' -> D.bk σ' H'
 | .ct τ'=>∀ F' H' σ',az K F₀ H₀ F' H' σ' τ' -> aI F F' -> D.ct σ' H'
def tS (f:FS):TS:=fun D σ H=>∃ F τ r,az K F₀ H₀ F H σ τ /\ f τ=some r /\ qQ K F₀ H₀ F D r
end
def SE (X:Cx) (e:Expr) (f:FE):Prop:=∀ F₀ H₀,PE X e (tE X.K F₀ H₀ f)
def SA (X:Cx) (es:List Expr) (f:FA):Prop:=∀ F₀ H₀,PA X es (tA X.K F₀ H₀ f)
def ST (X:Cx) (e:Expr) (f:FT):Prop:=∀ F₀ H₀,PT X e (tT X.K F₀ H₀ f)
def SW (X:Cx) (e:Expr) (f:FT):Prop:=∀ F₀ H₀,PW X e (tT X.K F₀ H₀ f)
def SS (X:Cx) (st:Stmt) (f:FS):Prop:=∀ F₀ H₀,PS X st (tS X.K F₀ H₀ f)
def qS (X:Cx) (st:List Stmt) (f:FS):Prop:=∀ F₀ H₀,iX X st (tS X.K F₀ H₀ f)
section
variable {X:Cx} {e a b:Expr} {pos:Pos} {f fa fb:FE}
theorem PE.weak {t t':TE} (h:PE X e t) (i:∀ σ H Q,t' σ H Q -> t σ H Q):PE X e t':=fun pins s σ H Q I q=>h pins s σ H Q I (i σ H Q q)
theorem PT.weak {t t':TT} (h:PT X e t) (i:∀ σ H Q,t' σ H Q -> t σ H Q):PT X e t':=fun pins s σ H Q I q=>h pins s σ H Q I (i σ H Q q)
theorem PW.weak {t t':TT} (h:PW X e t) (i:∀ σ H Q,t' σ H Q -> t σ H Q):PW X e t':=fun wh pins s σ H Q I q=>h wh pins s σ H Q I (i σ H Q q)
theorem PA.weak {es:List Expr} {t t':TA} (h:PA X es t) (i:∀ σ H Q,t' σ H Q -> t σ H Q):PA X es t':=fun p pins s σ H Q I q=>h p pins s σ H Q I (i σ H Q q)
theorem PS.weak {st:Stmt} {t t':TS} (h:PS X st t) (i:∀ D σ H,t' D σ H -> t D σ H):PS X st t':=fun pins s σ H D I q=>h pins s σ H D I (i D σ H q)
theorem iX.weak {st:List Stmt} {t t':TS} (h:iX X st t) (i:∀ D σ H,t' D σ H -> t D σ H):iX X st t':=fun pins s σ H D I q=>h pins s σ H D I (i D σ H q)
def fC (t:T):FE:=fun τ=>some (t,τ)
def af (i:Nat):FE:=fun τ=>match τ[i]? with
 | some (some (.sh t))=>some (t,τ)
 | some (some (.own ts))=>some (.lst ts,τ.set i (some (.sh (.lst ts))))
 | _=>none
theorem gD {t:T} {v:V} (h:PE X e (tC v)) (r:∀ F,Rep X.K F t v):SE X e (fC t):=fun F₀ H₀=>PE.weak h fun σ H Q hq__=>by
 obtain ⟨F,τ,t',τ',E,e1,q⟩:=hq__
 cases e1
 exact q F H v E (aI.refl _) (r F)
theorem au {i:Int} {j}:SE X (.Constant (.int i) j pos) (fC (.int i)):=gD tB fun _=>rfl
theorem mM {c:Bool} {j}:SE X (.Constant (.bool c) j pos) (fC (.bl c)):=gD JD fun _=>rfl
theorem CC {j}:SE X (.Constant .none j pos) (fC .non):=gD G8 fun _=>rfl
theorem hJ {x:Str} {j}:SE X (.Constant (.str x) j pos) (fC (.str x)):=gD Hb fun _=>rfl
theorem ag (i:Nat) {x:Str} (h:PE X (.Name x pos) (qd i)):SE X (.Name x pos) (af i):=fun F₀ H₀=>PE.weak h fun σ H Q hq__=>by
 obtain ⟨F,τ,t,τ',E,e1,q⟩:=hq__
 unfold af at e1
 split at e1
 ·next t' e2 =>
  cases e1
  obtain ⟨v,h1,h2⟩:=E.sl i _ e2
  exact ⟨v,h1,q F H v E (aI.refl _) h2⟩
 ·next ts e2 =>
  cases e1
  obtain ⟨F',v,h1,E',sF,r⟩:=E.freeze e2
  exact ⟨v,h1,q F' H v E' sF r⟩
 ·cases e1
theorem lu {x:Str} {n:String} (hg:Gl X x) (hm:X.mg x=none) (hv:bootBuiltins x=some (.type n)) (hn:x ≠ "__name__" := by decide) (hd:(x == ("__debug__" : Str))=false:=by decide):SE X (.Name x pos) (fC (.ty n)):=
 gD (Ee (v:=.ty n) hg hm hv rfl hn hd) fun _=>rfl
def HW (K:PySem.W.Frag) (g:T -> T -> Option T):R2:=fun x y H Q=>∃ F a b t,aI F H /\ Rep K F a x /\ Rep K F b y /\ g a b=some t /\ ∀ F' H' v,aX F H F' H' -> Rep K F' t v -> Q v H'
def Ma (K:PySem.W.Frag) (g:T -> Option T):V -> Hp -> VK -> Prop:=fun x H Q=>∃ F a t,aI F H /\ Rep K F a x /\ g a=some t /\ ∀ F' H' v,aX F H F' H' -> Rep K F' t v -> Q v H'
def Kj (K:PySem.W.Frag) (g:List T -> Option T):List V -> Hp -> VK -> Prop:=fun xs H Q=>∃ F ts t,aI F H /\ aP K F ts xs /\ g ts=some t /\ ∀ F' H' v,aX F H F' H' -> Rep K F' t v -> Q v H'
abbrev m9 (X:Cx) (f:Value -> Value -> Sem Value) (g:T -> T -> Option T):Prop:=mR X f (HW X.K g)
abbrev LD (X:Cx) (f:Value -> Sem Value) (g:T -> Option T):Prop:=J7 X f (Ma X.K g)
abbrev hU (X:Cx) (f:Value) (g:List T -> Option T):Prop:=eW X f (Kj X.K g)
def aH (g:T -> T -> Option T) (fa fb:FE):FE:=fun τ=>(fa τ).bind fun p=>(fb p.2).bind fun q=>(g p.1 q.1).bind fun t=>some (t,q.2)
def mT (g:T -> Option T) (fa:FE):FE:=fun τ=>(fa τ).bind fun p=>(g p.1).bind fun t=>some (t,p.2)
theorem bind_some {α β:Type} {o:Option α} {f:α -> Option β} {z:β} (h:o.bind f=some z):∃ x,o=some x /\ f x=some z:=by
 cases o with
 | none=>cases h
 | some x=>exact ⟨x,rfl,h⟩
theorem nD {g:T -> T -> Option T} {F₀ H₀:Hp} {σ:L2.St} {H:Hp} {Q:VK} (h:tE X.K F₀ H₀ (aH g fa fb) σ H Q):JW (HW X.K g) (tE X.K F₀ H₀ fa) (tE X.K F₀ H₀ fb) σ H Q:=by
 obtain ⟨F,τ,t,τ',E,e1,q⟩:=h
 obtain ⟨⟨x,τ1⟩,e2,e1⟩:=bind_some e1
 obtain ⟨⟨y,τ2⟩,e3,e1⟩:=bind_some e1
 obtain ⟨z,e4,e1⟩:=bind_some e1
 cases e1
 refine ⟨F,τ,x,τ1,E,e2,fun F1 H1 v1 E1 s1 r1=>⟨F1,τ1,y,_,E1,e3,fun F2 H2 v2 E2 s2 r2=>?_⟩⟩
 exact ⟨F2,x,y,t,E2.g.fh,Rep.mono s2 r1,r2,e4,fun F3 H3 v3 g3 r3=>q F3 H3 v3 (E2.grow g3) ((s1.trans s2).trans g3.sF) r3⟩
theorem aK {op:Operator} {g:T -> T -> Option T} (ho:m9 X (binaryOp op) g) (ha:SE X a fa) (hb:SE X b fb):SE X (.BinOp a op b pos) (aH g fa fb):=
 fun F₀ H₀=>PE.weak (JE ho (ha F₀ H₀) (hb F₀ H₀)) fun _ _ _=>nD
theorem zk {op:UnaryOp} {g:T -> Option T} (ho:LD X (unaryOp op) g) (ha:SE X a fa):SE X (.UnaryOp op a pos) (mT g fa):=
 fun F₀ H₀=>PE.weak (JF ho (ha F₀ H₀)) fun σ H Q hq__=>by
  obtain ⟨F,τ,t,τ',E,e1,q⟩:=hq__
  obtain ⟨⟨x,τ1⟩,e2,e1⟩:=bind_some e1
  obtain ⟨z,e4,e1⟩:=bind_some e1
  cases e1
  exact ⟨F,τ,x,_,E,e2,fun F1 H1 v1 E1 s1 r1=>⟨F1,x,t,E1.g.fh,r1,e4,fun F3 H3 v3 g3 r3=>q F3 H3 v3 (E1.grow g3) (s1.trans g3.sF) r3⟩⟩
theorem oY {op:CmpOp} {g:T -> T -> Option T} (ho:m9 X (compareOp op) g) (ha:SE X a fa) (hb:SE X b fb) (hm:behindInMarks op b=false):SE X (.Compare a [op] [b] pos) (aH g fa fb):=
 fun F₀ H₀=>PE.weak (Ef ho (ha F₀ H₀) (hb F₀ H₀) hm) fun _ _ _=>nD
theorem bh {g:T -> T -> Option T} (ho:CW X (HW X.K g)) (ha:SE X a fa) (hb:SE X b fb) (hs:nc b):SE X (.Subscript a b pos) (aH g fa fb):=
 fun F₀ H₀=>PE.weak (Cc ho (ha F₀ H₀) (hb F₀ H₀) hs) fun _ _ _=>nD
def eG (f:FE):FT:=fun τ=>(f τ).bind fun p=>match p.1 with | .bl c=>some (c,p.2) | _=>none
def Kl:T -> Option Bool
 | .non=>some false
 | .bl c=>some c
 | .int i=>some (i != 0)
 | .str x=>if x.length ≤ sizeLine then some ((x.length:Int) != 0) else none
 | .tup ts=>some (!ts.isEmpty)
 | .lst ts=>some (!ts.isEmpty)
 | .scr ts=>some (!ts.isEmpty)
 | .dic=>some false
 | .obj _ _ _=>none
 | .ptr _=>none
 | .exc _=>none
 | .ty _=>none
def dk (f:FE):FT:=fun τ=>(f τ).bind fun p=>(Kl p.1).bind fun c=>some (c,p.2)
theorem cN {op:CmpOp} {g:T -> T -> Option T} (ho:m9 X (compareOp op) g) (ha:SE X a fa) (hb:SE X b fb) (hm:behindInMarks op b=false):ST X (.Compare a [op] [b] pos) (eG (aH g fa fb)):=
 fun F₀ H₀=>PT.weak (En ho (ha F₀ H₀) (hb F₀ H₀) hm) fun σ H Q hq__=>by
  obtain ⟨F,τ,c,τ',E,e1,q⟩:=hq__
  obtain ⟨⟨x,τ1⟩,e2,e1⟩:=bind_some e1
  dsimp only at e1
  split at e1
  ·cases e1
   refine nD (Q:=fun x H'=>∃ k,x=V.bl k /\ Q k H') ⟨F,τ,_,_,E,e2,fun F' H' v E' s' r'=>?_⟩
   exact ⟨c,r',q F' H' E' s'⟩
  ·cases e1
theorem iD {K:PySem.W.Frag} {F:Hp} {ts:List T} {vs:List V} (h:aP K F ts vs):vs.isEmpty=ts.isEmpty:=by
 cases ts with
 | nil=>cases h; rfl
 | cons t ts=>obtain ⟨v,r,rfl,_⟩:=h; rfl
theorem ER {K:PySem.W.Frag} {F H:Hp} {t:T} {v:V} {c:Bool} (s:aI F H) (r:Rep K F t v) (e:Kl t=some c):FR K v H c:=by
 cases t with
 | non=>cases r; cases e; exact rfl
 | bl _=>cases r; cases e; exact rfl
 | int _=>cases r; cases e; exact rfl
 | str x =>
  cases r
  simp only [Kl] at e
  split at e
  ·next h=>cases e; exact ⟨h,rfl⟩
  ·cases e
 | ty _=>cases e
 | tup ts =>
  obtain ⟨p,xs,rfl,h1,h2⟩:=r
  cases e
  exact .inr (.inl ⟨xs,bI s h1,by rw [iD h2]⟩)
 | lst ts =>
  obtain ⟨p,xs,rfl,h1,h2⟩:=r
  cases e
  exact .inl ⟨xs,gE.of (s _ _ h1),by rw [iD h2]⟩
 | scr ts =>
  obtain ⟨p,xs,rfl,h1,h2⟩:=r
  cases e
  exact .inl ⟨xs,s.seq h1,by rw [iD h2]⟩
 | dic =>
  obtain ⟨p,rfl,h1⟩:=r
  cases e
  exact .inr (.inr ⟨[],s _ _ h1,rfl⟩)
 | obj _ _ _=>cases e
 | ptr _=>cases e
 | exc _=>cases e
theorem fS (h:SE X e f) (he:∀ whole,isTrue e X.env whole=(do let v <- whole; standAt e.pos; holding [v] (truthy v)):=by intro _; rfl):ST X e (dk f):=
 fun F₀ H₀=>PT.weak (Cq (h F₀ H₀) he) fun σ H Q hq__=>by
  obtain ⟨F,τ,c,τ',E,e1,q⟩:=hq__
  obtain ⟨⟨x,τ1⟩,e2,e1⟩:=bind_some e1
  obtain ⟨z,e4,e1⟩:=bind_some e1
  cases e1
  exact ⟨F,τ,x,_,E,e2,fun F1 H1 v1 E1 s1 r1=>⟨c,ER E1.g.fh r1 e4,q F1 H1 E1 s1⟩⟩
variable {ta tb:FT} {rest:List Expr}
def KG (ta tb:FT):FT:=fun τ=>(ta τ).bind fun p=>if p.1=true then tb p.2 else some (false,p.2)
def lT (ta tb:FT):FT:=fun τ=>(ta τ).bind fun p=>if p.1=true then some (true,p.2) else tb p.2
def cH (ta:FT):FT:=fun τ=>(ta τ).bind fun p=>some (!p.1,p.2)
theorem eQ (h:ST X a ta):ST X (.UnaryOp .Not a pos) (cH ta):=fun F₀ H₀=>PT.weak (Hm (h F₀ H₀)) fun σ H Q hq__=>by
 obtain ⟨F,τ,c,τ',E,e1,q⟩:=hq__
 obtain ⟨⟨x,τ1⟩,e2,e1⟩:=bind_some e1
 cases e1
 exact ⟨F,τ,x,_,E,e2,fun F1 H1 E1 s1=>q F1 H1 E1 s1⟩
theorem mE (h:ST X a ta):SW X (.BoolOp .Or [a] pos) ta:=fun F₀ H₀=>Hn (h F₀ H₀)
theorem lF (ha:ST X a ta) (hb:SW X (.BoolOp .Or (b :: rest) pos) tb):SW X (.BoolOp .Or (a :: b :: rest) pos) (lT ta tb):=fun F₀ H₀=>PW.weak (JG (ha F₀ H₀) (hb F₀ H₀)) fun σ H Q hq__=>by
 obtain ⟨F,τ,c,τ',E,e1,q⟩:=hq__
 obtain ⟨⟨x,τ1⟩,e2,e1⟩:=bind_some e1
 refine ⟨F,τ,x,τ1,E,e2,fun F1 H1 E1 s1=>?_⟩
 dsimp only at e1
 split at e1
 ·next h=>rw [if_pos h]; cases e1; exact q F1 H1 E1 s1
 ·next h=>rw [if_neg h]; exact ⟨F1,τ1,c,τ',E1,e1,fun F2 H2 E2 s2=>q F2 H2 E2 (s1.trans s2)⟩
theorem SW.st (h:SW X e ta):ST X e ta:=fun F₀ H₀=>(h F₀ H₀).pt
def ek (fa fb:FE):FE:=fun τ=>(fa τ).bind fun p=>match p.1 with | .bl true=>fb p.2 | .bl false=>some (.bl false,p.2) | _=>none
def KI (fa fb:FE):FE:=fun τ=>(fa τ).bind fun p=>match p.1 with | .bl true=>some (.bl true,p.2) | .bl false=>fb p.2 | _=>none
def Dz:T -> Option T
 | .bl c=>some (.bl (!c))
 | _=>none
theorem oZ {op} (h:SE X a fa):SE X (.BoolOp op [a] pos) fa:=fun F₀ H₀=>Ha (h F₀ H₀)
theorem gC (ha:SE X a fa) (hb:SE X (.BoolOp .And (b :: rest) pos) fb):SE X (.BoolOp .And (a :: b :: rest) pos) (ek fa fb):=fun F₀ H₀=>PE.weak (G5 (ha F₀ H₀) (hb F₀ H₀)) fun σ H Q hq__=>by
 obtain ⟨F,τ,c,τ',E,e1,q⟩:=hq__
 obtain ⟨⟨x,τ1⟩,e2,e1⟩:=bind_some e1
 dsimp only at e1
 refine ⟨F,τ,x,τ1,E,e2,fun F1 H1 v E1 s1 r1=>?_⟩
 split at e1
 ·cases r1; exact ⟨true,rfl,by rw [if_pos rfl]; exact ⟨F1,τ1,c,τ',E1,e1,fun F2 H2 v2 E2 s2=>q F2 H2 v2 E2 (s1.trans s2)⟩⟩
 ·cases r1; cases e1; exact ⟨false,rfl,by rw [if_neg (by decide)]; exact q F1 H1 _ E1 s1 rfl⟩
 ·cases e1
theorem Hs (ha:SE X a fa):SE X (.UnaryOp .Not a pos) (mT Dz fa):=fun F₀ H₀=>PE.weak (G9 (ha F₀ H₀)) fun σ H Q hq__=>by
 obtain ⟨F,τ,c,τ',E,e1,q⟩:=hq__
 obtain ⟨⟨x,τ1⟩,e2,e1⟩:=bind_some e1
 obtain ⟨z,e4,e1⟩:=bind_some e1
 cases e1
 refine ⟨F,τ,x,_,E,e2,fun F1 H1 v E1 s1 r1=>?_⟩
 dsimp only at e4
 unfold Dz at e4
 split at e4
 ·cases r1; cases e4; exact ⟨_,rfl,q F1 H1 _ E1 s1 rfl⟩
 ·cases e4
def LY (t:FT) (fa fb:FE):FE:=fun τ=>(t τ).bind fun p=>if p.1=true then fa p.2 else fb p.2
variable {es:List Expr} {g:FA}
def ai:FA:=fun τ=>some ([],τ)
def aa (f:FE) (g:FA):FA:=fun τ=>(f τ).bind fun p=>(g p.2).bind fun q=>some (p.1 :: q.1,q.2)
theorem ak:SA X [] ai:=fun F₀ H₀=>PA.weak jj fun σ H Q hq__=>by
 obtain ⟨F,τ,c,τ',E,e1,q⟩:=hq__
 cases e1
 exact q F H [] E (aI.refl _) rfl
theorem ae (ha:SE X e f) (hr:SA X es g) (hs:starEach (e :: es) X.env=(false,eval e X.env) :: starEach es X.env:=by rfl):SA X (e :: es) (aa f g):=fun F₀ H₀=>PA.weak (fF (ha F₀ H₀) (hr F₀ H₀) hs) fun σ H Q hq__=>by
 obtain ⟨F,τ,c,τ',E,e1,q⟩:=hq__
 obtain ⟨⟨x,τ1⟩,e2,e1⟩:=bind_some e1
 obtain ⟨⟨y,τ2⟩,e3,e1⟩:=bind_some e1
 cases e1
 exact ⟨F,τ,x,τ1,E,e2,fun F1 H1 v E1 s1 r1=>⟨F1,τ1,y,_,E1,e3,fun F2 H2 vs E2 s2 r2=>q F2 H2 _ E2 (s1.trans s2) ⟨v,vs,rfl,Rep.mono s2 r1,r2⟩⟩⟩
def dU (g:FA):FE:=fun τ=>(g τ).bind fun p=>if p.1.length ≤ sizeLine then some (.tup p.1,p.2) else none
def dw (g:FA):FE:=fun τ=>(g τ).bind fun p=>if p.1.length ≤ sizeLine then some (.lst p.1,p.2) else none
theorem eM {k} (h:SA X es g):SE X (.Tuple es k pos) (dU g):=fun F₀ H₀=>PE.weak (Cf (h F₀ H₀)) fun σ H Q hq__=>by
 obtain ⟨F,τ,c,τ',E,e1,q⟩:=hq__
 obtain ⟨⟨x,τ1⟩,e2,e1⟩:=bind_some e1
 dsimp only at e1
 split at e1
 ·next hl =>
  cases e1
  refine ⟨F,τ,x,_,E,e2,fun F1 H1 vs E1 s1 r1=>⟨by rw [r1.length]; exact hl,fun p hp=>?_⟩⟩
  have gr:=aX.new (.tup vs) E1.g.fh hp
  exact q _ _ _ (E1.grow gr) (s1.trans gr.sF) ⟨p,vs,rfl,jP.of aN,aP.mono gr.sF r1⟩
 ·cases e1
theorem hG (h:SA X es g):SE X (.List es pos) (dw g):=fun F₀ H₀=>PE.weak (xG (h F₀ H₀)) fun σ H Q hq__=>by
 obtain ⟨F,τ,c,τ',E,e1,q⟩:=hq__
 obtain ⟨⟨x,τ1⟩,e2,e1⟩:=bind_some e1
 dsimp only at e1
 split at e1
 ·next hl =>
  cases e1
  refine ⟨F,τ,x,_,E,e2,fun F1 H1 vs E1 s1 r1=>⟨by rw [r1.length]; exact hl,fun p hp=>?_⟩⟩
  have gr:=aX.new (.lst vs) E1.g.fh hp
  exact q _ _ _ (E1.grow gr) (s1.trans gr.sF) ⟨p,vs,rfl,aN,aP.mono gr.sF r1⟩
 ·cases e1
def aj (d:List T -> Option T) (g:FA):FE:=fun τ=>(g τ).bind fun p=>(d p.1).bind fun t=>some (t,p.2)
theorem qr {d:List T -> Option T} {F₀ H₀:Hp} {σ:L2.St} {H:Hp} {Q:VK} (h:tE X.K F₀ H₀ (aj d g) σ H Q):tA X.K F₀ H₀ g σ H fun vs H1=>Kj X.K d vs H1 Q:=by
 obtain ⟨F,τ,c,τ',E,e1,q⟩:=h
 obtain ⟨⟨x,τ1⟩,e2,e1⟩:=bind_some e1
 obtain ⟨z,e4,e1⟩:=bind_some e1
 cases e1
 exact ⟨F,τ,x,_,E,e2,fun F1 H1 vs E1 s1 r1=>⟨F1,x,c,E1.g.fh,r1,e4,fun F3 H3 v3 g3 r3=>q F3 H3 v3 (E1.grow g3) (s1.trans g3.sF) r3⟩⟩
theorem aU {d:List T -> Option T} {id:String} {x:Str} {p:Pos} (hc:hU X (.builtin id) d) (hg:Gl X x) (hm:X.mg x=none) (hv:bootBuiltins x=some (.builtin id)) (ha:SA X (e :: es) g) (hn:x ≠ "__name__" := by decide) (hdb:(x == ("__debug__" : Str))=false:=by decide)
  (he:starEach (e :: es) X.env=(false,eval e X.env) :: starEach es X.env:=by rfl) (hpl:(backTo pos (starEach es X.env)).any (·.1)=false:=by rfl):SE X (.Call (.Name x p) (e :: es) [] pos) (aj d g):=
 fun F₀ H₀=>PE.weak (vD hc hg hm hv (ha F₀ H₀) hn hdb he hpl) fun _ _ _=>qr
theorem cw {d:List T -> Option T} {id:String} {x:Str} {p:Pos} (hc:hU X (.type id) d) (hg:Gl X x) (hm:X.mg x=none) (hv:bootBuiltins x=some (.type id)) (ha:SA X (e :: es) g) (hn:x ≠ "__name__" := by decide) (hdb:(x == ("__debug__" : Str))=false:=by decide)
  (he:starEach (e :: es) X.env=(false,eval e X.env) :: starEach es X.env:=by rfl) (hpl:(backTo pos (starEach es X.env)).any (·.1)=false:=by rfl):SE X (.Call (.Name x p) (e :: es) [] pos) (aj d g):=
 fun F₀ H₀=>PE.weak (qD hc hg hm hv (ha F₀ H₀) hn hdb he hpl) fun _ _ _=>qr
end
def spT (K:PySem.W.Frag) (n:Nat) (d:List T -> Option T):Sp:=fun vs H Q _=>vs.length=n /\ Kj K d vs H Q
structure Def (P:Program) (w:World) (K:PySem.W.Frag) (mg:Str -> Option Value) (base:Heap) (k:Nat) (x:Str) (n:Nat) (d:List T -> Option T):Prop where
 ex:∃ f fd ps,eU P w K mg base nN k f fd ps (spT K n d) /\ Binds K fd ps [] /\ PySem.W.keepIn K (.ref f)=true /\ mg x=some (.ref f) /\ ps.length=n
theorem Def.imp {P:Program} {w:World} {K:PySem.W.Frag} {mg:Str -> Option Value} {base:Heap} {k n:Nat} {x:Str} {d d':List T -> Option T} (D:Def P w K mg base k x n d) (h:∀ ts t,d' ts=some t -> d ts=some t):Def P w K mg base k x n d':=by
 obtain ⟨f,fd,ps,F,r⟩:=D.ex
 exact ⟨f,fd,ps,F.imp fun vs H Q E ⟨l,F,ts,t,a,b,c,q⟩=>⟨l,F,ts,t,a,b,h _ _ c,q⟩,r⟩
theorem Def.mono {P:Program} {w:World} {K:PySem.W.Frag} {mg:Str -> Option Value} {base:Heap} {j k n:Nat} {x:Str} {d:List T -> Option T} (D:Def P w K mg base j x n d) (h:j ≤ k):Def P w K mg base k x n d:=by
 obtain ⟨f,fd,ps,F,r⟩:=D.ex
 exact ⟨f,fd,ps,F.mono h,r⟩
theorem Def.zero {P:Program} {w:World} {K:PySem.W.Frag} {mg:Str -> Option Value} {base:Heap} {x qual:Str} {st:Stmt} {f:Addr} {fd:FuncData} {ps:List Str} (F:eR K x qual st f fd) (hb:Binds K fd ps []) (hm:mg x=some (.ref f)):Def P w K mg base 0 x ps.length (fun _=>none):=
 ⟨f,fd,ps,⟨fun vs H Q E h=>h.1,fun A outer s H args us vs Q E _ _ _ _ h=>by obtain ⟨_,F,ts,t,_,_,e,_⟩:=h; cases e⟩,hb,F.kp,hm,rfl⟩
section
variable {X:Cx} {e:Expr} {es:List Expr} {pos:Pos} {g:FA}
theorem aB {k n:Nat} {x:Str} {p:Pos} {d:List T -> Option T} (D:Def X.prog X.w X.K X.mg X.base k x n d) (hr:cY k X.A) (hg:Gl X x) (ha:SA X (e :: es) g) (hl:∀ τ ts τ',g τ=some (ts,τ') -> ts.length=n) (hdb:(x == ("__debug__" : Str))=false:=by decide)
  (he:starEach (e :: es) X.env=(false,eval e X.env) :: starEach es X.env:=by rfl) (hpl:(backTo pos (starEach es X.env)).any (·.1)=false:=by rfl):SE X (.Call (.Name x p) (e :: es) [] pos) (aj d g):=by
 obtain ⟨f,fd,ps,F,hb,hk,hm,hn⟩:=D.ex
 intro F₀ H₀
 refine PE.weak (yY (E:=E0) (CX:=nN) F hr hg hm hk hb .nil yX (ha F₀ H₀) hdb he hpl) fun σ H Q h=>?_
 obtain ⟨F,τ,c,τ',E,e1,q⟩:=h
 obtain ⟨⟨z,τ1⟩,e2,e1⟩:=bind_some e1
 have hz:=hl _ _ _ e2
 obtain ⟨u,e4,e1⟩:=bind_some e1
 cases e1
 refine ⟨F,τ,z,_,E,e2,fun F1 H1 vs E1 s1 r1=>⟨by rw [List.append_nil,r1.length]; exact hz,F1,z,c,E1.g.fh,by rw [List.append_nil]; exact r1,e4,fun F3 H3 v3 g3 r3=>q F3 H3 v3 (E1.grow g3) (s1.trans g3.sF) r3⟩⟩
theorem ay:∀ τ ts τ',ai τ=some (ts,τ') -> ts.length=0:=fun _ _ _ h=>by cases h; rfl
theorem ah {f:FE} {g:FA} {n:Nat} (h:∀ τ ts τ',g τ=some (ts,τ') -> ts.length=n):∀ τ ts τ',aa f g τ=some (ts,τ') -> ts.length=n + 1:=fun τ ts τ' e=>by
 obtain ⟨⟨x,τ1⟩,e2,e1⟩:=bind_some e
 obtain ⟨⟨y,τ2⟩,e3,e1⟩:=bind_some e1
 cases e1
 simp [h _ _ _ e3]
end
open PySem PySem.Spec PyProof.Rows L2
section
variable {X:Cx} {e a b:Expr} {pos:Pos} {f fa fb:FE} {ga:FA} {es:List Expr}
def eD:FS:=fun _=>none
def bQ:FS:=fun τ=>some (.nx τ)
def bG (f:FE):FS:=fun τ=>(f τ).bind fun p=>some (.rt p.1)
def kz (f:FE):FS:=fun τ=>(f τ).bind fun p=>some (.nx p.2)
def cn (c:FT) (t u:FS):FS:=fun τ=>(c τ).bind fun p=>if p.1=true then t p.2 else u p.2
def aT (t u:FS):FS:=fun τ=>(t τ).bind fun r=>match r with | .nx τ'=>u τ' | r=>some r
theorem qQ.mono {K:PySem.W.Frag} {F₀ H₀ F F':Hp} {D:Ends} {r:R} (s:aI F F') (h:qQ K F₀ H₀ F D r):qQ K F₀ H₀ F' D r:=by
 cases r with
 | nx τ=>exact fun F1 H1 σ1 E1 s1=>h F1 H1 σ1 E1 (s.trans s1)
 | rt t=>exact h
 | bk τ=>exact fun F1 H1 σ1 E1 s1=>h F1 H1 σ1 E1 (s.trans s1)
 | ct τ=>exact fun F1 H1 σ1 E1 s1=>h F1 H1 σ1 E1 (s.trans s1)
theorem ik {st:Stmt}:SS X st eD:=fun F₀ H₀=>PS.weak Cn fun D σ H ⟨F,τ,r,E,e1,q⟩=>by cases e1
theorem aW (h:SE X e f):SS X (.Return (some e) pos) (bG f):=fun F₀ H₀=>PS.weak (xJ (h F₀ H₀)) fun D σ H hq__=>by
 obtain ⟨F,τ,r,E,e1,q⟩:=hq__
 obtain ⟨⟨x,τ1⟩,e2,e1⟩:=bind_some e1
 cases e1
 exact ⟨F,τ,x,τ1,E,e2,fun F' H' v E' s' r'=>q F' H' v E'.g r'⟩
theorem zv (h:SE X e f) (hs:swapsWith e none pos.line X.env=pure false:=by rfl):SS X (.Expr e pos) (kz f):=fun F₀ H₀=>PS.weak (nE (h F₀ H₀) hs) fun D σ H hq__=>by
 obtain ⟨F,τ,r,E,e1,q⟩:=hq__
 obtain ⟨⟨x,τ1⟩,e2,e1⟩:=bind_some e1
 cases e1
 exact ⟨F,τ,x,τ1,E,e2,fun F' H' v E' s' r'=>q F' H' σ E' s'⟩
theorem eP {c:Expr} {ss us:List Stmt} {tc:FT} {t u:FS} (hc:ST X c tc) (ha:qS X ss t) (hb:qS X us u):SS X (.If c ss us pos) (cn tc t u):=fun F₀ H₀=>PS.weak (Fv (hc F₀ H₀) (ha F₀ H₀) (hb F₀ H₀)) fun D σ H hq__=>by
 obtain ⟨F,τ,r,E,e1,q⟩:=hq__
 obtain ⟨⟨x,τ1⟩,e2,e1⟩:=bind_some e1
 refine ⟨F,τ,x,τ1,E,e2,fun F' H' E' s'=>?_⟩
 dsimp only at e1
 split at e1
 ·next h=>rw [if_pos h]; exact ⟨F',τ1,r,E',e1,q.mono s'⟩
 ·next h=>rw [if_neg h]; exact ⟨F',τ1,r,E',e1,q.mono s'⟩
theorem cj:qS X [] bQ:=fun F₀ H₀=>iX.weak nG fun D σ H hq__=>by
 obtain ⟨F,τ,r,E,e1,q⟩:=hq__
 cases e1
 exact q F H σ E (aI.refl _)
theorem aw {st:Stmt} {rest:List Stmt} {t u:FS} (h1:SS X st t) (h2:qS X rest u):qS X (st :: rest) (aT t u):=fun F₀ H₀=>iX.weak (eK (h1 F₀ H₀) (h2 F₀ H₀)) fun D σ H hq__=>by
 obtain ⟨F,τ,r,E,e1,q⟩:=hq__
 obtain ⟨x,e2,e1⟩:=bind_some e1
 refine ⟨F,τ,x,E,e2,?_⟩
 cases x with
 | nx τ1=>exact fun F1 H1 σ1 E1 s1=>⟨F1,τ1,r,E1,e1,q.mono s1⟩
 | rt t=>cases e1; exact q
 | bk t=>cases e1; exact q
 | ct t=>cases e1; exact q
theorem aF {st:Stmt} {t:FS} (h1:SS X st t):qS X [st] t:=fun F₀ H₀=>nI (h1 F₀ H₀)
theorem AA {st:List Stmt}:qS X st eD:=fun F₀ H₀=>iX.weak Ao fun D σ H ⟨F,τ,r,E,e1,q⟩=>by cases e1
def bo (i:Nat) (f:FE):FS:=fun τ=>(f τ).bind fun p=>some (.nx (p.2.set i (some (.sh p.1))))
def cR (i:Nat) (g:FA):FS:=fun τ=>(g τ).bind fun p=>if p.1.length ≤ sizeLine then some (.nx (p.2.set i (some (.own p.1)))) else none
theorem aZ (i:Nat) {x:Str} {pos':Pos} (hN:X.N.Nodup) (hi:X.N[i]? = some x) (hx:Loc X.env.scope x) (he:SE X e f) (hs:swapsWith e (some (.Name x pos')) pos.line X.env=pure false:=by rfl)
  (hf:X.fn x=true \/ X.env.scope.names.lookup x=some .local:=by first | exact .inl rfl | exact .inr rfl | assumption):SS X (.Assign [.Name x pos'] e pos) (bo i f):=fun F₀ H₀=>PS.weak (tF hN hi hx (he F₀ H₀) hs hf) fun D σ H hq__=>by
 obtain ⟨F,τ,r,E,e1,q⟩:=hq__
 obtain ⟨⟨y,τ1⟩,e2,e1⟩:=bind_some e1
 cases e1
 exact ⟨F,τ,y,τ1,E,e2,fun F' H' v E' s' r'=>q F' H' _ (E'.set r') s'⟩
theorem il (i:Nat) {x:Str} {pos':Pos} {p2:Pos} (hN:X.N.Nodup) (hi:X.N[i]? = some x) (hx:Loc X.env.scope x) (he:SA X es ga) (hs:swapsWith (.List es p2) (some (.Name x pos')) pos.line X.env=pure false:=by rfl)
  (hf:X.fn x=true \/ X.env.scope.names.lookup x=some .local:=by first | exact .inl rfl | exact .inr rfl | assumption):SS X (.Assign [.Name x pos'] (.List es p2) pos) (cR i ga):=fun F₀ H₀=>PS.weak (tF hN hi hx (xG (he F₀ H₀)) hs hf) fun D σ H hq__=>by
 obtain ⟨F,τ,r,E,e1,q⟩:=hq__
 obtain ⟨⟨y,τ1⟩,e2,e1⟩:=bind_some e1
 dsimp only at e1
 split at e1
 ·next hl =>
  cases e1
  exact ⟨F,τ,y,τ1,E,e2,fun F' H' vs E' s' r'=>⟨by rw [r'.length]; exact hl,fun p hp=>q F' _ _ (E'.setOwn hp r') s'⟩⟩
 ·cases e1
def tG (K:PySem.W.Frag) (F₀ H₀:Hp) (fg:FG):TG:=fun v σ H Q=>∃ F τ t τ',az K F₀ H₀ F H σ τ /\ Rep K F t v /\ fg t τ=some τ' /\ ∀ F' H' σ',az K F₀ H₀ F' H' σ' τ' -> aI F F' -> Q σ' H'
def Mf (K:PySem.W.Frag) (F₀ H₀:Hp) (fg:List T -> aA -> Option aA):Fb:=fun vs σ H Q=>∃ F τ ts τ',az K F₀ H₀ F H σ τ /\ aP K F ts vs /\ fg ts τ=some τ' /\ ∀ F' H' σ',az K F₀ H₀ F' H' σ' τ' -> aI F F' -> Q σ' H'
def SG (X:Cx) (tg:Expr) (fg:FG):Prop:=∀ F₀ H₀,PG X tg (tG X.K F₀ H₀ fg)
def J5 (X:Cx) (tg:List Expr) (fg:List T -> aA -> Option aA):Prop:=∀ F₀ H₀,Ik X tg (Mf X.K F₀ H₀ fg)
def ar (i:Nat):FG:=fun t τ=>some (τ.set i (some (.sh t)))
def cz:List T -> aA -> Option aA
 | [],τ=>some τ
 | _ :: _,_=>none
def aM (g:FG) (gs:List T -> aA -> Option aA):List T -> aA -> Option aA
 | [],_=>none
 | t :: ts,τ=>(g t τ).bind fun τ1=>gs ts τ1
def cE (gs:List T -> aA -> Option aA):FG:=fun t τ=>match t with
 | .tup ts=>gs ts τ
 | _=>none
theorem aJ (i:Nat) {x:Str} (hN:X.N.Nodup) (hi:X.N[i]? = some x) (hx:Loc X.env.scope x) (hf:X.fn x=true \/ X.env.scope.names.lookup x=some .local:=by first | exact .inl rfl | exact .inr rfl | assumption):SG X (.Name x pos) (ar i):=
 fun F₀ H₀ pins s σ H v u Q I r h=>Eh hN hi hx hf pins s σ H v u Q I r (by
  obtain ⟨F,τ,t,τ',E,rt,e1,q⟩:=h
  cases e1
  exact q F H _ (E.set rt) (aI.refl _))
theorem di:J5 X [] cz:=fun F₀ H₀ pins s σ H vs us Q I r h=>Ei pins s σ H vs us Q I r (by
 obtain ⟨F,τ,ts,τ',E,rt,e1,q⟩:=h
 cases ts with
 | nil=>cases e1; cases rt; exact ⟨rfl,q F H σ E (aI.refl _)⟩
 | cons t ts=>cases e1)
theorem aS {g:FG} {gs:List T -> aA -> Option aA} (h1:SG X e g) (h2:J5 X es gs) (hs:(assignEach (e :: es) X.env).map (·.2)=assign e X.env :: (assignEach es X.env).map (·.2):=by rfl):J5 X (e :: es) (aM g gs):=
 fun F₀ H₀ pins s σ H vs us Q I r h=>Cg (h1 F₀ H₀) (h2 F₀ H₀) hs pins s σ H vs us Q I r (by
  obtain ⟨F,τ,ts,τ',E,rt,e1,q⟩:=h
  cases ts with
  | nil=>cases e1
  | cons t ts =>
   obtain ⟨v,rr,rfl,r1,r2⟩:=rt
   obtain ⟨τ1,e2,e1⟩:=bind_some e1
   exact ⟨v,rr,rfl,F,τ,t,τ1,E,r1,e2,fun F' H' σ' E' s'=>⟨F',τ1,ts,τ',E',aP.mono s' r2,e1,fun F2 H2 σ2 E2 s2=>q F2 H2 σ2 E2 (s'.trans s2)⟩⟩)
theorem eJ:∀ ts τ τ',cz ts τ=some τ' -> ts.length=0:=fun ts τ τ' h=>by cases ts <;> first | rfl | cases h
theorem aY {g:FG} {gs:List T -> aA -> Option aA} {n:Nat} (h:∀ ts τ τ',gs ts τ=some τ' -> ts.length=n):∀ ts τ τ',aM g gs ts τ=some τ' -> ts.length=n + 1:=fun ts τ τ' e=>by
 cases ts with
 | nil=>cases e
 | cons t ts =>
  obtain ⟨τ1,e2,e1⟩:=bind_some e
  simp [h _ _ _ e1]
theorem eN {gs:List T -> aA -> Option aA} {k:Nat} {n:Nat} (hc:X.calm=true) (h:J5 X es gs) (hl:∀ ts τ τ',gs ts τ=some τ' -> ts.length=n)
  (hn:(assignEach es X.env).length=n:=by rfl) (hst:(assignEach es X.env).findIdx? (·.1)=none:=by rfl):SG X (.Tuple es k pos) (cE gs):=
 fun F₀ H₀ pins s σ H v u Q I r h'=>Hg hc (h F₀ H₀) hn hst pins s σ H v u Q I r (by
  obtain ⟨F,τ,t,τ',E,rt,e1,q⟩:=h'
  unfold cE at e1
  split at e1
  ·next ts =>
   obtain ⟨p,xs,rfl,h1,h2⟩:=rt
   exact ⟨p,xs,rfl,bI E.g.fh h1,by rw [h2.length]; exact hl _ _ _ e1,F,τ,ts,τ',E,h2,e1,q⟩
  ·cases e1)
def oi (f:FE) (g:FG):FS:=fun τ=>(f τ).bind fun p=>(g p.1 p.2).bind fun τ'=>some (.nx τ')
theorem pk {tg:Expr} {g:FG} (he:SE X e f) (hg:SG X tg g) (hs:swapsWithSole [tg] e pos.line X.env=pure false:=by rfl) (hw:swappedStores [tg] e X.env=pure none:=by rfl)
  (h1:(assignEach [tg] X.env).map (·.2)=[assign tg X.env]:=by rfl):SS X (.Assign [tg] e pos) (oi f g):=fun F₀ H₀=>PS.weak (Ck (he F₀ H₀) (hg F₀ H₀) hs hw h1) fun D σ H hq__=>by
 obtain ⟨F,τ,r,E,e1,q⟩:=hq__
 obtain ⟨⟨y,τ1⟩,e2,e1⟩:=bind_some e1
 obtain ⟨τ2,e3,e1⟩:=bind_some e1
 cases e1
 exact ⟨F,τ,y,τ1,E,e2,fun F' H' v E' s' r'=>⟨F',τ1,y,τ2,E',r',e3,fun F2 H2 σ2 E2 s2=>q F2 H2 σ2 E2 (s'.trans s2)⟩⟩
def rB (i j:Nat) (g:FA):FS:=fun τ=>(g τ).bind fun p=>match p.1 with
 | [v,w]=>some (.nx ((p.2.set i (some (.sh v))).set j (some (.sh w))))
 | _=>none
theorem tZ {i j:Nat} {x y:Str} {px py pt:Pos} {kt k2 pt2} (hc:X.calm=true) (hN:X.N.Nodup) (hi:X.N[i]? = some x) (hj:X.N[j]? = some y) (hij:i ≠ j)
  (hx:X.env.scope.names.lookup x=some .local) (hy:X.env.scope.names.lookup y=some .local) (ha:SA X [a,b] ga)
  (hw:swappedStores [.Tuple [.Name x px,.Name y py] kt pt] (.Tuple [a,b] k2 pt2) X.env=pure (some [x,y]))
  (hs:swapsWithSole [.Tuple [.Name x px,.Name y py] kt pt] (.Tuple [a,b] k2 pt2) pos.line X.env=pure false:=by rfl) :
  SS X (.Assign [.Tuple [.Name x px,.Name y py] kt pt] (.Tuple [a,b] k2 pt2) pos) (rB i j ga):=fun F₀ H₀=>PS.weak (Hl hc hN hi hj hij hx hy (ha F₀ H₀) hw hs) fun D σ H hq__=>by
 obtain ⟨F,τ,r,E,e1,q⟩:=hq__
 obtain ⟨⟨ts,τ1⟩,e2,e1⟩:=bind_some e1
 dsimp only at e1
 split at e1
 ·next v w =>
  cases e1
  refine ⟨F,τ,_,τ1,E,e2,fun F' H' vs E' s' r'=>?_⟩
  obtain ⟨v1,r1,rfl,q1,v2,r2,rfl,q2,rfl⟩:=r'
  exact ⟨v1,v2,rfl,q F' H' _ ((E'.set q1).set q2) s'⟩
 ·cases e1
structure Walks (K:PySem.W.Frag) (F:Hp) (ts:List T) (J:It):Prop where
 go:∀ (i:Nat) t F1 H1,ts[i]? = some t -> aI F F1 -> aI F1 H1 -> J.go i H1
 yld:∀ (i:Nat) t F1 H1 x H2,ts[i]? = some t -> aI F F1 -> aI F1 H1 -> J.yld i H1 x H2 -> ∃ F2,aX F1 H1 F2 H2 /\ Rep K F2 t x
 stop:∀ F1 H1,aI F F1 -> aI F1 H1 -> J.stop ts.length H1
def tI (K:PySem.W.Frag) (F₀ H₀:Hp) (fi:FA):TI:=fun σ H R=>∃ F τ ts τ',az K F₀ H₀ F H σ τ /\ fi τ=some (ts,τ') /\ ∀ F' H' J,az K F₀ H₀ F' H' σ τ' -> aI F F' -> Walks K F' ts J -> R J H'
def SI (X:Cx) (tg iter:Expr) (fi:FA):Prop:=∀ F₀ H₀,PI X tg iter (tI X.K F₀ H₀ fi)
def dB (fg:FG) (fb:FS):List T -> FS
 | [],τ=>some (.nx τ)
 | t :: ts,τ=>(fg t τ).bind fun τ1=>(fb τ1).bind fun r=>match r with
  | .nx τ2=>dB fg fb ts τ2
  | .ct τ2=>dB fg fb ts τ2
  | .bk τ2=>some (.nx τ2)
  | .rt v=>some (.rt v)
def jU (fi:FA) (fg:FG) (fb:FS):FS:=fun τ=>(fi τ).bind fun p=>dB fg fb p.1 p.2
theorem mD {tg iter:Expr} {body:List Stmt} {fi:FA} {fg:FG} {fb:FS} (hp:PassesOwn (model X.prog X.w) X.A X.env X.xe) (hc:X.calm=true) (hi:SI X tg iter fi) (hg:SG X tg fg) (hb:qS X body fb)
  (hs:∀ x,foldedSetIterable iter X.env x=pure x:=by intro _; rfl):SS X (.For tg iter body [] pos) (jU fi fg fb):=fun F₀ H₀=>PS.weak (Cm hp hc (hi F₀ H₀) (hg F₀ H₀) (hb F₀ H₀) hs) fun D σ H hq__=>by
 obtain ⟨F,τ,r,E,e1,q⟩:=hq__
 obtain ⟨⟨ts,τ1⟩,e2,e1⟩:=bind_some e1
 refine ⟨F,τ,ts,τ1,E,e2,fun F' H' J E' s' W=>?_⟩
 refine ⟨fun i m σ H=>m=ts.length - i /\ i ≤ ts.length /\ ∃ F1 τ1,az X.K F₀ H₀ F1 H σ τ1 /\ aI F' F1 /\ dB fg fb (ts.drop i) τ1=some r,⟨_,rfl,Nat.zero_le _,F',τ1,E',aI.refl _,e1⟩,?_⟩
 rintro i m σ1 H1 ⟨rfl,hi,F1,τ2,E1,s1,e3⟩
 by_cases hlt:i < ts.length
 ·have hd:ts.drop i=ts[i] :: ts.drop (i + 1):=List.drop_eq_getElem_cons hlt
  have hg:ts[i]? = some ts[i]:=List.getElem?_eq_getElem hlt
  rw [hd] at e3
  obtain ⟨τ3,e4,e3⟩:=bind_some e3
  obtain ⟨r',e5,e3⟩:=bind_some e3
  refine .inr ⟨W.go i _ F1 H1 hg s1 E1.g.fh,fun σ H=>∃ F1 τ1,az X.K F₀ H₀ F1 H σ τ1 /\ aI F' F1 /\ dB fg fb (ts.drop (i + 1)) τ1=some r,fun σ' H' n=>⟨_,by omega,rfl,hlt,n⟩,fun x H2 y=>?_⟩
  obtain ⟨F2,gr,rx⟩:=W.yld i _ F1 H1 x H2 hg s1 E1.g.fh y
  refine ⟨F2,τ2,ts[i],τ3,E1.grow gr,rx,e4,fun F3 H3 σ3 E3 s3=>⟨F3,τ3,r',E3,e5,?_⟩⟩
  have s03:aI F' F3:=s1.trans (gr.sF.trans s3)
  cases r' with
  | nx τ4=>exact fun F4 H4 σ4 E4 s4=>⟨F4,τ4,E4,s03.trans s4,e3⟩
  | ct τ4=>exact fun F4 H4 σ4 E4 s4=>⟨F4,τ4,E4,s03.trans s4,e3⟩
  | bk τ4=>cases e3; exact fun F4 H4 σ4 E4 s4=>q F4 H4 σ4 E4 (s'.trans (s03.trans s4))
  | rt v=>cases e3; exact q
 ·have he:i=ts.length:=by omega
  subst he
  rw [List.drop_length] at e3
  cases e3
  exact .inl ⟨W.stop F1 H1 s1 E1.g.fh,q F1 H1 σ1 E1 (s'.trans s1)⟩
def wN (f:FE):FA:=fun τ=>(f τ).bind fun p=>match p.1 with | .lst ts=>some (ts,p.2) | .scr ts=>some (ts,p.2) | _=>none
def Bn (f:FE):FA:=fun τ=>(f τ).bind fun p=>match p.1 with | .tup ts=>some (ts,p.2) | _=>none
theorem pG {K:PySem.W.Frag} {F:Hp} {p:Addr} {xs:List V} {ts:List T} (h1:gE K F p xs) (h2:aP K F ts xs):Walks K F ts (Ks K p):=by
 refine ⟨fun i t F1 H1 e s1 s2=>?_,fun i t F1 H1 x H2 e s1 s2 y=>?_,fun F1 H1 s1 s2=>⟨xs,(s1.trans s2).seq h1,by rw [h2.length]; exact Nat.le_refl _⟩⟩
 ·obtain ⟨v,g1,_⟩:=h2.get e
  exact ⟨xs,v,(s1.trans s2).seq h1,g1⟩
 ·obtain ⟨rfl,y⟩:=y
  obtain ⟨v,g1,g2⟩:=h2.get e
  have:=y xs ((s1.trans s2).seq h1)
  rw [g1] at this; cases this
  exact ⟨F1,aX.refl s2,Rep.mono s1 g2⟩
theorem AD {K:PySem.W.Frag} {F:Hp} {p:Addr} {xs:List V} {ts:List T} (h1:jP K F p xs) (h2:aP K F ts xs):Walks K F ts (Kt K p):=by
 refine ⟨fun i t F1 H1 e s1 s2=>?_,fun i t F1 H1 x H2 e s1 s2 y=>?_,fun F1 H1 s1 s2=>⟨xs,bI (s1.trans s2) h1,by rw [h2.length]; exact Nat.le_refl _⟩⟩
 ·obtain ⟨v,g1,_⟩:=h2.get e
  exact ⟨xs,v,bI (s1.trans s2) h1,g1⟩
 ·obtain ⟨rfl,y⟩:=y
  obtain ⟨v,g1,g2⟩:=h2.get e
  have:=y xs (bI (s1.trans s2) h1)
  rw [g1] at this; cases this
  exact ⟨F1,aX.refl s2,Rep.mono s1 g2⟩
theorem PI.weak {tg it:Expr} {t t':TI} (h:PI X tg it t) (i:∀ σ H R,t' σ H R -> t σ H R):PI X tg it t':=fun pins s σ H R I q=>h pins s σ H R I (i σ H R q)
theorem zp {tg l:Expr} (h:SE X l f):SI X tg l (wN f):=fun F₀ H₀=>PI.weak (Ej (h F₀ H₀)) fun σ H R hq__=>by
 obtain ⟨F,τ,ts,τ',E,e1,q⟩:=hq__
 obtain ⟨⟨x,τ1⟩,e2,e1⟩:=bind_some e1
 dsimp only at e1
 split at e1
 ·cases e1
  refine ⟨F,τ,_,τ',E,e2,fun F' H' v E' s' r'=>?_⟩
  obtain ⟨p,xs,rfl,h1,h2⟩:=r'
  exact ⟨p,rfl,⟨xs,gE.of (E'.g.fh _ _ h1)⟩,q F' H' _ E' s' (pG (gE.of h1) h2)⟩
 ·cases e1
  refine ⟨F,τ,_,τ',E,e2,fun F' H' v E' s' r'=>?_⟩
  obtain ⟨p,xs,rfl,h1,h2⟩:=r'
  exact ⟨p,rfl,⟨xs,E'.g.fh.seq h1⟩,q F' H' _ E' s' (pG h1 h2)⟩
 ·cases e1
theorem Hu {tg l:Expr} (h:SE X l f):SI X tg l (Bn f):=fun F₀ H₀=>PI.weak (Hi (h F₀ H₀)) fun σ H R hq__=>by
 obtain ⟨F,τ,ts,τ',E,e1,q⟩:=hq__
 obtain ⟨⟨x,τ1⟩,e2,e1⟩:=bind_some e1
 dsimp only at e1
 split at e1
 ·cases e1
  refine ⟨F,τ,_,τ',E,e2,fun F' H' v E' s' r'=>?_⟩
  obtain ⟨p,xs,rfl,h1,h2⟩:=r'
  exact ⟨p,rfl,⟨xs,bI E'.g.fh h1⟩,q F' H' _ E' s' (AD h1 h2)⟩
 ·cases e1
def upTo (lo:Int):Nat -> List T
 | 0=>[]
 | n + 1=>.int lo :: upTo (lo + 1) n
theorem gQ:∀ (n:Nat) (lo:Int),(upTo lo n).length=n
 | 0,_=>rfl
 | n + 1,lo=>by simp [upTo,gQ n]
theorem pE:∀ (n:Nat) (lo:Int) (i:Nat),i < n -> (upTo lo n)[i]? = some (.int (lo + i))
 | 0,_,_,h=>by omega
 | n + 1,lo,0,_=>by simp [upTo]
 | n + 1,lo,i + 1,h=>by
  simp only [upTo,List.getElem?_cons_succ]
  rw [pE n (lo + 1) i (by omega)]
  congr 2
  push_cast
  omega
def eH (g:FA):FA:=fun τ=>(g τ).bind fun p=>match p.1 with
 | [.int j]=>if -(2 ^ 62) ≤ j /\ j < 2 ^ 62 then some (upTo 0 j.toNat,p.2) else none
 | _=>none
theorem qK {K:PySem.W.Frag} {F:Hp} (lo:Int) (n:Nat):Walks K F (upTo lo n) (Ij lo n):=by
 have hl:∀ {i:Nat} {t:T},(upTo lo n)[i]? = some t -> i < n:=fun {i t} e=>by
  have:=(List.getElem?_eq_some_iff.mp e).1
  rwa [gQ] at this
 refine ⟨fun i t F1 H1 e s1 s2=>hl e,fun i t F1 H1 x H2 e s1 s2 y=>?_,fun F1 H1 s1 s2=>by show n ≤ _; rw [gQ]; exact Nat.le_refl _⟩
 obtain ⟨rfl,rfl⟩:=y
 rw [pE n lo i (hl e)] at e
 cases e
 exact ⟨F1,aX.refl s2,rfl⟩
theorem lB {tg:Expr} {p:Pos} (hg:Gl X "range") (hm:X.mg "range" = none) (ha:SA X [a] ga) (hs:starEach [a] X.env=[(false,eval a X.env)]:=by rfl):SI X tg (.Call (.Name "range" p) [a] [] pos) (eH ga):=
 fun F₀ H₀=>PI.weak (Al hg hm (ha F₀ H₀) hs) fun σ H R hq__=>by
  obtain ⟨F,τ,ts,τ',E,e1,q⟩:=hq__
  obtain ⟨⟨x,τ1⟩,e2,e1⟩:=bind_some e1
  dsimp only at e1
  split at e1
  ·split at e1
   ·next hb =>
    cases e1
    refine ⟨F,τ,_,τ',E,e2,fun F' H' vs E' s' r'=>?_⟩
    obtain ⟨v,r,rfl,q1,rfl⟩:=r'
    cases q1
    exact ⟨_,rfl,hb.1,hb.2,q F' H' _ E' s' (qK 0 _)⟩
   ·cases e1
  ·cases e1
def dO (ft:FT) (fb:FS):Nat -> FS
 | 0,_=>none
 | n + 1,τ=>(ft τ).bind fun p=>if p.1=true then (fb p.2).bind fun r=>match r with
  | .nx τ2=>dO ft fb n τ2
  | .ct τ2=>dO ft fb n τ2
  | .bk τ2=>some (.nx τ2)
  | .rt v=>some (.rt v) else some (.nx p.2)
theorem pw (n:Nat) {c:Expr} {body:List Stmt} {ft:FT} {fb:FS} (hp:PassesOwn (model X.prog X.w) X.A X.env X.xe) (hc:ST X c ft) (hb:qS X body fb):SS X (.While c body [] pos) (dO ft fb n):=fun F₀ H₀=>PS.weak (Co hp (hc F₀ H₀) (hb F₀ H₀)) fun D σ H hq__=>by
 obtain ⟨F,τ,r,E,e1,q⟩:=hq__
 refine ⟨fun m σ H=>∃ F1 τ1,az X.K F₀ H₀ F1 H σ τ1 /\ aI F F1 /\ dO ft fb m τ1=some r,⟨n,F,τ,E,aI.refl _,e1⟩,?_⟩
 rintro m σ1 H1 ⟨F1,τ1,E1,s1,e2⟩
 cases m with
 | zero=>cases e2
 | succ m =>
  obtain ⟨⟨x,τ2⟩,e3,e2⟩:=bind_some e2
  refine ⟨F1,τ1,x,τ2,E1,e3,fun F2 H2 E2 s2=>?_⟩
  dsimp only at e2
  split at e2
  ·next h =>
   rw [if_pos h]
   obtain ⟨r',e4,e2⟩:=bind_some e2
   refine ⟨fun σ H=>∃ F1 τ1,az X.K F₀ H₀ F1 H σ τ1 /\ aI F F1 /\ dO ft fb m τ1=some r,fun σ' H' n=>⟨m,Nat.lt_succ_self m,n⟩,F2,τ2,r',E2,e4,?_⟩
   cases r' with
   | nx τ4=>exact fun F4 H4 σ4 E4 s4=>⟨F4,τ4,E4,(s1.trans s2).trans s4,e2⟩
   | ct τ4=>exact fun F4 H4 σ4 E4 s4=>⟨F4,τ4,E4,(s1.trans s2).trans s4,e2⟩
   | bk τ4=>cases e2; exact fun F4 H4 σ4 E4 s4=>q F4 H4 σ4 E4 ((s1.trans s2).trans s4)
   | rt v=>cases e2; exact q
  ·next h =>
   rw [if_neg h]
   cases e2
   exact q F2 H2 σ1 E2 (s1.trans s2)
def mS (i:Nat) (f:FE):FS:=fun τ=>match τ[i]? with
 | some (some (.own _))=>(f τ).bind fun p=>match p.2[i]? with
  | some (some (.own ts))=>if ts.length < sizeLine then some (.nx (p.2.set i (some (.own (ts ++ [p.1]))))) else none
  | _=>none
 | _=>none
end
def bX (m n:Nat) (fb:FS):List T -> Option T:=fun ts=>if ts.length=n then (fb (ts.map (fun t=>some (Sl.sh t)) ++ List.replicate (m - n) none)).bind fun r=>match r with
 | .rt t=>some t
 | .nx _=>some .non
 | _=>none else none
theorem gf {K:PySem.W.Frag} {F H:Hp} {N:List Str} {vs:List V} {ts:List T} (s:aI F H) (r:aP K F ts vs):az K F H F H (start N vs) (ts.map (fun t=>some (Sl.sh t)) ++ List.replicate (N.length - ts.length) none):=by
 have hl:=r.length
 have key:∀ (i:Nat) (sl:Sl),(ts.map (fun t=>some (Sl.sh t)) ++ List.replicate (N.length - ts.length) none)[i]? = some (some sl) -> ∃ t,ts[i]? = some t /\ sl=.sh t:=fun i sl e=>by
  by_cases h:i < ts.length
  ·rw [List.getElem?_append_left (by simpa using h),List.getElem?_map,List.getElem?_eq_getElem h] at e
   simp at e
   exact ⟨ts[i],List.getElem?_eq_getElem h,e.symm⟩
  ·rw [List.getElem?_append_right (by simp; omega),List.getElem?_replicate] at e
   split at e <;> cases e
 refine ⟨aX.refl s,by simp [L2.start,hl],fun i sl e=>?_,fun i j us ws p _ e1 _ _=>?_⟩
 ·obtain ⟨t,e1,rfl⟩:=key i sl e
  obtain ⟨v,g1,g2⟩:=r.get e1
  refine ⟨v,?_,g2⟩
  have hi:i < vs.length:=(List.getElem?_eq_some_iff.mp g1).1
  unfold L2.start
  rw [List.getElem?_append_left (by simpa using hi),List.getElem?_map,g1]
  rfl
 ·obtain ⟨t,_,e⟩:=key i _ e1
  cases e
section
variable {P:Program} {w:World} {K:PySem.W.Frag} {mg:Str -> Option Value} {base:Heap}
theorem bC {x qual:Str} {st:Stmt} {f:Addr} {fd:FuncData} {N ps:List Str} {k:Nat} {fb:FS} (F:eR K x qual st f fd) (S:aL N ps (av st)) (hb:Binds K fd ps []) (hm:mg x=some (.ref f))
  (h:∀ (cdv:Value) (A:Around) (outer:List Env) (s:Shared) (H:Hp) (E:XK),cY k (A.deeper (envOfC qual (av st) s.heap.objs.size f cdv)) -> qS (lS nN P w K mg base N qual (av st) f cdv A outer s H E).nox (cQ st) fb) :
  Def P w K mg base (k + 1) x ps.length (bX N.length ps.length fb):=by
 refine ⟨f,fd,ps,F.ok S (fun vs H Q E z=>z.1) (fun cdv A outer s H vs Q E hr z=>?_),hb,F.kp,hm,rfl⟩
 obtain ⟨hl,F1,ts,t,sm,r,e,q⟩:=z
 unfold bX at e
 split at e
 ·next hn =>
  obtain ⟨r',e1,e⟩:=bind_some e
  refine ⟨_,h cdv A outer s H E hr F1 H,F1,_,r',?_,e1,?_⟩
  ·have:=gf (N:=N) sm r
   rw [hn] at this
   exact this
  ·cases r' with
   | rt u=>cases e; exact fun F' H' v g r'=>q F' H' v g r'
   | nx τ=>cases e; exact fun F' H' σ' E' s'=>q F' H' .non E'.g rfl
   | bk τ=>cases e
   | ct τ=>cases e
 ·cases e
end
open PySem PySem.Spec PyProof.Rows L2
def B:Nat:=2 ^ 4000
theorem EW {n:Nat} (h:n < B):n.log2 < 4000:=by
 rcases Nat.eq_zero_or_pos n with h0 | hp
 ·rw [h0]; decide
 ·exact (Nat.log2_lt (Nat.ne_of_gt hp)).mpr h
theorem wu {i:Int} (h:i.natAbs < B):Builtin.Int.intBits i ≤ 4000:=by
 unfold Builtin.Int.intBits
 split
 ·omega
 ·have:=EW h
  omega
theorem Jt {i j:Int} (hi:i.natAbs < B) (hj:j.natAbs < B):IntMulOk i j:=by
 have h1:=wu hi
 have h2:=wu hj
 unfold IntMulOk
 have h3:Builtin.Int.intTooBig (Builtin.Int.intBits i + Builtin.Int.intBits j)=false:=by
  unfold Builtin.Int.intTooBig
  have hb:((bitsLine:Nat):Int)=134217728:=by decide
  rw [decide_eq_false]
  show ¬ ((Builtin.Int.intBits i:Int) + (Builtin.Int.intBits j:Int) > ((bitsLine:Nat):Int))
  rw [hb]
  omega
 rw [h3]
 simp
section
variable {X:Cx}
def gI (C:Int -> Int -> Prop) [∀ i j,Decidable (C i j)] (g:Int -> Int -> T):T -> T -> Option T:=fun a b=>match a,b with
 | .int i,.int j=>if C i j then some (g i j) else none
 | _,_=>none
theorem Gz {C:Int -> Int -> Prop} [∀ i j,Decidable (C i j)] {g:Int -> Int -> T} {i j:Int}:gI C g (.int i) (.int j)=if C i j then some (g i j) else none:=rfl
theorem yU {f:Value -> Value -> Sem Value} {C:Int -> Int -> Prop} [∀ i j,Decidable (C i j)] {g:Int -> Int -> T} {gv:Int -> Int -> V} (h:mR X f (rI C gv)) (hg:∀ K F i j,Rep K F (g i j) (gv i j)):m9 X f (gI C g):=by
 intro pins s σ H x y v u Q I rx ry ⟨F,a,b,t,sm,ra,rb,e,q⟩
 unfold gI at e
 split at e
 ·cases ra
  cases rb
  split at e
  ·next hc =>
   cases e
   exact h pins s σ H _ _ v u Q I rx ry ⟨_,_,rfl,rfl,hc,q F H _ (aX.refl sm) (hg _ _ _ _)⟩
  ·cases e
 ·cases e
theorem md {f:Value -> Value -> Sem Value} {g:Int -> Int -> T} {gv:Int -> Int -> V} (h:mR X f (Es gv)) (hg:∀ K F i j,Rep K F (g i j) (gv i j)):m9 X f (gI (fun _ _=>True) g):=
 yU (fun pins s σ H x y v u Q I rx ry ⟨i,j,e1,e2,_,q⟩=>h pins s σ H x y v u Q I rx ry ⟨i,j,e1,e2,q⟩) hg
def KN (g g':T -> T -> Option T):T -> T -> Option T:=fun a b=>match g a b with
 | some t=>some t
 | none=>g' a b
theorem m9.or {f:Value -> Value -> Sem Value} {g g':T -> T -> Option T} (h:m9 X f g) (h':m9 X f g'):m9 X f (KN g g'):=by
 intro pins s σ H x y v u Q I rx ry ⟨F,a,b,t,sm,ra,rb,e,q⟩
 unfold KN at e
 split at e
 ·next t' e'=>cases e; exact h pins s σ H x y v u Q I rx ry ⟨F,a,b,_,sm,ra,rb,e',q⟩
 ·exact h' pins s σ H x y v u Q I rx ry ⟨F,a,b,t,sm,ra,rb,e,q⟩
def yb (i j:Int):Prop:=i.natAbs < B /\ j.natAbs < B
instance (i j:Int):Decidable (yb i j):=inferInstanceAs (Decidable (_ /\ _))
def ya (i j:Int):Prop:=j ≠ 0 /\ j.natAbs < B
instance (i j:Int):Decidable (ya i j):=inferInstanceAs (Decidable (_ /\ _))
def J3 (i j:Int):Prop:=j ≠ 0
instance (i j:Int):Decidable (J3 i j):=inferInstanceAs (Decidable (_ ≠ _))
instance (i j:Int):Decidable (Kr i j):=inferInstanceAs (Decidable (_ /\ _ /\ _))
abbrev rJ:=gI (fun _ _=>True) fun i j=>.int (i - j)
abbrev aV:=gI yb fun i j=>.int (i * j)
abbrev cS:=gI ya fun i j=>.int (i.fdiv j)
abbrev cu:=gI J3 fun i j=>.int (i.fmod j)
abbrev HS:=gI (fun _ _=>True) fun i j=>.bl (decide (i < j))
abbrev zY:=gI (fun _ _=>True) fun i j=>.bl (decide (i ≤ j))
abbrev zX:=gI (fun _ _=>True) fun i j=>.bl (decide (j < i))
abbrev Kd:=gI (fun _ _=>True) fun i j=>.bl (decide (j ≤ i))
theorem xF:m9 X (binaryOp .Sub) rJ:=md G4 fun _ _ _ _=>rfl
theorem bu:m9 X (binaryOp .Mult) aV:=yU (C:=yb) (gv:=fun i j=>.int (i * j)) (K4 fun _ _ _ _ _ _ _ hc q=>mul_int q (Jt hc.1 hc.2)) fun _ _ _ _=>rfl
theorem bZ:m9 X (binaryOp .FloorDiv) cS:=yU (C:=ya) (gv:=fun i j=>.int (i.fdiv j)) (K4 fun _ _ _ _ _ _ _ hc q=>floordiv_int hc.1 q (.inl (PyProof.noPylong_of_log2 (Nat.lt_trans (EW hc.2) (by decide:4000 < 9000))))) fun _ _ _ _=>rfl
theorem dh:m9 X (binaryOp .Mod) cu:=yU (C:=J3) (gv:=fun i j=>.int (i.fmod j)) Eb fun _ _ _ _=>rfl
theorem Ca:m9 X (compareOp .Lt) HS:=md Jz fun _ _ _ _=>rfl
theorem yW:m9 X (compareOp .LtE) zY:=md Jy fun _ _ _ _=>rfl
theorem vC:m9 X (compareOp .Gt) zX:=md Jx fun _ _ _ _=>rfl
theorem JC:m9 X (compareOp .GtE) Kd:=md Jw fun _ _ _ _=>rfl
def kG:T -> T -> Option T
 | .str x,.str y=>if x.length + y.length ≤ sizeLine then some (.str (x ++ y)) else none
 | .lst xs,.lst ys=>if xs.length + ys.length ≤ sizeLine then some (.lst (xs ++ ys)) else none
 | .tup (x :: xs),.tup (y :: ys)=>if (x :: xs).length + (y :: ys).length ≤ sizeLine then some (.tup (x :: xs ++ y :: ys)) else none
 | _,_=>none
theorem Ed:m9 X (binaryOp .Add) kG:=by
 intro pins s σ H x y v u Q I rx ry ⟨F,a,b,t,sm,ra,rb,e,q⟩
 unfold kG at e
 split at e
 ·split at e
  ·next hl =>
   cases e; cases ra; cases rb
   exact xE pins s σ H _ _ v u Q I rx ry ⟨_,_,rfl,rfl,hl,q F H _ (aX.refl sm) rfl⟩
  ·cases e
 ·split at e
  ·next hl =>
   cases e
   obtain ⟨p1,x1,rfl,h1,h2⟩:=ra
   obtain ⟨p2,x2,rfl,h3,h4⟩:=rb
   refine G3 pins s σ H _ _ v u Q I rx ry ⟨p1,p2,x1,x2,rfl,rfl,sm _ _ h1,sm _ _ h3,by rw [h2.length,h4.length]; exact hl,fun p hp=>?_⟩
   have gr:=aX.new (.lst (x1 ++ x2)) sm hp
   exact q _ _ _ gr ⟨p,_,rfl,aN,aP.mono gr.sF (h2.append h4)⟩
  ·cases e
 ·split at e
  ·next hl =>
   cases e
   obtain ⟨p1,x1,rfl,h1,h2⟩:=ra
   obtain ⟨p2,x2,rfl,h3,h4⟩:=rb
   refine Ea pins s σ H _ _ v u Q I rx ry ⟨p1,p2,x1,x2,rfl,rfl,bI sm h1,bI sm h3,fun z=>?_,by rw [h2.length,h4.length]; exact hl,fun z=>?_,fun _ p hp=>?_⟩
   ·subst z; have:=h2.length; simp at this
   ·subst z; have:=h4.length; simp at this
   ·have gr:=aX.new (.tup (x1 ++ x2)) sm hp
    exact q _ _ _ gr ⟨p,_,rfl,jP.of aN,aP.mono gr.sF (h2.append h4)⟩
  ·cases e
 ·cases e
def bS:T -> T -> Option T:=KN (gI (fun _ _=>True) fun i j=>.int (i + j)) kG
theorem cv:m9 X (binaryOp .Add) bS:=m9.or (md G2 fun _ _ _ _=>rfl) Ed
theorem jg {i j:Int}:bS (.int i) (.int j)=some (.int (i + j)):=rfl
theorem uL {xs ys:List T} (h:xs.length + ys.length ≤ sizeLine):bS (.lst xs) (.lst ys)=some (.lst (xs ++ ys)):=by
 show kG (.lst xs) (.lst ys)=_
 simp only [kG,if_pos h]
theorem Br {x y:T} {xs ys:List T} (h:(x :: xs).length + (y :: ys).length ≤ sizeLine):bS (.tup (x :: xs)) (.tup (y :: ys))=some (.tup (x :: xs ++ y :: ys)):=by
 show kG (.tup (x :: xs)) (.tup (y :: ys))=_
 simp only [kG,if_pos h]
def kI:T -> Option T
 | .int i=>some (.int (-i))
 | _=>none
theorem uc:LD X (unaryOp .USub) kI:=by
 intro pins s σ H x v Q I rx ⟨F,a,t,sm,ra,e,q⟩
 unfold kI at e
 split at e
 ·cases e; cases ra
  exact HH pins s σ H _ v Q I rx ⟨_,rfl,q F H _ (aX.refl sm) rfl⟩
 ·cases e
mutual
def C4:T -> Option PyData
 | .non=>some .none
 | .bl b=>some (.bool b)
 | .int i=>some (.int i)
 | .str x=>some (.str x)
 | .tup ts=>(pB ts).map .tuple
 | .lst ts=>(pB ts).map .list
 | .scr ts=>(pB ts).map .list
 | .ty _=>none
 | .dic=>none
 | .obj _ _ _=>none
 | .ptr _=>none
 | .exc _=>none
def pB:List T -> Option (List PyData)
 | []=>some []
 | t :: ts=>(C4 t).bind fun d=>(pB ts).bind fun ds=>some (d :: ds)
end
mutual
theorem jk {pins:List (Addr × Obj)} {σ:L2.St} {H F:Hp} {s:Shared} (I:Inv X pins σ H s) (sm:aI F H):∀ {t:T} {d:PyData} {v:V} {u:Value},C4 t=some d -> Rep X.K F t v -> RelV v u -> ∃ as,Reads s.heap u d as
 | .non,d,v,u,e,r,ru=>by cases r; cases e; cases ru; exact ⟨_,.none⟩
 | .bl b,d,v,u,e,r,ru=>by cases r; cases e; cases ru; exact ⟨_,.bool _⟩
 | .int i,d,v,u,e,r,ru=>by cases r; cases e; obtain ⟨t,rfl⟩:=ru; exact ⟨_,.int _ _⟩
 | .str x,d,v,u,e,r,ru=>by cases r; cases e; obtain ⟨t,rfl⟩:=ru; exact ⟨_,.str _ _⟩
 | .ty _,d,v,u,e,r,ru=>by cases e
 | .dic,d,v,u,e,r,ru=>by cases e
 | .obj _ _ _,d,v,u,e,r,ru=>by cases e
 | .ptr _,d,v,u,e,r,ru=>by cases e
 | .exc _,d,v,u,e,r,ru=>by cases e
 | .tup ts,d,v,u,e,r,ru=>by
  obtain ⟨p,xs,rfl,h1,h2⟩:=r
  cases ru
  simp only [C4] at e
  cases e1:pB ts with
  | none=>rw [e1] at e; cases e
  | some ds =>
   rw [e1] at e; cases e
   obtain ⟨its,rv,⟨o,g1,g2,n,g3⟩,_⟩:=I.tuple (bI sm h1)
   obtain ⟨as,q⟩:=gP I sm e1 h2 rv
   exact ⟨_,.tuple g1 g2 g3 q⟩
 | .lst ts,d,v,u,e,r,ru=>by
  obtain ⟨p,xs,rfl,h1,h2⟩:=r
  cases ru
  simp only [C4] at e
  cases e1:pB ts with
  | none=>rw [e1] at e; cases e
  | some ds =>
   rw [e1] at e; cases e
   obtain ⟨its,rv,⟨o,n,g1,g2,_,g3⟩,_⟩:=I.list (gE.of (sm _ _ h1))
   obtain ⟨as,q⟩:=gP I sm e1 h2 rv
   exact ⟨_,.list g1 g2 g3 q⟩
 | .scr ts,d,v,u,e,r,ru=>by
  obtain ⟨p,xs,rfl,h1,h2⟩:=r
  cases ru
  simp only [C4] at e
  cases e1:pB ts with
  | none=>rw [e1] at e; cases e
  | some ds =>
   rw [e1] at e; cases e
   obtain ⟨its,rv,⟨o,n,g1,g2,_,g3⟩,_⟩:=I.list (sm.seq h1)
   obtain ⟨as,q⟩:=gP I sm e1 h2 rv
   exact ⟨_,.list g1 g2 g3 q⟩
theorem gP {pins:List (Addr × Obj)} {σ:L2.St} {H F:Hp} {s:Shared} (I:Inv X pins σ H s) (sm:aI F H):∀ {ts:List T} {ds:List PyData} {vs:List V} {us:List Value},pB ts=some ds -> aP X.K F ts vs -> Vals vs us -> ∃ as,ReadsAll s.heap us ds as
 | [],ds,vs,us,e,r,ru=>by cases r; cases ru; cases e; exact ⟨_,.nil⟩
 | t :: ts,ds,vs,us,e,r,ru=>by
  obtain ⟨v,rr,rfl,h1,h2⟩:=r
  cases ru with
  | cons r1 r2 =>
   simp only [pB] at e
   obtain ⟨d,e1,e⟩:=bind_some e
   obtain ⟨ds',e2,e⟩:=bind_some e
   cases e
   obtain ⟨as,q1⟩:=jk I sm e1 h1 r1
   obtain ⟨bs,q2⟩:=gP I sm e2 h2 r2
   exact ⟨_,.cons q1 q2⟩
end
def zV (neg:Bool) (a b:T):Option T:=(C4 a).bind fun p=>(C4 b).bind fun q=>if SeqAt.shaped p=true /\ SeqAt.shaped q=true then some (.bl (if neg then !PyData.eqv p q else PyData.eqv p q)) else none
abbrev kH:=zV false
abbrev lW:=zV true
theorem oN (hu:X.A.units + 64 < cLine):m9 X (compareOp .Eq) kH:=by
 intro pins s σ H x y v u Q I rx ry ⟨F,a,b,t,sm,ra,rb,e,q⟩
 obtain ⟨d1,e1,e⟩:=bind_some e
 obtain ⟨d2,e2,e⟩:=bind_some e
 split at e
 ·next hs =>
  cases e
  obtain ⟨as,q1⟩:=jk I sm e1 ra rx
  obtain ⟨bs,q2⟩:=jk I sm e2 rb ry
  exact SeqAt.compareEq_shaped q1 q2 hs.1 hs.2 hu ⟨.bl _,H,I,rfl,q F H _ (aX.refl sm) rfl⟩
 ·cases e
theorem kU (hu:X.A.units + 64 < cLine):m9 X (compareOp .NotEq) lW:=by
 intro pins s σ H x y v u Q I rx ry ⟨F,a,b,t,sm,ra,rb,e,q⟩
 obtain ⟨d1,e1,e⟩:=bind_some e
 obtain ⟨d2,e2,e⟩:=bind_some e
 split at e
 ·next hs =>
  cases e
  obtain ⟨as,q1⟩:=jk I sm e1 ra rx
  obtain ⟨bs,q2⟩:=jk I sm e2 rb ry
  exact SeqAt.compareNe_shaped q1 q2 hs.1 hs.2 hu ⟨.bl _,H,I,rfl,q F H _ (aX.refl sm) rfl⟩
 ·cases e
def Fo:T -> Bool
 | .non=>true
 | _=>false
def L3:T -> T -> Option T
 | a,.non=>some (.bl (Fo a))
 | .bl c,.bl d=>some (.bl (c == d))
 | _,_=>none
def bB:T -> T -> Option T
 | .lst ts,.int i=>ng ts i
 | .scr ts,.int i=>ng ts i
 | .tup ts,.int i=>ng ts i
 | .str x,.int i=>if x.length ≤ sizeLine then (ng x.cps.toList i).map fun c=>.str ⟨#[c]⟩ else none
 | _,_=>none
theorem ko {K:PySem.W.Frag} {F:Hp} {ts:List T} {vs:List V} {i:Int} {t:T} (r:aP K F ts vs) (e:ng ts i=some t):∃ v,ng vs i=some v /\ Rep K F t v:=by
 unfold ng at e ⊢
 rw [r.length]
 obtain ⟨j,e1,e2⟩:=bind_some e
 obtain ⟨v,g1,g2⟩:=r.get e2
 exact ⟨v,by rw [e1]; exact g1,g2⟩
theorem bj:CW X (HW X.K bB):=by
 intro value slice pins s σ H x y v u Q I rx ry ⟨F,a,b,t,sm,ra,rb,e,q⟩ hs
 unfold bB at e
 split at e
 ·obtain ⟨p,xs,rfl,h1,h2⟩:=ra
  cases rb
  obtain ⟨w,g1,g2⟩:=ko h2 e
  exact nz value slice pins s σ H _ _ v u Q I rx ry ⟨p,xs,_,w,rfl,rfl,gE.of (sm _ _ h1),g1,q F H _ (aX.refl sm) g2⟩ hs
 ·obtain ⟨p,xs,rfl,h1,h2⟩:=ra
  cases rb
  obtain ⟨w,g1,g2⟩:=ko h2 e
  exact nz value slice pins s σ H _ _ v u Q I rx ry ⟨p,xs,_,w,rfl,rfl,sm.seq h1,g1,q F H _ (aX.refl sm) g2⟩ hs
 ·obtain ⟨p,xs,rfl,h1,h2⟩:=ra
  cases rb
  obtain ⟨w,g1,g2⟩:=ko h2 e
  exact GL value slice pins s σ H _ _ v u Q I rx ry ⟨p,xs,_,w,rfl,rfl,bI sm h1,g1,q F H _ (aX.refl sm) g2⟩ hs
 ·split at e
  ·next hl =>
   cases ra; cases rb
   cases e1:ng (Str.cps _).toList _ with
   | none=>rw [e1] at e; cases e
   | some c =>
    rw [e1] at e; cases e
    exact GJ value slice pins s σ H _ _ v u Q I rx ry ⟨_,_,c,rfl,rfl,hl,e1,q F H _ (aX.refl sm) rfl⟩ hs
  ·cases e
 ·cases e
theorem gk {f:Value} {r:List V -> Hp -> VK -> Prop} {g:List T -> Option T} (h:eW X f r) (i:∀ vs H Q,Kj X.K g vs H Q -> r vs H Q):hU X f g:=fun pins s σ H xs us Q I rx q=>h pins s σ H xs us Q I rx (i _ _ _ q)
def cm:List T -> Option T
 | [.lst ts]=>some (.int ts.length)
 | [.scr ts]=>some (.int ts.length)
 | [.tup ts]=>some (.int ts.length)
 | [.str x]=>if x.length ≤ sizeLine then some (.int x.length) else none
 | _=>none
theorem dJ:hU X (.builtin "len") cm:=gk (eW.or qY qZ) fun vs H Q hq__=>by
 obtain ⟨F,ts,t,sm,r,e,q⟩:=hq__
 unfold cm at e
 split at e
 ·obtain ⟨v,rr,rfl,⟨p,xs,rfl,h1,h2⟩,rfl⟩:=r
  cases e
  exact .inl ⟨p,xs,rfl,.inl (gE.of (sm _ _ h1)),by rw [h2.length]; exact q F H _ (aX.refl sm) rfl⟩
 ·obtain ⟨v,rr,rfl,⟨p,xs,rfl,h1,h2⟩,rfl⟩:=r
  cases e
  exact .inl ⟨p,xs,rfl,.inl (sm.seq h1),by rw [h2.length]; exact q F H _ (aX.refl sm) rfl⟩
 ·obtain ⟨v,rr,rfl,⟨p,xs,rfl,h1,h2⟩,rfl⟩:=r
  cases e
  exact .inl ⟨p,xs,rfl,.inr (bI sm h1),by rw [h2.length]; exact q F H _ (aX.refl sm) rfl⟩
 ·split at e
  ·next hl =>
   obtain ⟨v,rr,rfl,h1,rfl⟩:=r
   cases h1; cases e
   exact .inr ⟨_,rfl,hl,q F H _ (aX.refl sm) rfl⟩
  ·cases e
 ·cases e
def uz:List T -> Option T
 | [.int i]=>some (.int (if i < 0 then -i else i))
 | _=>none
theorem rh:hU X (.builtin "abs") uz:=gk AX fun vs H Q hq__=>by
 obtain ⟨F,ts,t,sm,r,e,q⟩:=hq__
 unfold uz at e
 split at e
 ·obtain ⟨v,rr,rfl,h1,rfl⟩:=r
  cases h1; cases e
  exact ⟨_,rfl,q F H _ (aX.refl sm) rfl⟩
 ·cases e
def uB:List T -> Option T
 | [.int i,.int j]=>some (.int (if j > i then j else i))
 | _=>none
def rm:List T -> Option T
 | [.int i,.int j]=>some (.int (if j < i then j else i))
 | _=>none
theorem Gb (hc:X.calm=true):hU X (.builtin "max") uB:=gk (zP hc) fun vs H Q hq__=>by
 obtain ⟨F,ts,t,sm,r,e,q⟩:=hq__
 unfold uB at e
 split at e
 ·obtain ⟨v,rr,rfl,h1,v2,r2,rfl,h2,rfl⟩:=r
  cases h1; cases h2; cases e
  exact ⟨_,_,rfl,q F H _ (aX.refl sm) rfl⟩
 ·cases e
theorem Ge (hc:X.calm=true):hU X (.builtin "min") rm:=gk (zQ hc) fun vs H Q hq__=>by
 obtain ⟨F,ts,t,sm,r,e,q⟩:=hq__
 unfold rm at e
 split at e
 ·obtain ⟨v,rr,rfl,h1,v2,r2,rfl,h2,rfl⟩:=r
  cases h1; cases h2; cases e
  exact ⟨_,_,rfl,q F H _ (aX.refl sm) rfl⟩
 ·cases e
def pO:List T -> Option T
 | [.int i]=>some (.int i)
 | [.bl c]=>some (.int (if c then 1 else 0))
 | _=>none
theorem A0:hU X (.type "int") pO:=gk zN fun vs H Q hq__=>by
 obtain ⟨F,ts,t,sm,r,e,q⟩:=hq__
 unfold pO at e
 split at e
 ·obtain ⟨v,rr,rfl,h1,rfl⟩:=r
  cases h1; cases e
  exact .inl ⟨_,rfl,q F H _ (aX.refl sm) rfl⟩
 ·obtain ⟨v,rr,rfl,h1,rfl⟩:=r
  cases h1; cases e
  exact .inr ⟨_,rfl,q F H _ (aX.refl sm) rfl⟩
 ·cases e
def dList:List T -> Option T
 | [.lst ts]=>some (.lst ts)
 | [.scr ts]=>some (.lst ts)
 | [.tup ts]=>some (.lst ts)
 | _=>none
theorem rj:hU X (.type "list") dList:=gk ku fun vs H Q hq__=>by
 obtain ⟨F,ts,t,sm,r,e,q⟩:=hq__
 unfold dList at e
 split at e
 ·obtain ⟨v,rr,rfl,⟨p,xs,rfl,h1,h2⟩,rfl⟩:=r
  cases e
  refine ⟨p,xs,rfl,.inl (gE.of (sm _ _ h1)),fun l hl=>?_⟩
  have gr:=aX.new (.lst xs) sm hl
  exact q _ _ _ gr ⟨l,xs,rfl,aN,aP.mono gr.sF h2⟩
 ·obtain ⟨v,rr,rfl,⟨p,xs,rfl,h1,h2⟩,rfl⟩:=r
  cases e
  refine ⟨p,xs,rfl,.inl (sm.seq h1),fun l hl=>?_⟩
  have gr:=aX.new (.lst xs) sm hl
  exact q _ _ _ gr ⟨l,xs,rfl,aN,aP.mono gr.sF h2⟩
 ·obtain ⟨v,rr,rfl,⟨p,xs,rfl,h1,h2⟩,rfl⟩:=r
  cases e
  refine ⟨p,xs,rfl,.inr (bI sm h1),fun l hl=>?_⟩
  have gr:=aX.new (.lst xs) sm hl
  exact q _ _ _ gr ⟨l,xs,rfl,aN,aP.mono gr.sF h2⟩
 ·cases e
def HX:T -> Option String
 | .non=>some "NoneType"
 | .bl _=>some "bool"
 | .int _=>some "int"
 | .str _=>some "str"
 | .tup _=>some "tuple"
 | .lst _=>some "list"
 | .scr _=>some "list"
 | .dic=>some "dict"
 | .obj _ _ _=>none
 | .ptr _=>none
 | .exc _=>none
 | .ty _=>none
def kinds:List String:=["int", "bool", "str", "list", "tuple", "dict"]
def Kf (a c:String):Option Bool:=if c ∈ kinds then some (a == c || (a == "bool" && c == "int")) else none
def GF (a:String):List T -> Option Bool
 | []=>some false
 | .ty c :: r=>(Kf a c).bind fun b=>if b=true then some true else GF a r
 | _ :: _=>none
theorem BH {K:PySem.W.Frag} {t:T} {a c:String} {b:Bool} (ha:HX t=some a) (h:Kf a c=some b):PySem.W.kitOne K (.type a) (.type c)=some b:=by
 have ha:a ∈ ["NoneType", "bool", "int", "str", "tuple", "list", "dict"]:=by
  cases t <;> simp only [HX] at ha <;> cases ha <;> simp
 unfold Kf at h
 split at h
 ·next hc =>
  cases h
  simp only [kinds,List.mem_cons,List.not_mem_nil,or_false] at hc ha
  rcases ha with rfl | rfl | rfl | rfl | rfl | rfl | rfl <;> rcases hc with rfl | rfl | rfl | rfl | rfl | rfl <;> rfl
 ·cases h
theorem yI {K:PySem.W.Frag} {F:Hp} {t:T} {a:String} (ha:HX t=some a):∀ {cs:List T} {vs:List V} {us:List Value} {b:Bool},GF a cs=some b -> aP K F cs vs -> Vals vs us -> PySem.W.kitAny K (.type a) us=some b
 | [],vs,us,b,h,r,ru=>by cases r; cases ru; cases h; rfl
 | .ty c :: cs,vs,us,b,h,r,ru=>by
  obtain ⟨v,rr,rfl,h1,h2⟩:=r
  cases h1
  cases ru with
  | cons r1 r2 =>
   cases r1
   obtain ⟨b',e1,h⟩:=bind_some h
   unfold PySem.W.kitAny
   rw [BH ha e1]
   cases b' with
   | true=>rw [if_pos rfl] at h; exact h
   | false=>rw [if_neg (by decide)] at h; exact yI ha h h2 r2
 | .non :: cs,vs,us,b,h,r,ru=>by cases h
 | .bl _ :: cs,vs,us,b,h,r,ru=>by cases h
 | .int _ :: cs,vs,us,b,h,r,ru=>by cases h
 | .str _ :: cs,vs,us,b,h,r,ru=>by cases h
 | .tup _ :: cs,vs,us,b,h,r,ru=>by cases h
 | .lst _ :: cs,vs,us,b,h,r,ru=>by cases h
 | .scr _ :: cs,vs,us,b,h,r,ru=>by cases h
 | .dic :: cs,vs,us,b,h,r,ru=>by cases h
 | .obj _ _ _ :: cs,vs,us,b,h,r,ru=>by cases h
 | .ptr _ :: cs,vs,us,b,h,r,ru=>by cases h
 | .exc _ :: cs,vs,us,b,h,r,ru=>by cases h
theorem vf {pins:List (Addr × Obj)} {σ:L2.St} {H F:Hp} {s:Shared} {t:T} {v:V} {u:Value} {a:String} (I:Inv X pins σ H s) (sm:aI F H) (r:Rep X.K F t v) (ru:RelV v u) (ha:HX t=some a) :
  ∃ Hh:Heap -> Prop,PySem.W.KitX X.K u (.type a) Hh /\ Hh s.heap /\ u ≠ .builtin "__main__.__loader__#opaque" := by
 cases t with
 | non=>cases r; cases ru; cases ha; exact ⟨_,PySem.W.kitx_none,True.intro,fun z=>nomatch z⟩
 | bl _=>cases r; cases ru; cases ha; exact ⟨_,PySem.W.kitx_bool,True.intro,fun z=>nomatch z⟩
 | int _=>cases r; obtain ⟨t,rfl⟩:=ru; cases ha; exact ⟨_,PySem.W.kitx_int,True.intro,fun z=>nomatch z⟩
 | str _=>cases r; obtain ⟨t,rfl⟩:=ru; cases ha; exact ⟨_,PySem.W.kitx_str,True.intro,fun z=>nomatch z⟩
 | ty _=>cases ha
 | tup _ =>
  obtain ⟨p,xs,rfl,h1,h2⟩:=r
  cases ru; cases ha
  obtain ⟨its,rv,⟨o,g1,g2,n,g3⟩,_⟩:=I.tuple (bI sm h1)
  exact ⟨_,PySem.W.kitx_tuple,⟨o,g1,g2⟩,fun z=>nomatch z⟩
 | lst _ =>
  obtain ⟨p,xs,rfl,h1,h2⟩:=r
  cases ru; cases ha
  obtain ⟨its,rv,⟨o,n,g1,g2,_,g3⟩,_⟩:=I.list (gE.of (sm _ _ h1))
  exact ⟨_,PySem.W.kitx_list,⟨o,g1,g2⟩,fun z=>nomatch z⟩
 | scr _ =>
  obtain ⟨p,xs,rfl,h1,h2⟩:=r
  cases ru; cases ha
  obtain ⟨its,rv,⟨o,n,g1,g2,_,g3⟩,_⟩:=I.list (sm.seq h1)
  exact ⟨_,PySem.W.kitx_list,⟨o,g1,g2⟩,fun z=>nomatch z⟩
 | dic =>
  obtain ⟨p,rfl,h1⟩:=r
  cases ru; cases ha
  obtain ⟨_,_,vs,_,o,es,ep,h1,h2,_⟩:=(show dY X.prog X.w H s.heap p (.dK []) from I.hok p _ (sm _ _ h1))
  exact ⟨_,PySem.W.kitx_dict,⟨o,h1,h2.1⟩,fun z=>nomatch z⟩
 | obj _ _ _=>cases ha
 | ptr _=>cases ha
 | exc _=>cases ha
def bp:List T -> Option T
 | [t,.ty c]=>(HX t).bind fun a=>(Kf a c).bind fun b=>some (.bl b)
 | [t,.tup cs]=>(HX t).bind fun a=>(GF a cs).bind fun b=>some (.bl b)
 | _=>none
theorem iA:hU X (.builtin "isinstance") bp:=by
 intro pins s σ H xs us Q I rx ⟨F,ts,t,sm,r,e,q⟩
 unfold bp at e
 split at e
 ·obtain ⟨a,e1,e⟩:=bind_some e
  obtain ⟨b,e2,e⟩:=bind_some e
  cases e
  obtain ⟨v,rr,rfl,h1,v2,r2,rfl,h2,rfl⟩:=r
  cases h2
  obtain ⟨u1,u2,rfl,ra,rb⟩:=Vals.two rx
  cases rb
  obtain ⟨Hh,Z,hh,hn⟩:=vf I sm h1 ra e1
  exact PySem.W.kia_one Z I.kIn hh (BH e1 e2) hn fun tk=>⟨.bl b,H,I.tok tk,rfl,q F H _ (aX.refl sm) rfl⟩
 ·obtain ⟨a,e1,e⟩:=bind_some e
  obtain ⟨b,e2,e⟩:=bind_some e
  cases e
  obtain ⟨v,rr,rfl,h1,v2,r2,rfl,⟨p,xs,rfl,h3,h4⟩,rfl⟩:=r
  obtain ⟨u1,u2,rfl,ra,rb⟩:=Vals.two rx
  cases rb
  obtain ⟨Hh,Z,hh,hn⟩:=vf I sm h1 ra e1
  obtain ⟨its,rv,⟨o,g1,g2,n,g3⟩,_⟩:=I.tuple (bI sm h3)
  obtain ⟨oc,od,odt,osl⟩:=o
  dsimp only at g2 g3
  subst g2 g3
  exact PySem.W.kia_tup Z I.kIn hh g1 (yI e1 e2 h4 rv) hn fun tk=>⟨.bl b,H,I.tok tk,rfl,q F H _ (aX.refl sm) rfl⟩
 ·cases e
end
open PySem PySem.Spec PyProof.Rows L2
section
variable {X:Cx} {pos:Pos}
def KH:FE:=fun τ=>some (.dic,τ)
abbrev FO:=aA -> Option (Option Int × aA)
def tO (K:PySem.W.Frag) (F₀ H₀:Hp) (f:FO):TO:=fun σ H Q=>∃ F τ o τ',az K F₀ H₀ F H σ τ /\ f τ=some (o,τ') /\ ∀ F' H',az K F₀ H₀ F' H' σ τ' -> aI F F' -> Q o H'
def SO (X:Cx) (e:Option Expr) (f:FO):Prop:=∀ F₀ H₀,PO X e (tO X.K F₀ H₀ f)
def dy:FO:=fun τ=>some (none,τ)
def eE (f:FE):FO:=fun τ=>(f τ).bind fun p=>match p.1 with | .int i=>some (some i,p.2) | _=>none
theorem PO.weak {e:Option Expr} {t t':TO} (h:PO X e t) (i:∀ σ H Q,t' σ H Q -> t σ H Q):PO X e t':=fun pins s σ H Q I q=>h pins s σ H Q I (i σ H Q q)
theorem lE:SO X none dy:=fun F₀ H₀=>PO.weak Ek fun σ H Q hq__=>by
 obtain ⟨F,τ,t,τ',E,e1,q⟩:=hq__
 cases e1
 exact q F H E (aI.refl _)
theorem iJ {e:Expr} {f:FE} (h:SE X e f):SO X (some e) (eE f):=fun F₀ H₀=>PO.weak (El (h F₀ H₀)) fun σ H Q hq__=>by
 obtain ⟨F,τ,t,τ',E,e1,q⟩:=hq__
 obtain ⟨⟨x,τ1⟩,e2,e1⟩:=bind_some e1
 dsimp only at e1
 split at e1
 ·cases e1
  exact ⟨F,τ,_,_,E,e2,fun F' H' v E' s' r'=>by cases r'; exact ⟨_,rfl,q F' H' E' s'⟩⟩
 ·cases e1
def rk (xs:List T) (lo hi:Option Int):List T:=(xs.drop (HT.eT xs.length 0 lo)).take (HT.eT xs.length xs.length hi - HT.eT xs.length 0 lo)
def HU (t:T) (lo hi:Option Int):Option T:=match t with
 | .lst xs=>some (.lst (rk xs lo hi))
 | .scr xs=>some (.lst (rk xs lo hi))
 | .tup xs=>if HT.eT xs.length 0 lo=0 /\ HT.eT xs.length xs.length hi=xs.length then none else some (.tup (rk xs lo hi))
 | _=>none
theorem rl {K:PySem.W.Frag} {F:Hp} {ts:List T} {vs:List V} (r:aP K F ts vs) (lo hi:Option Int):aP K F (rk ts lo hi) (og vs lo hi):=by
 unfold rk og
 rw [r.length]
 exact (r.drop _).take _
def uH (f:FE) (fl fh:FO):FE:=fun τ=>(f τ).bind fun p=>(fl p.2).bind fun q=>(fh q.2).bind fun r=>(HU p.1 q.1 r.1).bind fun t=>some (t,r.2)
theorem ij {e:Expr} {lo hi:Option Expr} {f:FE} {fl fh:FO} {p2:Pos} (he:SE X e f) (hl:SO X lo fl) (hh:SO X hi fh):SE X (.Subscript e (.Slice lo hi none p2) pos) (uH f fl fh):=
 fun F₀ H₀=>PE.weak (Ce (E9.or EF Hw) (he F₀ H₀) (hl F₀ H₀) (hh F₀ H₀)) fun σ H Q hq__=>by
  obtain ⟨F,τ,t,τ',E,e1,q⟩:=hq__
  obtain ⟨⟨x,τ1⟩,e2,e1⟩:=bind_some e1
  obtain ⟨⟨l,τ2⟩,e3,e1⟩:=bind_some e1
  obtain ⟨⟨h,τ3⟩,e4,e1⟩:=bind_some e1
  obtain ⟨y,e5,e1⟩:=bind_some e1
  cases e1
  refine ⟨F,τ,x,τ1,E,e2,fun F1 H1 v E1 s1 r1=>⟨F1,τ1,l,τ2,E1,e3,fun F2 H2 E2 s2=>⟨F2,τ2,h,_,E2,e4,fun F3 H3 E3 s3=>?_⟩⟩⟩
  have r3:=Rep.mono (s2.trans s3) r1
  have sm:=E3.g.fh
  dsimp only at e5
  unfold HU at e5
  split at e5
  ·cases e5
   obtain ⟨p,xs,rfl,h1,h2⟩:=r3
   refine .inl ⟨p,xs,rfl,gE.of (sm _ _ h1),fun a ha=>?_⟩
   have gr:=aX.new (.lst (og xs l h)) sm ha
   exact q _ _ _ (E3.grow gr) (((s1.trans s2).trans s3).trans gr.sF) ⟨a,_,rfl,aN,aP.mono gr.sF (rl h2 l h)⟩
  ·cases e5
   obtain ⟨p,xs,rfl,h1,h2⟩:=r3
   refine .inl ⟨p,xs,rfl,sm.seq h1,fun a ha=>?_⟩
   have gr:=aX.new (.lst (og xs l h)) sm ha
   exact q _ _ _ (E3.grow gr) (((s1.trans s2).trans s3).trans gr.sF) ⟨a,_,rfl,aN,aP.mono gr.sF (rl h2 l h)⟩
  ·split at e5
   ·cases e5
   ·next hn =>
    cases e5
    obtain ⟨p,xs,rfl,h1,h2⟩:=r3
    refine .inr ⟨p,xs,rfl,bI sm h1,by rw [h2.length]; exact hn,fun a ha=>?_⟩
    have gr:=aX.new (.tup (og xs l h)) sm ha
    exact q _ _ _ (E3.grow gr) (((s1.trans s2).trans s3).trans gr.sF) ⟨a,_,rfl,jP.of aN,aP.mono gr.sF (rl h2 l h)⟩
  ·cases e5
theorem mC (i:Nat) {x:Str} {p1 p2 p3:Pos} {e:Expr} {f:FE} (hv:PE X (.Name x p1) (qd i)) (he:SE X e f)
  (hbase:attributeBase (.Name x p1) "append" X.env (eval (.Name x p1) X.env)=eval (.Name x p1) X.env:=by rfl)
  (hfew:((backTo p3 (starEach [e] X.env)).all (fun x=>!x.1) && (backToKw p3 (keywordEach [] X.env)).all (fun x=>x.1.isSome) && decide ([e].length + ([]:List Keyword).length + (if ([]:List Keyword).isEmpty then 0 else 1) < 30))=true:=by rfl)
  (hline:(p2.endLine == p3.line)=true:=by rfl) (hs:starEach [e] X.env=(false,eval e X.env) :: starEach [] X.env:=by rfl) (hpl:(backTo p3 (starEach [] X.env)).any (·.1)=false:=by rfl)
  (hsw:swapsWith (.Call (.Attribute (.Name x p1) "append" p2) [e] [] p3) none pos.line X.env=pure false:=by rfl) :
  SS X (.Expr (.Call (.Attribute (.Name x p1) "append" p2) [e] [] p3) pos) (mS i f):=fun F₀ H₀ =>
 PS.weak (nE (Cb PySem.F.plainAttrs_list PySem.F.slot_list_append PySem.F.type_list_append ic hv (fF (he F₀ H₀) jj hs) hbase hfew hline hs hpl) hsw) fun D σ H hq__=>by
  obtain ⟨F,τ,r,E,e1,q⟩:=hq__
  unfold mS at e1
  split at e1
  ·next ts0 h0 =>
   obtain ⟨⟨t,τ1⟩,e2,e1⟩:=bind_some e1
   dsimp only at e1
   split at e1
   ·next ts h1 =>
    split at e1
    ·next hz =>
     cases e1
     obtain ⟨v,g1,p,vs,rfl,g2,g3,g4,g5⟩:=E.sl i _ h0
     refine ⟨_,g1,.inl ⟨rfl,vs,gE.of g2⟩,F,τ,t,τ1,E,e2,fun F' H' w E' s' r'=>?_⟩
     obtain ⟨v',k1,p',vs',rfl,k2,k3,k4,k5⟩:=E'.sl i _ h1
     rw [g1] at k1; cases k1
     exact ⟨p,vs',w,rfl,rfl,k2,by rw [k5.length]; exact hz,q F' _ σ (E'.turnOwn h1 g1 (k5.append (.one r'))) s'⟩
    ·cases e1
   ·cases e1
  ·cases e1
def Hy (a b c:Int):Prop:=(0 ≤ a /\ a < 2 ^ 62) /\ (0 ≤ b /\ b < 2 ^ 62) /\ (1 ≤ c /\ c < 2 ^ 29)
instance (a b c:Int):Decidable (Hy a b c):=inferInstanceAs (Decidable ((_ /\ _) /\ (_ /\ _) /\ _ /\ _))
end
open PySem PySem.Spec PyProof.Rows L2
def eZ (b:Bool) (h:Heap) (it a:Addr) (i:Nat):Prop:=match b with
 | true=>h.IsListIter it a i
 | false=>h.IsTupleIter it a i
def ir (b:Bool) (h:Heap) (a:Addr) (xs:Array Value):Prop:=match b with
 | true=>h.IsList a xs
 | false=>h.IsTuple a xs
theorem eZ.ext {b:Bool} {h h':Heap} {it a:Addr} {i:Nat} (x:eZ b h it a i) (k:∀ o,h.get? it=some o -> h'.get? it=some o):eZ b h' it a i:=by
 cases b with
 | true=>obtain ⟨o,e,r⟩:=x; exact ⟨o,k o e,r⟩
 | false=>obtain ⟨o,e,r⟩:=x; exact ⟨o,k o e,r⟩
theorem ir.ext {b:Bool} {h h':Heap} {a:Addr} {xs:Array Value} (x:ir b h a xs) (k:∀ o,h.get? a=some o -> h'.get? a=some o):ir b h' a xs:=by
 cases b with
 | true=>obtain ⟨o,e,r⟩:=x; exact ⟨o,k o e,r⟩
 | false=>obtain ⟨o,e,r⟩:=x; exact ⟨o,k o e,r⟩
theorem eZ.obj {b:Bool} {h:Heap} {it a:Addr} {i:Nat} (x:eZ b h it a i):∃ o,h.get? it=some o /\ ∀ v,o.data ≠ .cell v:=by
 cases b with
 | true=>obtain ⟨o,e,_,d⟩:=x; exact ⟨o,e,fun v z=>by rw [d] at z; cases z⟩
 | false=>obtain ⟨o,e,_,d⟩:=x; exact ⟨o,e,fun v z=>by rw [d] at z; cases z⟩
section
variable {prog:Program} {w:World} {A:Around} {E:Value -> Shared -> Prop} {s:Shared}
theorem ji {b:Bool} {it a:Addr} {i:Nat} {xs:Array Value} {x:Value} {Q:Value -> Shared -> Prop} (h1:eZ b s.heap it a i) (h2:ir b s.heap a xs) (hx:xs[i]? = some x)
  (hQ:∀ h',eZ b h' it a (i + 1) -> Heap.SameBut it s.heap h' -> Q x { s with heap:=h' }):wpAny (model prog w) A (Builtin.SmallTypes.nextOf (.ref it)) Q E s:=by
 cases b with
 | true=>exact wpAny_nextOf_list_item h1 h2 hx hQ
 | false =>
  have h1':s.heap.IsTupleIter it a i:=h1
  obtain ⟨o,ho,hc,hd⟩:=id h1'
  obtain ⟨ol,hol,_,nl,hdl⟩:=(show s.heap.IsTuple a xs from h2)
  unfold Builtin.SmallTypes.nextOf
  refine wpAny_bind (wpAny_callSpecial?_slot (name:=Str.ofString "__next__") h1'.typeIs F.slot_tuple_iterator_next (wpAny_call_entry F.slot_tuple_iterator_next h1'.typeIs F.entry_tuple_iterator_next (?_:wpAny _ _ (field (.ref it) 0 >>= _) _ _ s) (F.args_tuple_iterator_next_1 _)))
  refine wpAny_bind (wpAny_field ho hd (x:=.ref a) rfl (?_:wpAny _ _ (if (Value.ref a == Value.none)=true then _ else _) _ _ s))
  rw [if_neg (show ¬ ((Value.ref a == Value.none)=true) from Bool.false_ne_true)]
  refine (wpAny_bind (wpAny_field ho hd (x:=.int i 0) rfl ?_):wpAny _ _ (field (.ref it) 1 >>= _) _ _ s)
  refine wpAny_bind (wpAny_seqItems (a:=a) hol hdl ?_)
  simp only [Int.toNat_natCast,hx]
  refine wpAny_bind (wpAny_setField ho hd (by simp) (wpAny_pure ⟨x,rfl,wpAny_pure (hQ _ ⟨_,Heap.get?_update_self _ ho (Obj.isFreed_of_fields (Obj.data_mapFields hd _)),(Obj.cls_mapFields ..).trans hc,?_⟩ (Heap.SameBut.update ..))⟩))
  rw [Obj.data_mapFields hd] <;> simp [rawInt]
theorem oH {b:Bool} {it a:Addr} {i:Nat} {xs:Array Value} {Q:Value -> Shared -> Prop} (hh:A.handled=none) (h1:eZ b s.heap it a i) (h2:ir b s.heap a xs) (hx:xs[i]? = none)
  (hE:∀ h' e,Heap.ExtBut it s.heap h' -> (∃ o,h'.get? e=some o /\ o.cls=.type "StopIteration") -> E (.ref e) { s with heap:=h' }):wpAny (model prog w) A (Builtin.SmallTypes.nextOf (.ref it)) Q E s:=by
 cases b with
 | true=>exact wpAny_nextOf_list_end hh h1 h2 hx hE
 | false =>
  have h1':s.heap.IsTupleIter it a i:=h1
  obtain ⟨o,ho,hc,hd⟩:=id h1'
  obtain ⟨ol,hol,_,nl,hdl⟩:=(show s.heap.IsTuple a xs from h2)
  unfold Builtin.SmallTypes.nextOf
  refine wpAny_bind (wpAny_callSpecial?_slot (name:=Str.ofString "__next__") h1'.typeIs F.slot_tuple_iterator_next (wpAny_call_entry F.slot_tuple_iterator_next h1'.typeIs F.entry_tuple_iterator_next (?_:wpAny _ _ (field (.ref it) 0 >>= _) _ _ s) (F.args_tuple_iterator_next_1 _)))
  refine wpAny_bind (wpAny_field ho hd (x:=.ref a) rfl (?_:wpAny _ _ (if (Value.ref a == Value.none)=true then _ else _) _ _ s))
  rw [if_neg (show ¬ ((Value.ref a == Value.none)=true) from Bool.false_ne_true)]
  refine (wpAny_bind (wpAny_field ho hd (x:=.int i 0) rfl ?_):wpAny _ _ (field (.ref it) 1 >>= _) _ _ s)
  refine wpAny_bind (wpAny_seqItems (a:=a) hol hdl ?_)
  simp only [Int.toNat_natCast,hx]
  refine wpAny_bind (wpAny_rule (wpAny_bind (wpAny_setField ho hd (by simp) (wpAny_bind (m:=newExc (.type "StopIteration") []) ?_))))
  simp only [newExc,newTuple]
  refine wpAny_bind (wpAny_newObj_type (wpAny_bind (m:=firstArgMember _ _) (wpAny_of_eq (a:=Value.none) (by first | rfl | (simp only [firstArgMember]; rfl)) (wpAny_newObj_type ?_ (by size_fits)))) (by size_fits))
  simp only [raiseNew]
  refine wpAny_bind (wpAny_handled ?_)
  first | rw [show A.in1.handled=none from hh] | rw [hh]
  exact wpAny_bind (wpAny_pure (wpAny_throw (hE _ _ (((Heap.SameBut.update ..).extBut.push _).push _) ⟨_,Heap.get?_push_size _ rfl,rfl⟩)))
variable {z TI TO i1 i2 l1 l2:Addr} {k:Nat} {xs ys:Array Value} {x y a b:Value} {c1 c2:Bool}
theorem CV {Q:Value -> Shared -> Prop} (D:ZipApart z TI TO i1 i2 l1 l2) (hz:IsZip s.heap z TI TO .none) (hI:IsPair s.heap TI (.ref i1) (.ref i2)) (hO:IsPair s.heap TO a b)
  (h1:eZ c1 s.heap i1 l1 k) (h2:eZ c2 s.heap i2 l2 k) (g1:ir c1 s.heap l1 xs) (g2:ir c2 s.heap l2 ys) (hx:xs[k]? = some x) (hy:ys[k]? = some y)
  (hQ:∀ h',IsZip h' z TI TO (rawInt s.heap.objs.size) -> IsPair h' TO x y -> eZ c1 h' i1 l1 (k + 1) -> eZ c2 h' i2 l2 (k + 1) -> IsPair h' s.heap.objs.size x y ->
   (∀ c o,c ≠ z -> c ≠ TO -> c ≠ i1 -> c ≠ i2 -> s.heap.get? c=some o -> h'.get? c=some o) -> Q (.ref s.heap.objs.size) { s with heap:=h' }) :
  wpAny (model prog w) A (Builtin.«zip.__next__» ⟨[.ref z],[]⟩) (fun fin s'=>∃ v,fin=.done (.ret v) /\ Q v s') E s:=by
 refine (wpAny_bind (wpAny_field hz rfl (x:=.bool false) rfl ?_):wpAny _ _ (field (.ref z) 2 >>= _) _ _ _)
 refine (wpAny_bind (wpAny_field hz rfl (x:=.ref TI) rfl ?_):wpAny _ _ (field (.ref z) 3 >>= _) _ _ _)
 refine wpAny_bind (wpAny_seqItems hI rfl ?_)
 refine (wpAny_bind ?_:wpAny _ _ (Builtin.SmallTypes.ownedTupleIsFree (.ref z) >>= _) _ _ _)
 unfold Builtin.SmallTypes.ownedTupleIsFree
 refine wpAny_bind (wpAny_field hz rfl (x:=.none) rfl (wpAny_pure ?_))
 simp only [if_true]
 refine wpAny_bind (wpAny_rule (wpAny_bind (wpAny_field hz rfl (x:=.ref TO) rfl (wpAny_bind (wpAny_setField_rec hz (by simp) fun ha za sa=>?_)))))
 replace za:IsZip ha z TI TO .ellipsis:=za
 refine wpAny_bind ?_
 simp only [List.zipIdx_cons,List.zipIdx_nil,List.forIn_cons,List.forIn_nil]
 refine wpAny_bind (wpAny_bind (wpAny_onRaise (?_:wpAny _ _ (Builtin.SmallTypes.nextOf (.ref i1) >>= _) _ _ _)))
 refine wpAny_bind (ji (h1.ext fun o e=>sa.extBut _ _ D.i1z e) (g1.ext fun o e=>sa.extBut _ _ D.l1z e) hx fun hb kb sb=>wpAny_pure ?_)
 have Ob:IsPair hb TO a b:=sb.extBut _ _ D.TOi1 (sa.extBut _ _ D.TOz hO)
 refine wpAny_bind (wpAny_seqItems Ob rfl (wpAny_bind (wpAny_updateSeq_pair Ob fun hc Oc sc=>wpAny_bind (wpAny_letGo (wpAny_pure ?_)))))
 replace Oc:IsPair hc TO x b:=Oc
 refine wpAny_bind (wpAny_bind (wpAny_onRaise (?_:wpAny _ _ (Builtin.SmallTypes.nextOf (.ref i2) >>= _) _ _ _)))
 refine wpAny_bind (ji (h2.ext fun o e=>sc.extBut _ _ D.TOi2.symm (sb.extBut _ _ D.i12.symm (sa.extBut _ _ D.i2z e))) (g2.ext fun o e=>sc.extBut _ _ D.l2TO (sb.extBut _ _ D.l2i1 (sa.extBut _ _ D.l2z e))) hy fun hd kd sd=>wpAny_pure ?_)
 have Od:IsPair hd TO x b:=sd.extBut _ _ D.TOi2 Oc
 refine wpAny_bind (wpAny_seqItems Od rfl (wpAny_bind (wpAny_updateSeq_pair Od fun he Oe se=>wpAny_bind (wpAny_letGo (wpAny_pure (wpAny_pure ?_))))))
 replace Oe:IsPair he TO x y:=Oe
 refine wpAny_bind (wpAny_seqItems Oe rfl (wpAny_bind (wpAny_newTuple ?_)))
 have ez:he.objs.size=s.heap.objs.size:=by rw [se.1,sd.1,sc.1,sb.1,sa.1]
 have ze:IsZip he z TI TO .ellipsis:=se.extBut _ _ D.TOz.symm (sd.extBut _ _ D.i2z.symm (sc.extBut _ _ D.TOz.symm (sb.extBut _ _ D.i1z.symm za)))
 have ke:∀ c o,c ≠ z -> c ≠ TO -> c ≠ i1 -> c ≠ i2 -> s.heap.get? c=some o -> he.get? c=some o:=fun c o n1 n2 n3 n4 e=>se.extBut _ _ n2 (sd.extBut _ _ n4 (sc.extBut _ _ n2 (sb.extBut _ _ n3 (sa.extBut _ _ n1 e))))
 have i1e:eZ c1 he i1 l1 (k + 1):=kb.ext fun o e=>se.extBut _ _ D.TOi1.symm (sd.extBut _ _ D.i12 (sc.extBut _ _ D.TOi1.symm e))
 have i2e:eZ c2 he i2 l2 (k + 1):=kd.ext fun o e=>se.extBut _ _ D.TOi2.symm e
 have zlt:z < he.objs.size:=Heap.lt_size ze
 refine (wpAny_bind ?_:wpAny _ _ (Builtin.SmallTypes.ownedTupleHandOut (.ref z) (.ref he.objs.size) >>= _) _ _ _)
 unfold Builtin.SmallTypes.ownedTupleHandOut
 have zf:IsZip (he.push { cls:=.type "tuple", data:=.seq #[x,y] }) z TI TO .ellipsis:=Heap.get?_push_of_some _ ze
 refine wpAny_bind (wpAny_setField_rec zf (by simp) fun hg zg sg=>?_)
 replace zg:IsZip hg z TI TO (rawInt he.objs.size):=zg
 refine wpAny_setField_rec zg (by simp) fun hh zh sh=>?_
 replace zh:IsZip hh z TI TO (rawInt he.objs.size):=zh
 have up:∀ c o,c ≠ z -> he.get? c=some o -> hh.get? c=some o:=fun c o n e=>sh.extBut _ _ n (sg.extBut _ _ n (Heap.get?_push_of_some _ e))
 have tp:IsPair hh he.objs.size x y:=sh.extBut _ _ (Nat.ne_of_gt zlt) (sg.extBut _ _ (Nat.ne_of_gt zlt) (Heap.get?_push_size _ rfl))
 rw [ez] at zh tp
 refine wpAny_pure ⟨_,rfl,(?_:Q (.ref he.objs.size) _)⟩
 rw [ez]
 exact hQ hh zh (up _ _ D.TOz Oe) (i1e.ext fun o e=>up _ o D.i1z e) (i2e.ext fun o e=>up _ o D.i2z e) tp fun c o n1 n2 n3 n4 e=>up c o n1 (ke c o n1 n2 n3 n4 e)
theorem EU {Q:Fin -> Shared -> Prop} (hh:A.handled=none) (D:ZipApart z TI TO i1 i2 l1 l2) (hz:IsZip s.heap z TI TO .none) (hI:IsPair s.heap TI (.ref i1) (.ref i2)) (hO:IsPair s.heap TO a b)
  (h1:eZ c1 s.heap i1 l1 k) (h2:eZ c2 s.heap i2 l2 k) (g1:ir c1 s.heap l1 xs) (g2:ir c2 s.heap l2 ys) (hend:xs[k]? = none \/ ys[k]? = none)
  (hE:∀ h' e,(∀ c o,c ≠ z -> c ≠ TO -> c ≠ i1 -> c ≠ i2 -> s.heap.get? c=some o -> h'.get? c=some o) -> (∃ o,h'.get? e=some o /\ o.cls=.type "StopIteration") -> E (.ref e) { s with heap:=h' }) :
  wpAny (model prog w) A (Builtin.«zip.__next__» ⟨[.ref z],[]⟩) Q E s:=by
 refine (wpAny_bind (wpAny_field hz rfl (x:=.bool false) rfl ?_):wpAny _ _ (field (.ref z) 2 >>= _) _ _ _)
 refine (wpAny_bind (wpAny_field hz rfl (x:=.ref TI) rfl ?_):wpAny _ _ (field (.ref z) 3 >>= _) _ _ _)
 refine wpAny_bind (wpAny_seqItems hI rfl ?_)
 refine (wpAny_bind ?_:wpAny _ _ (Builtin.SmallTypes.ownedTupleIsFree (.ref z) >>= _) _ _ _)
 unfold Builtin.SmallTypes.ownedTupleIsFree
 refine wpAny_bind (wpAny_field hz rfl (x:=.none) rfl (wpAny_pure ?_))
 simp only [if_true]
 refine wpAny_bind (wpAny_rule (wpAny_bind (wpAny_field hz rfl (x:=.ref TO) rfl (wpAny_bind (wpAny_setField_rec hz (by simp) fun ha za sa=>?_)))))
 replace za:IsZip ha z TI TO .ellipsis:=za
 refine wpAny_bind ?_
 simp only [List.zipIdx_cons,List.zipIdx_nil,List.forIn_cons,List.forIn_nil]
 refine wpAny_bind (wpAny_bind (wpAny_onRaise (?_:wpAny _ _ (Builtin.SmallTypes.nextOf (.ref i1) >>= _) _ _ _)))
 cases hx:xs[k]? with
 | none =>
  refine wpAny_bind (oH hh (h1.ext fun o e=>sa.extBut _ _ D.i1z e) (g1.ext fun o e=>sa.extBut _ _ D.l1z e) hx fun hb e sb eo=>?_)
  obtain ⟨oe,ho,hc⟩:=eo
  have zb:IsZip hb z TI TO .ellipsis:=sb _ _ D.i1z.symm za
  have ne:e ≠ z:=fun q=>by subst q; rw [zb] at ho; cases ho; simp at hc
  exact wpAny_setField_rec zb (by simp) fun hd _ sd=>hE hd e (fun c o n1 _ n3 _ q=>sd.extBut _ _ n1 (sb _ _ n3 (sa.extBut _ _ n1 q))) ⟨oe,sd.extBut _ _ ne ho,hc⟩
 | some x =>
  have hy:ys[k]? = none:=by rcases hend with h | h; rw [hx] at h; cases h; exact h
  refine wpAny_bind (ji (h1.ext fun o e=>sa.extBut _ _ D.i1z e) (g1.ext fun o e=>sa.extBut _ _ D.l1z e) hx fun hb kb sb=>wpAny_pure ?_)
  have Ob:IsPair hb TO a b:=sb.extBut _ _ D.TOi1 (sa.extBut _ _ D.TOz hO)
  refine wpAny_bind (wpAny_seqItems Ob rfl (wpAny_bind (wpAny_updateSeq_pair Ob fun hc Oc sc=>wpAny_bind (wpAny_letGo (wpAny_pure ?_)))))
  refine wpAny_bind (wpAny_bind (wpAny_onRaise (?_:wpAny _ _ (Builtin.SmallTypes.nextOf (.ref i2) >>= _) _ _ _)))
  refine wpAny_bind (oH hh (h2.ext fun o e=>sc.extBut _ _ D.TOi2.symm (sb.extBut _ _ D.i12.symm (sa.extBut _ _ D.i2z e))) (g2.ext fun o e=>sc.extBut _ _ D.l2TO (sb.extBut _ _ D.l2i1 (sa.extBut _ _ D.l2z e))) hy fun hd e sd eo=>?_)
  obtain ⟨oe,ho,hk⟩:=eo
  have zd:IsZip hd z TI TO .ellipsis:=sd _ _ D.i2z.symm (sc.extBut _ _ D.TOz.symm (sb.extBut _ _ D.i1z.symm za))
  have ne:e ≠ z:=fun q=>by subst q; rw [zd] at ho; cases ho; simp at hk
  exact wpAny_setField_rec zd (by simp) fun hf _ sf=>hE hf e (fun c o n1 n2 n3 n4 q=>sf.extBut _ _ n1 (sd _ _ n4 (sc.extBut _ _ n2 (sb.extBut _ _ n3 (sa.extBut _ _ n1 q))))) ⟨oe,sf.extBut _ _ ne ho,hk⟩
theorem ue {Q:Option Value -> Shared -> Prop} (D:ZipApart z TI TO i1 i2 l1 l2) (hz:IsZip s.heap z TI TO .none) (hI:IsPair s.heap TI (.ref i1) (.ref i2)) (hO:IsPair s.heap TO a b)
  (h1:eZ c1 s.heap i1 l1 k) (h2:eZ c2 s.heap i2 l2 k) (g1:ir c1 s.heap l1 xs) (g2:ir c2 s.heap l2 ys) (hx:xs[k]? = some x) (hy:ys[k]? = some y)
  (hQ:∀ h',IsZip h' z TI TO (rawInt s.heap.objs.size) -> IsPair h' TO x y -> eZ c1 h' i1 l1 (k + 1) -> eZ c2 h' i2 l2 (k + 1) -> IsPair h' s.heap.objs.size x y ->
   (∀ c o,c ≠ z -> c ≠ TO -> c ≠ i1 -> c ≠ i2 -> s.heap.get? c=some o -> h'.get? c=some o) -> Q (some (.ref s.heap.objs.size)) { s with heap:=h' }):wpAny (model prog w) A (pyNext (.ref z)) Q E s:=by
 have hT:s.TypeIs (.ref z) "zip" := ⟨_,hz,rfl⟩
 unfold pyNext
 exact wpAny_bind (wpAny_attempt (wpAny_callSpecial?_slot (name:=Str.ofString "__next__") hT F.slot_zip_next (wpAny_call_entry F.slot_zip_next hT F.entry_zip_next
  (CV D hz hI hO h1 h2 g1 g2 hx hy fun h' a1 a2 a3 a4 a5 a6=>wpAny_pure (hQ h' a1 a2 a3 a4 a5 a6)) (F.args_zip_next_1 _))))
theorem vZ {Q:Option Value -> Shared -> Prop} (hh:A.handled=none) (D:ZipApart z TI TO i1 i2 l1 l2) (hz:IsZip s.heap z TI TO .none) (hI:IsPair s.heap TI (.ref i1) (.ref i2)) (hO:IsPair s.heap TO a b)
  (h1:eZ c1 s.heap i1 l1 k) (h2:eZ c2 s.heap i2 l2 k) (g1:ir c1 s.heap l1 xs) (g2:ir c2 s.heap l2 ys) (hend:xs[k]? = none \/ ys[k]? = none)
  (hQ:∀ h',(∀ c o,c ≠ z -> c ≠ TO -> c ≠ i1 -> c ≠ i2 -> s.heap.get? c=some o -> h'.get? c=some o) -> Q none { s with heap:=h' }):wpAny (model prog w) A (pyNext (.ref z)) Q E s:=by
 have hT:s.TypeIs (.ref z) "zip" := ⟨_,hz,rfl⟩
 unfold pyNext
 refine wpAny_bind (wpAny_attempt (wpAny_callSpecial?_slot (name:=Str.ofString "__next__") hT F.slot_zip_next (wpAny_call_entry F.slot_zip_next hT F.entry_zip_next
  (EU hh D hz hI hO h1 h2 g1 g2 hend fun h' e hk eo=>?_) (F.args_zip_next_1 _))))
 obtain ⟨o,ho,hc⟩:=eo
 exact wpAny_bind (wpAny_isInstance (T := "StopIteration") (b:=true) ⟨o,ho,hc⟩ isSubtype_stop (wpAny_pure (hQ _ hk)))
end
open PySem PySem.Spec PyProof.Rows L2
def xh (b:Bool) (l:Addr):Obj:=match b with
 | true=>{ cls:=.type "list_iterator", data:=.fields #[.ref l,.int 0 0] }
 | false=>{ cls:=.type "tuple_iterator", data:=.fields #[.ref l,.int 0 0] }
theorem yE {b:Bool} {l it:Addr} {h:Heap} (e:h.get? it=some (xh b l)):eZ b h it l 0:=by
 cases b with
 | true=>exact ⟨_,e,rfl,rfl⟩
 | false=>exact ⟨_,e,rfl,rfl⟩
abbrev Km (h:Heap) (c1:Bool) (l1:Addr):Heap:=h.push (xh c1 l1)
abbrev Kn (h:Heap) (c1 c2:Bool) (l1 l2:Addr):Heap:=(Km h c1 l1).push (xh c2 l2)
abbrev Ko (h:Heap) (c1 c2:Bool) (l1 l2:Addr):Heap:=(Kn h c1 c2 l1 l2).push { cls:=.type "tuple", data:=.seq #[.ref h.objs.size,.ref (Km h c1 l1).objs.size] }
abbrev Kp (h:Heap) (c1 c2:Bool) (l1 l2:Addr):Heap:=(Ko h c1 c2 l1 l2).push { cls:=.type "tuple", data:=.seq #[.none,.none] }
abbrev HY (h:Heap) (c1 c2:Bool) (l1 l2:Addr):Heap:=(Kp h c1 c2 l1 l2).push { cls:=.type "zip", data:=.fields #[.none,.bool false,.bool false,.ref (Kn h c1 c2 l1 l2).objs.size,.ref (Ko h c1 c2 l1 l2).objs.size] }
abbrev AN (c1 c2:Bool) (l1 l2:Addr) (xs ys:Array Value):Prop:=Meets (Builtin.«zip.__new__» ⟨[.type "zip", .ref l1,.ref l2],[]⟩) (fun _ R s=>ir c1 s.heap l1 xs /\ ir c2 s.heap l2 ys /\
   R (.ok (.ret (.ref (Kp s.heap c1 c2 l1 l2).objs.size))) { s with heap:=HY s.heap c1 c2 l1 l2 })
theorem x8 (l1 l2:Addr) (xs ys:Array Value):AN true true l1 l2 xs ys:=.of_wp fun prog w A R s h=>by
 obtain ⟨hp,g,d,tk,os⟩:=s
 obtain ⟨q1,q2,h⟩:=h
 have hsub:=sub_zip
 have p1:Heap.IsList (Shared.heap ⟨hp,g,d,tk,os⟩) l1 xs:=q1
 have p2:Heap.IsList (Shared.heap ⟨hp.push { cls:=.type "list_iterator", data:=.fields #[.ref l1,.int 0 0] },g,d,tk,os⟩) l2 ys:=Heap.IsList.push q2 _
 wp_walk using wpAny_pyIter_list p1,wpAny_pyIter_list p2
 exact ⟨_,rfl,h⟩
theorem xZ (l1 l2:Addr) (xs ys:Array Value):AN true false l1 l2 xs ys:=.of_wp fun prog w A R s h=>by
 obtain ⟨hp,g,d,tk,os⟩:=s
 obtain ⟨q1,q2,h⟩:=h
 have hsub:=sub_zip
 have p1:Heap.IsList (Shared.heap ⟨hp,g,d,tk,os⟩) l1 xs:=q1
 have p2:Heap.IsTuple (Shared.heap ⟨hp.push { cls:=.type "list_iterator", data:=.fields #[.ref l1,.int 0 0] },g,d,tk,os⟩) l2 ys:=Heap.IsTuple.push q2 _
 wp_walk using wpAny_pyIter_list p1,wpAny_pyIter_tuple p2
 exact ⟨_,rfl,h⟩
theorem xY (l1 l2:Addr) (xs ys:Array Value):AN false true l1 l2 xs ys:=.of_wp fun prog w A R s h=>by
 obtain ⟨hp,g,d,tk,os⟩:=s
 obtain ⟨q1,q2,h⟩:=h
 have hsub:=sub_zip
 have p1:Heap.IsTuple (Shared.heap ⟨hp,g,d,tk,os⟩) l1 xs:=q1
 have p2:Heap.IsList (Shared.heap ⟨hp.push { cls:=.type "tuple_iterator", data:=.fields #[.ref l1,.int 0 0] },g,d,tk,os⟩) l2 ys:=Heap.IsList.push q2 _
 wp_walk using wpAny_pyIter_tuple p1,wpAny_pyIter_list p2
 exact ⟨_,rfl,h⟩
theorem xX (l1 l2:Addr) (xs ys:Array Value):AN false false l1 l2 xs ys:=.of_wp fun prog w A R s h=>by
 obtain ⟨hp,g,d,tk,os⟩:=s
 obtain ⟨q1,q2,h⟩:=h
 have hsub:=sub_zip
 have p1:Heap.IsTuple (Shared.heap ⟨hp,g,d,tk,os⟩) l1 xs:=q1
 have p2:Heap.IsTuple (Shared.heap ⟨hp.push { cls:=.type "tuple_iterator", data:=.fields #[.ref l1,.int 0 0] },g,d,tk,os⟩) l2 ys:=Heap.IsTuple.push q2 _
 wp_walk using wpAny_pyIter_tuple p1,wpAny_pyIter_tuple p2
 exact ⟨_,rfl,h⟩
theorem qf (c1 c2:Bool) (l1 l2:Addr) (xs ys:Array Value):AN c1 c2 l1 l2 xs ys:=by
 cases c1 <;> cases c2
 ·exact xX l1 l2 xs ys
 ·exact xY l1 l2 xs ys
 ·exact xZ l1 l2 xs ys
 ·exact x8 l1 l2 xs ys
section
variable {prog:Program} {w:World} {A:Around} {E:Value -> Shared -> Prop} {s:Shared}
theorem AY {c1 c2:Bool} {l1 l2:Addr} {xs ys:Array Value} {Q:Value -> Shared -> Prop} (q1:ir c1 s.heap l1 xs) (q2:ir c2 s.heap l2 ys)
  (h:∀ h',IsZip h' (s.heap.objs.size + 4) (s.heap.objs.size + 2) (s.heap.objs.size + 3) .none -> IsPair h' (s.heap.objs.size + 2) (.ref s.heap.objs.size) (.ref (s.heap.objs.size + 1)) ->
   IsPair h' (s.heap.objs.size + 3) .none .none -> eZ c1 h' s.heap.objs.size l1 0 -> eZ c2 h' (s.heap.objs.size + 1) l2 0 -> (∀ c o,s.heap.get? c=some o -> h'.get? c=some o) -> Q (.ref (s.heap.objs.size + 4)) { s with heap:=h' }) :
  wpAny (model prog w) A (call (.type "zip") [.ref l1,.ref l2]) Q E s:=by
 refine callType_new F.called_zip (by decide) (F.typeCall_zip_2 _ _) (F.newCall_zip_2 _ _) (fun obj=>F.args_object_init_3 obj _ _) F.entry_zip_new (qf c1 c2 l1 l2 xs ys) ⟨q1,q2,?_⟩
 have z1:(Km s.heap c1 l1).objs.size=s.heap.objs.size + 1:=Heap.size_push ..
 have z2:(Kn s.heap c1 c2 l1 l2).objs.size=s.heap.objs.size + 2:=by rw [Heap.size_push,z1]
 have z3:(Ko s.heap c1 c2 l1 l2).objs.size=s.heap.objs.size + 3:=by rw [Heap.size_push,z2]
 have z4:(Kp s.heap c1 c2 l1 l2).objs.size=s.heap.objs.size + 4:=by rw [Heap.size_push,z3]
 have p:∀ {h:Heap} {o:Obj} {c:Addr} {u:Obj},h.get? c=some u -> (h.push o).get? c=some u:=fun e=>Heap.get?_push_of_some _ e
 have n1:(xh c1 l1).isFreed=false:=by cases c1 <;> rfl
 have n2:(xh c2 l2).isFreed=false:=by cases c2 <;> rfl
 have g5:(HY s.heap c1 c2 l1 l2).get? (Kp s.heap c1 c2 l1 l2).objs.size=some _:=Heap.get?_push_size _ rfl
 have g4:(HY s.heap c1 c2 l1 l2).get? (Ko s.heap c1 c2 l1 l2).objs.size=some _:=p (Heap.get?_push_size _ rfl)
 have g3:(HY s.heap c1 c2 l1 l2).get? (Kn s.heap c1 c2 l1 l2).objs.size=some _:=p (p (Heap.get?_push_size _ rfl))
 have g2:(HY s.heap c1 c2 l1 l2).get? (Km s.heap c1 l1).objs.size=some (xh c2 l2):=p (p (p (Heap.get?_push_size _ n2)))
 have g1:(HY s.heap c1 c2 l1 l2).get? s.heap.objs.size=some (xh c1 l1):=p (p (p (p (Heap.get?_push_size _ n1))))
 show _ /\ _
 rw [z2,z3,z4] at g5
 rw [z1,z2] at g3
 rw [z3] at g4
 rw [z1] at g2
 rw [z4]
 exact ⟨⟨_,g5,rfl⟩,h _ g5 g3 g4 (yE g1) (yE g2) fun c o x=>p (p (p (p (p x))))⟩
end
def uk (b:Bool) (K:PySem.W.Frag) (H:Hp) (a:Addr) (xs:List V):Prop:=match b with
 | true=>gE K H a xs
 | false=>jP K H a xs
def Ku (K:PySem.W.Frag) (c1 c2:Bool) (l1 l2:Addr):It:=
  ⟨fun i H=>∃ xs ys x y,uk c1 K H l1 xs /\ uk c2 K H l2 ys /\ xs[i]? = some x /\ ys[i]? = some y,
   fun i H v H'=>∃ p x y,v=.ref p /\ H p=none /\ H'=upd H p (.tup [x,y]) /\ (∀ xs,uk c1 K H l1 xs -> xs[i]? = some x) /\ ∀ ys,uk c2 K H l2 ys -> ys[i]? = some y,
   fun i H=>∃ xs ys,uk c1 K H l1 xs /\ uk c2 K H l2 ys /\ (xs.length ≤ i \/ ys.length ≤ i)⟩
section
variable {X:Cx} {pins:List (Addr × Obj)} {σ:L2.St} {H:Hp} {s:Shared}
theorem mB {b:Bool} {a:Addr} {xs:List V} (I:Inv X pins σ H s) (h:uk b X.K H a xs):∃ its:List Value,Vals xs its /\ ir b s.heap a its.toArray:=by
 cases b with
 | true=>obtain ⟨its,r,p,_⟩:=I.list h; exact ⟨its,r,p.isList⟩
 | false=>obtain ⟨its,r,p,_⟩:=I.tuple h; exact ⟨its,r,p⟩
theorem zu {b:Bool} {a:Addr} {xs ys:List V} (I:Inv X pins σ H s) (h:uk b X.K H a xs) (h':uk b X.K H a ys):xs=ys:=by
 cases b with
 | true=>exact I.list_inj h h'
 | false=>exact I.tuple_inj h h'
end
structure LW (c1 c2:Bool) (z TI TO i1 i2 l1 l2:Addr) (i:Nat) (h:Heap):Prop where
 hz:IsZip h z TI TO .none
 hI:IsPair h TI (.ref i1) (.ref i2)
 hO:∃ a b,IsPair h TO a b
 h1:eZ c1 h i1 l1 i
 h2:eZ c2 h i2 l2 i
theorem xV {X:Cx} {pins:List (Addr × Obj)} {σ:L2.St} {H:Hp} {s:Shared} {h':Heap} {fp:List Addr} (I:Inv X pins σ H s) (hf:∀ b ∈ fp,pJ X pins H b) (k:∀ b o,b ∉ fp -> s.heap.get? b=some o -> h'.get? b=some o):Inv X pins σ H { s with heap:=h' }:=by
 have nit:∀ b u,H b=some u -> b ∉ fp:=fun b u e z=>by rw [(hf b z).1] at e; cases e
 refine I.step (g':=s.gens) (d':=s.drawn) (t':=s.toks) (ch:=fp) (fun b hb=>?_) (fun b o _ _ hc e _=>k b o hc e) (fun b o _ _ hc e _=>⟨o.slots,k b o hc e⟩) (fun _ _ _ _ n=>n)
  (fun b o hc e=>⟨o,k b o hc e⟩) (fun _ _ e=>e) (fun _ _ _ e=>e) (fun b ps e=>⟨#[],by rw [e]; simp⟩) (fun m hm=>?_) (fun b u e=>?_) I.bare
 ·obtain ⟨_,f1,_,f3,f4,f5⟩:=hf b hb
  exact ⟨f3,f1,f4,f5⟩
 ·obtain ⟨o,es,ep,ho,r⟩:=hm
  exact ⟨o,es,ep,k _ o (fun z=>(hf _ z).2.1 rfl) ho,r⟩
 ·refine (I.hok b u e).stay (fun c v hc q=>k c v ?_ q) (fun _ q=>q) fun _ _ q=>q
  rcases hc with z | z
  ·rw [z]; exact nit b u e
  ·exact nit c _ z
theorem CS {P:Program} {w:World} {K:PySem.W.Frag} {elts:List Expr} {kx:Nat} {px:Pos} {c1 c2:Bool} {z TI TO i1 i2 l1 l2:Addr} (D:ZipApart z TI TO i1 i2 l1 l2) :
  Turn P w K (.Tuple elts kx px) (Ku K c1 c2 l1 l2) [z,TI,TO,i1,i2] z (LW c1 c2 z TI TO i1 i2 l1 l2) where
 mem:=by simp
 obj:=fun i h st b hb=>by
  simp only [List.mem_cons,List.not_mem_nil,or_false] at hb
  rcases hb with rfl | rfl | rfl | rfl | rfl
  ·exact ⟨_,st.hz,fun v q=>nomatch (show Data.fields _=Data.cell v from q)⟩
  ·exact ⟨_,st.hI,fun v q=>nomatch (show Data.seq _ _=Data.cell v from q)⟩
  ·obtain ⟨a,b,e⟩:=st.hO
   exact ⟨_,e,fun v q=>nomatch (show Data.seq _ _=Data.cell v from q)⟩
  ·exact st.h1.obj
  ·exact st.h2.obj
 keep:=fun i h h' st k=>by
  obtain ⟨a,b,e⟩:=st.hO
  exact ⟨k z (by simp) _ st.hz,k TI (by simp) _ st.hI,⟨a,b,k TO (by simp) _ e⟩,st.h1.ext fun o e=>k i1 (by simp) o e,st.h2.ext fun o e=>k i2 (by simp) o e⟩
 item:=fun X hP hw hK hc i pins s σ H E I hf st hg=>by
  subst hP hw hK
  obtain ⟨xs,ys,x,y,q1,q2,g1,g2⟩:=hg
  obtain ⟨its,r1,p1⟩:=mB I q1
  obtain ⟨jts,r2,p2⟩:=mB I q2
  obtain ⟨u,e1,ru⟩:=r1.get g1
  obtain ⟨v,e2,rv⟩:=r2.get g2
  obtain ⟨a,b,hO⟩:=st.hO
  refine ue D st.hz st.hI hO st.h1 st.h2 p1 p2 (x:=u) (y:=v) (by simpa using e1) (by simpa using e2) fun h' a1 a2 a3 a4 a5 a6=>⟨_,rfl,?_⟩
  refine wpAny_letOwnedTupleGo_zip (s:={ s with heap:=h' }) a1 fun h2 b1 b2=>?_
  have kp:∀ b o,b ∉ [z,TI,TO,i1,i2] -> s.heap.get? b=some o -> h2.get? b=some o:=fun b o hb e=>by
   simp only [List.mem_cons,List.not_mem_nil,or_false,not_or] at hb
   exact b2.extBut _ _ hb.1 (a6 b o hb.1 hb.2.2.1 hb.2.2.2.1 hb.2.2.2.2 e)
  have lz:z < s.heap.objs.size:=Heap.lt_size st.hz
  have pr:IsPair h2 s.heap.objs.size u v:=b2.extBut _ _ (Nat.ne_of_gt lz) a5
  have fr:H s.heap.objs.size=none:=I.hok.fresh (Nat.le_refl _)
  have hokA:mF X.prog X.w (upd H s.heap.objs.size (.tup [x,y])) h2:=by
   intro c o e
   by_cases hcz:c=s.heap.objs.size
   ·subst hcz
    rw [aN] at e; cases e
    exact ⟨by show 2 ≤ sizeLine; decide,[u,v],.cons ru (.cons rv .nil),_,pr,rfl,_,rfl⟩
   ·rw [aE hcz] at e
    have nf:∀ d o',H d=some o' -> d ∉ [z,TI,TO,i1,i2]:=fun d o' ed hd=>by rw [(hf d hd).1] at ed; cases ed
    have up:∀ d o',H d=some o' -> upd H s.heap.objs.size (.tup [x,y]) d=some o':=fun d o' ed=>by rw [aE (bq ed fr)]; exact ed
    refine (I.hok c o e).stay (fun d v' hd q=>kp d v' ?_ q) (fun d q=>up d _ q) fun d xs q=>up d _ q
    rcases hd with rfl | hd
    ·exact nf _ o e
    ·exact nf d _ hd
  have J:Inv X pins σ (upd H s.heap.objs.size (.tup [x,y])) { s with heap:=h2 }:=by
   have ne:∀ b o,s.heap.get? b=some o -> b ≠ s.heap.objs.size:=fun b o e=>Nat.ne_of_lt (Heap.lt_size e)
   refine I.step (g':=s.gens) (d':=s.drawn) (t':=s.toks) (ch:=[z,TI,TO,i1,i2]) (fun b hb=>?_) (fun b o _ _ hc e _=>kp b o hc e) (fun b o _ _ hc e _=>⟨o.slots,kp b o hc e⟩) (fun b o _ e n=>by rw [aE (ne b o e)]; exact n)
    (fun b o hc e=>⟨o,kp b o hc e⟩) (fun b xs e=>by rw [aE (bq e fr)]; exact e) (fun b o u e=>by rw [aE (bq e fr)]; exact e) (fun b ps e=>⟨#[],by rw [aE (bq e fr),e]; simp⟩) (fun m hm=>?_) hokA I.bare
   ·obtain ⟨_,f1,_,f3,f4,f5⟩:=hf b hb
    exact ⟨f3,f1,f4,f5⟩
   ·obtain ⟨o,es,ep,ho,r⟩:=hm
    exact ⟨o,es,ep,kp _ o (fun q=>(hf _ q).2.1 rfl) ho,r⟩
  refine ⟨.ref s.heap.objs.size,_,J,rfl,⟨_,x,y,rfl,fr,rfl,fun xs' h=>by rw [zu I h q1]; exact g1,fun ys' h=>by rw [zu I h q2]; exact g2⟩,?_,fun b hb=>?_⟩
  ·exact ⟨b1,b2.extBut _ _ D.TIz (a6 _ _ D.TIz D.TITO D.TIi1 D.TIi2 st.hI),⟨_,_,b2.extBut _ _ D.TOz a2⟩,a3.ext fun o e=>b2.extBut _ _ D.i1z e,a4.ext fun o e=>b2.extBut _ _ D.i2z e⟩
  ·obtain ⟨o,e,_⟩:∃ o,s.heap.get? b=some o /\ True:=by
    simp only [List.mem_cons,List.not_mem_nil,or_false] at hb
    rcases hb with rfl | rfl | rfl | rfl | rfl
    ·exact ⟨_,st.hz,trivial⟩
    ·exact ⟨_,st.hI,trivial⟩
    ·exact ⟨_,hO,trivial⟩
    ·obtain ⟨o,e,_⟩:=st.h1.obj; exact ⟨o,e,trivial⟩
    ·obtain ⟨o,e,_⟩:=st.h2.obj; exact ⟨o,e,trivial⟩
   rw [aE (Nat.ne_of_lt (Heap.lt_size e))]
   exact (hf b hb).1
 done:=fun X hP hw hK hc i pins s σ H E I hf st hg=>by
  subst hP hw hK
  obtain ⟨xs,ys,q1,q2,g⟩:=hg
  obtain ⟨its,r1,p1⟩:=mB I q1
  obtain ⟨jts,r2,p2⟩:=mB I q2
  obtain ⟨a,b,hO⟩:=st.hO
  have n1:=r1.length
  have n2:=r2.length
  refine vZ (I.ok.hd hc) D st.hz st.hI hO st.h1 st.h2 p1 p2 ?_ fun h' k=>⟨rfl,xV I hf fun b o hb e=>?_⟩
  ·rcases g with g | g
   ·exact .inl (by simp; omega)
   ·exact .inr (by simp; omega)
  ·simp only [List.mem_cons,List.not_mem_nil,or_false,not_or] at hb
   exact k b o hb.1 hb.2.2.1 hb.2.2.2.1 hb.2.2.2.2 e
 self:=fun _ _ _ _ _ st h=>wpAny_pyIter_zip st.hz h
open PySem PySem.Spec PyProof.Rows L2
def JM:T -> Option (Bool × List T)
 | .lst ts=>some (true,ts)
 | .scr ts=>some (true,ts)
 | .tup ts=>some (false,ts)
 | _=>none
theorem zt {K:PySem.W.Frag} {F:Hp} {t:T} {v:V} {b:Bool} {ts:List T} (r:Rep K F t v) (e:JM t=some (b,ts)):∃ a xs,v=.ref a /\ uk b K F a xs /\ aP K F ts xs:=by
 cases t <;> simp only [JM] at e <;> cases e
 ·exact r
 ·obtain ⟨a,xs,h1,h2,h3⟩:=r
  exact ⟨a,xs,h1,gE.of h2,h3⟩
 ·exact r
theorem uk.same {b:Bool} {K:PySem.W.Frag} {H H':Hp} {a:Addr} {xs:List V} (s:aI H H') (h:uk b K H a xs):uk b K H' a xs:=by
 cases b with
 | true=>exact s.seq h
 | false=>exact bI s h
def iL:List T -> List T -> List T
 | x :: xs,y :: ys=>.tup [x,y] :: iL xs ys
 | _,_=>[]
theorem mQ:∀ (xs ys:List T),(iL xs ys).length=min xs.length ys.length
 | [],_=>by simp [iL]
 | _ :: _,[]=>by simp [iL]
 | x :: xs,y :: ys=>by simp [iL,mQ xs ys]
theorem pH:∀ (xs ys:List T) (i:Nat) (t:T),(iL xs ys)[i]? = some t -> ∃ x y,xs[i]? = some x /\ ys[i]? = some y /\ t=.tup [x,y]
 | [],_,i,t,e=>by simp [iL] at e
 | _ :: _,[],i,t,e=>by simp [iL] at e
 | x :: xs,y :: ys,0,t,e=>by simp [iL] at e; exact ⟨x,y,rfl,rfl,e.symm⟩
 | x :: xs,y :: ys,i + 1,t,e=>by
  obtain ⟨a,b,h1,h2,h3⟩:=pH xs ys i t (by simpa [iL] using e)
  exact ⟨a,b,by simpa using h1,by simpa using h2,h3⟩
theorem AE {K:PySem.W.Frag} {F:Hp} {c1 c2:Bool} {l1 l2:Addr} {xs ys:List V} {ts us:List T} (h1:uk c1 K F l1 xs) (r1:aP K F ts xs) (h2:uk c2 K F l2 ys) (r2:aP K F us ys):Walks K F (iL ts us) (Ku K c1 c2 l1 l2):=by
 refine ⟨fun i t F1 H1 e s1 s2=>?_,fun i t F1 H1 x H2 e s1 s2 y=>?_,fun F1 H1 s1 s2=>⟨xs,ys,h1.same (s1.trans s2),h2.same (s1.trans s2),?_⟩⟩
 ·obtain ⟨a,b,e1,e2,rfl⟩:=pH ts us i t e
  obtain ⟨v,g1,_⟩:=r1.get e1
  obtain ⟨w,g2,_⟩:=r2.get e2
  exact ⟨xs,ys,v,w,h1.same (s1.trans s2),h2.same (s1.trans s2),g1,g2⟩
 ·obtain ⟨p,v,w,rfl,hp,rfl,q1,q2⟩:=y
  obtain ⟨a,b,e1,e2,rfl⟩:=pH ts us i t e
  obtain ⟨v',g1,k1⟩:=r1.get e1
  obtain ⟨w',g2,k2⟩:=r2.get e2
  have m1:=q1 xs (h1.same (s1.trans s2))
  have m2:=q2 ys (h2.same (s1.trans s2))
  rw [g1] at m1; cases m1
  rw [g2] at m2; cases m2
  have gr:=aX.new (.tup [v,w]) s2 hp
  exact ⟨_,gr,p,_,rfl,jP.of aN,v,[w],rfl,Rep.mono (s1.trans gr.sF) k1,w,[],rfl,Rep.mono (s1.trans gr.sF) k2,rfl⟩
 ·rw [mQ,r1.length,r2.length]
  omega
def eX (g:FA):FA:=fun τ=>(g τ).bind fun p=>match p.1 with
 | [a,b]=>(JM a).bind fun x=>(JM b).bind fun y=>some (iL x.2 y.2,p.2)
 | _=>none
theorem mr {X:Cx} {a b:Expr} {p pos:Pos} {ga:FA} {elts:List Expr} {kx:Nat} {px:Pos} (hg:Gl X "zip") (hm:X.mg "zip" = none) (ha:SA X [a,b] ga) (hs:starEach [a,b] X.env=(false,eval a X.env) :: starEach [b] X.env:=by rfl)
  (hs2:(backTo pos (starEach [b] X.env)).any (·.1)=false:=by rfl):SI X (.Tuple elts kx px) (.Call (.Name "zip" p) [a,b] [] pos) (eX ga):=by
 intro F₀ H₀ pins s σ H R I ⟨F,τ,ts,τ',E,e1,q⟩
 obtain ⟨⟨x,τ1⟩,e2,e1⟩:=bind_some e1
 dsimp only at e1
 split at e1
 ·next t u =>
  obtain ⟨⟨c1,us⟩,e3,e1⟩:=bind_some e1
  obtain ⟨⟨c2,ws⟩,e4,e1⟩:=bind_some e1
  cases e1
  refine Call_ (jY I hg hm (show bootBuiltins "zip" = some (.type "zip") from rfl) (PyProof.Rows.callWith_type1 (cI (ha F₀ H₀ pos pins s σ H (fun vs H'=>∃ l1 l2 xs ys,vs=[.ref l1,.ref l2] /\ uk c1 X.K H' l1 xs /\ uk c2 X.K H' l2 ys /\ R (Ku X.K c1 c2 l1 l2) H') I ⟨F,τ,_,_,E,e2,fun F' H' vs E' s' r'=>?_⟩) fun vs s1 ⟨ws',H1,I1,r1,q1⟩=>?_) hs hs2))
  ·obtain ⟨v1,r1,rfl,k1,v2,r2,rfl,k2,rfl⟩:=r'
   obtain ⟨l1,xs,rfl,h1,h2⟩:=zt k1 e3
   obtain ⟨l2,ys,rfl,h3,h4⟩:=zt k2 e4
   exact ⟨l1,l2,xs,ys,rfl,h1.same E'.g.fh,h3.same E'.g.fh,q F' H' _ E' s' (AE h1 h2 h3 h4)⟩
  ·obtain ⟨l1,l2,xs,ys,rfl,h1,h2,q1⟩:=q1
   cases r1 with
   | cons ra rr =>
    cases rr with
    | cons rb rr =>
     cases rr; cases ra; cases rb
     obtain ⟨its,_,p1⟩:=mB I1 h1
     obtain ⟨jts,_,p2⟩:=mB I1 h2
     refine AY p1 p2 fun h' a1 a2 a3 a4 a5 kp=>wpAny_pyIter_zip (s:={ s1 with heap:=h' }) a1 ?_
     have lt:∀ {c:Bool} {l:Addr} {zs:Array Value},ir c s1.heap l zs -> l < s1.heap.objs.size:=fun {c l zs} h=>by
      cases c with
      | true=>obtain ⟨o,e,_⟩:=h; exact Heap.lt_size e
      | false=>obtain ⟨o,e,_⟩:=h; exact Heap.lt_size e
     have n1:@LT.lt Nat _ l1 s1.heap.objs.size:=lt p1
     have n2:@LT.lt Nat _ l2 s1.heap.objs.size:=lt p2
     have J:Inv X pins σ H1 { s1 with heap:=h' }:=I1.kept (t':=s1.toks) kp
     refine ⟨_,[_,_,_,_,_],_,_,H1,rfl,J,CS (c1:=c1) (c2:=c2) (z:=s1.heap.objs.size + 4) (TI:=s1.heap.objs.size + 2) (TO:=s1.heap.objs.size + 3) (i1:=s1.heap.objs.size) (i2:=s1.heap.objs.size + 1) (l1:=l1) (l2:=l2) ?_,⟨a1,a2,⟨_,_,a3⟩,a4,a5⟩,fun b hb=>?_,q1⟩
     ·constructor <;> (refine (?_:@Ne Nat _ _); omega)
     ·have hb':s1.heap.objs.size ≤ b:=by
       simp only [List.mem_cons,List.not_mem_nil,or_false] at hb
       rcases hb with rfl | rfl | rfl | rfl | rfl <;> omega
      exact I1.fpOk hb' (I1.hok.fresh hb')
 ·cases e1
open PySem PySem.Spec PyProof.Rows L2
theorem uW:bp [.non,.ty "int"]=some (.bl false):=rfl
theorem rY:bp [.non,.ty "bool"]=some (.bl false):=rfl
theorem uX:bp [.non,.ty "str"]=some (.bl false):=rfl
theorem sj:bp [.non,.ty "list"]=some (.bl false):=rfl
theorem pT:bp [.non,.ty "tuple"]=some (.bl false):=rfl
theorem rZ:bp [.non,.ty "dict"]=some (.bl false):=rfl
theorem xa:bp [.non,.tup [.ty "list", .ty "tuple"]]=some (.bl false):=rfl
theorem wW {b:Bool}:bp [(.bl b),.ty "int"]=some (.bl true):=rfl
theorem uN {b:Bool}:bp [(.bl b),.ty "bool"]=some (.bl true):=rfl
theorem wX {b:Bool}:bp [(.bl b),.ty "str"]=some (.bl false):=rfl
theorem uP {b:Bool}:bp [(.bl b),.ty "list"]=some (.bl false):=rfl
theorem rN {b:Bool}:bp [(.bl b),.ty "tuple"]=some (.bl false):=rfl
theorem uO {b:Bool}:bp [(.bl b),.ty "dict"]=some (.bl false):=rfl
theorem Ad {b:Bool}:bp [(.bl b),.tup [.ty "list", .ty "tuple"]]=some (.bl false):=rfl
theorem uS {i:Int}:bp [(.int i),.ty "int"]=some (.bl true):=rfl
theorem rR {i:Int}:bp [(.int i),.ty "bool"]=some (.bl false):=rfl
theorem uT {i:Int}:bp [(.int i),.ty "str"]=some (.bl false):=rfl
theorem rT {i:Int}:bp [(.int i),.ty "list"]=some (.bl false):=rfl
theorem pR {i:Int}:bp [(.int i),.ty "tuple"]=some (.bl false):=rfl
theorem rS {i:Int}:bp [(.int i),.ty "dict"]=some (.bl false):=rfl
theorem wZ {i:Int}:bp [(.int i),.tup [.ty "list", .ty "tuple"]]=some (.bl false):=rfl
theorem va {x:Str}:bp [(.str x),.ty "int"]=some (.bl false):=rfl
theorem su {x:Str}:bp [(.str x),.ty "bool"]=some (.bl false):=rfl
theorem vc {x:Str}:bp [(.str x),.ty "str"]=some (.bl true):=rfl
theorem sx {x:Str}:bp [(.str x),.ty "list"]=some (.bl false):=rfl
theorem pV {x:Str}:bp [(.str x),.ty "tuple"]=some (.bl false):=rfl
theorem sv {x:Str}:bp [(.str x),.ty "dict"]=some (.bl false):=rfl
theorem xf {x:Str}:bp [(.str x),.tup [.ty "list", .ty "tuple"]]=some (.bl false):=rfl
theorem vd {ts:List T}:bp [(.tup ts),.ty "int"]=some (.bl false):=rfl
theorem sA {ts:List T}:bp [(.tup ts),.ty "bool"]=some (.bl false):=rfl
theorem ve {ts:List T}:bp [(.tup ts),.ty "str"]=some (.bl false):=rfl
theorem sD {ts:List T}:bp [(.tup ts),.ty "list"]=some (.bl false):=rfl
theorem pW {ts:List T}:bp [(.tup ts),.ty "tuple"]=some (.bl true):=rfl
theorem sC {ts:List T}:bp [(.tup ts),.ty "dict"]=some (.bl false):=rfl
theorem xg {ts:List T}:bp [(.tup ts),.tup [.ty "list", .ty "tuple"]]=some (.bl true):=rfl
theorem uU {ts:List T}:bp [(.lst ts),.ty "int"]=some (.bl false):=rfl
theorem rV {ts:List T}:bp [(.lst ts),.ty "bool"]=some (.bl false):=rfl
theorem uV {ts:List T}:bp [(.lst ts),.ty "str"]=some (.bl false):=rfl
theorem rX {ts:List T}:bp [(.lst ts),.ty "list"]=some (.bl true):=rfl
theorem pS {ts:List T}:bp [(.lst ts),.ty "tuple"]=some (.bl false):=rfl
theorem rW {ts:List T}:bp [(.lst ts),.ty "dict"]=some (.bl false):=rfl
theorem w6 {ts:List T}:bp [(.lst ts),.tup [.ty "list", .ty "tuple"]]=some (.bl true):=rfl
theorem uY {ts:List T}:bp [(.scr ts),.ty "int"]=some (.bl false):=rfl
theorem sk {ts:List T}:bp [(.scr ts),.ty "bool"]=some (.bl false):=rfl
theorem uZ {ts:List T}:bp [(.scr ts),.ty "str"]=some (.bl false):=rfl
theorem sr {ts:List T}:bp [(.scr ts),.ty "list"]=some (.bl true):=rfl
theorem pU {ts:List T}:bp [(.scr ts),.ty "tuple"]=some (.bl false):=rfl
theorem so {ts:List T}:bp [(.scr ts),.ty "dict"]=some (.bl false):=rfl
theorem xb {ts:List T}:bp [(.scr ts),.tup [.ty "list", .ty "tuple"]]=some (.bl true):=rfl
theorem uQ:bp [.dic,.ty "int"]=some (.bl false):=rfl
theorem rO:bp [.dic,.ty "bool"]=some (.bl false):=rfl
theorem uR:bp [.dic,.ty "str"]=some (.bl false):=rfl
theorem rQ:bp [.dic,.ty "list"]=some (.bl false):=rfl
theorem pQ:bp [.dic,.ty "tuple"]=some (.bl false):=rfl
theorem rP:bp [.dic,.ty "dict"]=some (.bl true):=rfl
theorem wY:bp [.dic,.tup [.ty "list", .ty "tuple"]]=some (.bl false):=rfl
theorem nv (i j:Int):kH (.int i) (.int j)=some (.bl (decide (i=j))):=by
 show some (T.bl (i == j))=_
 rw [Bool.beq_eq_decide_eq]
theorem Dy (i j:Int):lW (.int i) (.int j)=some (.bl (!decide (i=j))):=by
 show some (T.bl (!(i == j)))=_
 rw [Bool.beq_eq_decide_eq]
theorem Gy (i j:Bool):kH (.bl i) (.bl j)=some (.bl (i == j)):=rfl
theorem GA (i j:Bool):lW (.bl i) (.bl j)=some (.bl (!(i == j))):=rfl
theorem zG (i j:Int):ya i j ↔ (¬ j=0 /\ j.natAbs < B):=Iff.rfl
theorem zH (i j:Int):yb i j ↔ (i.natAbs < B /\ j.natAbs < B):=Iff.rfl
theorem C5 (i j:Int):J3 i j ↔ ¬ j=0:=Iff.rfl
theorem bR {n:Nat} (h:n ≤ 1000):n ≤ sizeLine:=Nat.le_of_lt (dR h)
theorem LH:(0:Nat) ≤ sizeLine:=bR (by decide)
theorem KS:(1:Nat) ≤ sizeLine:=bR (by decide)
theorem KW:(2:Nat) ≤ sizeLine:=bR (by decide)
theorem L8:(3:Nat) ≤ sizeLine:=bR (by decide)
theorem KZ:(4:Nat) ≤ sizeLine:=bR (by decide)
theorem Bv {x y:T}:bB (.tup [x,y]) (.int 0)=some x:=rfl
theorem Bx {x y:T}:bB (.tup [x,y]) (.int 1)=some y:=rfl
theorem Bt {x y:T}:bB (.lst [x,y]) (.int 0)=some x:=rfl
theorem Bu {x y:T}:bB (.lst [x,y]) (.int 1)=some y:=rfl
theorem A3 (a:Int):uz [.int a]=some (.int (a.natAbs:Int)):=by
 have e:(if a < 0 then -a else a)=(a.natAbs:Int):=by split <;> omega
 simp only [uz,e]
theorem Ir:(2 ^ 64:Nat) < B:=by decide +kernel
theorem rH {x:Str} (h:SeqAt.shaped (.str x)=true):kH (.str x) (.str x)=some (.bl true):=by
 show zV false (.str x) (.str x)=_
 simp [zV,C4,h,PyData.eqv]
open PySem PySem.Spec PyProof.Rows L2
theorem fI (a:Int) {b:Int} (h:0 < b):0 ≤ a.fmod b /\ a.fmod b < b:=⟨Int.fmod_nonneg_of_pos _ h,Int.fmod_lt_of_pos _ h⟩
theorem Fu {n:Nat} (h:n < 2 ^ 64):((n:Int)).natAbs < B:=by have:=Ir; omega
def intsOf:List T -> Option (List Int)
 | []=>some []
 | .int i :: ts=>(intsOf ts).bind fun ns=>some (i :: ns)
 | _ :: _=>none
theorem jX:∀ ns:List Int,intsOf (ns.map T.int)=some ns
 | []=>rfl
 | n :: ns=>by simp [intsOf,jX ns]
theorem jW:∀ {ts:List T} {ns:List Int},intsOf ts=some ns -> ts=ns.map T.int
 | [],ns,h=>by cases h; rfl
 | .int i :: ts,ns,h=>by
  obtain ⟨ms,e,h⟩:=bind_some h
  cases h
  rw [jW e]; rfl
 | .non :: _,_,h=>by cases h
 | .bl _ :: _,_,h=>by cases h
 | .str _ :: _,_,h=>by cases h
 | .ty _ :: _,_,h=>by cases h
 | .tup _ :: _,_,h=>by cases h
 | .lst _ :: _,_,h=>by cases h
 | .scr _ :: _,_,h=>by cases h
 | .dic :: _,_,h=>by cases h
 | .obj _ _ _ :: _,_,h=>by cases h
 | .ptr _ :: _,_,h=>by cases h
 | .exc _ :: _,_,h=>by cases h
theorem DK {ns:List Int} {k:Int} (h0:0 ≤ k) (h1:k < (ns.length:Int)):bB (.scr (ns.map T.int)) (.int k)=some (.int (ns.getD k.toNat 0)):=by
 show ng (ns.map T.int) k=_
 obtain ⟨j,rfl⟩:=Int.eq_ofNat_of_zero_le h0
 have hk:j < ns.length:=by omega
 refine qV ?_
 rw [List.getElem?_map,List.getElem?_eq_getElem hk]
 simp [List.getD,List.getElem?_eq_getElem hk]
open PySem PySem.Spec PyProof.Rows L2
def lQ (env:Env):List (Str × NameKind) -> List (Str × Addr) -> List (Str × Addr)
 | [],acc=>acc
 | (x,k) :: r,acc=>if k == .free then lQ env r ((x,(env.cells.lookup x).getD 0) :: acc) else lQ env r acc
theorem mG {env:Env} (f:Str × NameKind -> List (Str × Addr) -> Sem (ForInStep (List (Str × Addr)))) (hf:∀ x k cs,f (x,k) cs=if k == .free then (do let a <- cellOf env x; pure (.yield ((x,a) :: cs))) else pure (.yield cs)) :
  ∀ (names:List (Str × NameKind)) (acc:List (Str × Addr)),(∀ y ∈ names,y.2=.free -> ∃ c,env.cells.lookup y.1=some c) -> forIn names acc f=pure (lQ env names acc)
 | [],acc,_=>by rw [List.forIn_nil]; rfl
 | (x,k) :: r,acc,hy=>by
  rw [List.forIn_cons,hf]
  have ih:=mG f hf r
  have hr:∀ y ∈ r,y.2=.free -> ∃ c,env.cells.lookup y.1=some c:=fun z hz=>hy z (List.mem_cons_of_mem _ hz)
  cases hk:(k == NameKind.free) with
  | true =>
   obtain ⟨c,hc⟩:=hy (x,k) List.mem_cons_self (beq_iff_eq.mp hk)
   dsimp only at hc
   simp only [if_true,lQ,hc,cellOf,pure_bind,Option.getD_some,hk]
   exact ih _ hr
  | false =>
   simp only [Bool.false_eq_true,if_false,lQ,pure_bind,hk]
   exact ih _ hr
theorem jS {env:Env} {scope:Scope} (h:∀ y ∈ scope.names,y.2=.free -> ∃ c,env.cells.lookup y.1=some c):closureFor scope env=pure (lQ env scope.names []):=by
 simp only [closureFor]
 rw [mG (env:=env) _ (fun x k cs=>by cases hk:k == NameKind.free <;> simp [hk]) scope.names [] h]
 rfl
theorem rf {env:Env}:∀ (names:List (Str × NameKind)) (acc:List (Str × Addr)) (x:Str) (c:Addr),(∀ y ∈ names,y.2=.free -> ∃ c,env.cells.lookup y.1=some c) -> (x,c) ∈ lQ env names acc -> (x,c) ∈ acc \/ (env.cells.lookup x=some c /\ (x,NameKind.free) ∈ names)
 | [],acc,x,c,_,h=>.inl h
 | (y,k) :: r,acc,x,c,hy,h=>by
  unfold lQ at h
  have hr:∀ z ∈ r,z.2=.free -> ∃ c,env.cells.lookup z.1=some c:=fun z hz=>hy z (List.mem_cons_of_mem _ hz)
  cases hk:(k == NameKind.free) with
  | true =>
   rw [if_pos hk] at h
   rcases rf r _ x c hr h with h | h
   ·rcases List.mem_cons.mp h with h | h
    ·cases h
     obtain ⟨c,hc⟩:=hy (y,k) List.mem_cons_self (beq_iff_eq.mp hk)
     dsimp only at hc
     refine .inr ⟨by rw [hc]; rfl,?_⟩
     rw [beq_iff_eq.mp hk]
     exact List.mem_cons_self
    ·exact .inl h
   ·exact .inr ⟨h.1,List.mem_cons_of_mem _ h.2⟩
  | false =>
   rw [if_neg (by rw [hk]; decide)] at h
   rcases rf r _ x c hr h with h | h
   ·exact .inl h
   ·exact .inr ⟨h.1,List.mem_cons_of_mem _ h.2⟩
theorem dM:∀ {l:List (Str × Addr)} {x:Str} {c:Addr},(x,c) ∈ l -> ∃ d,l.lookup x=some d
 | (y,d) :: r,x,c,h=>by
  rw [List.lookup_cons]
  cases hb:x == y with
  | true=>exact ⟨d,rfl⟩
  | false =>
   rcases List.mem_cons.mp h with h | h
   ·cases h; simp at hb
   ·exact dM h
theorem nh {env:Env}:∀ (names:List (Str × NameKind)) (acc:List (Str × Addr)) (x:Str),((x,NameKind.free) ∈ names \/ ∃ c,(x,c) ∈ acc) -> ∃ c,(x,c) ∈ lQ env names acc
 | [],acc,x,h=>by
  rcases h with h | h
  ·cases h
  ·exact h
 | (y,k) :: r,acc,x,h=>by
  unfold lQ
  cases hk:(k == NameKind.free) with
  | true =>
   rw [if_pos rfl]
   refine nh r _ x ?_
   rcases h with h | ⟨c,h⟩
   ·rcases List.mem_cons.mp h with h | h
    ·cases h; exact .inr ⟨_,List.mem_cons_self⟩
    ·exact .inl h
   ·exact .inr ⟨c,List.mem_cons_of_mem _ h⟩
  | false =>
   rw [if_neg (by decide)]
   refine nh r _ x ?_
   rcases h with h | h
   ·rcases List.mem_cons.mp h with h | h
    ·cases h; cases hk
    ·exact .inl h
   ·exact .inr h
theorem wz:∀ (names:List (Str × NameKind)) (n:Nat) (acc:List (Str × Addr)) (x:Str) (c:Addr),(x,c) ∈ cellsFrom n names acc -> (x,c) ∈ acc \/ (n ≤ c /\ (x,NameKind.cell) ∈ names)
 | [],n,acc,x,c,h=>.inl h
 | (y,k) :: r,n,acc,x,c,h=>by
  unfold cellsFrom at h
  cases hk:(k == NameKind.cell) with
  | true =>
   rw [if_pos hk] at h
   rcases wz r _ _ x c h with h | ⟨h1,h2⟩
   ·rcases List.mem_cons.mp h with h | h
    ·cases h
     refine .inr ⟨Nat.le_refl _,?_⟩
     rw [beq_iff_eq.mp hk]
     exact List.mem_cons_self
    ·exact .inl h
   ·exact .inr ⟨Nat.le_of_succ_le h1,List.mem_cons_of_mem _ h2⟩
  | false =>
   rw [if_neg (by rw [hk]; decide)] at h
   rcases wz r _ _ x c h with h | ⟨h1,h2⟩
   ·exact .inl h
   ·exact .inr ⟨h1,List.mem_cons_of_mem _ h2⟩
theorem wy:∀ (names:List (Str × NameKind)) (n:Nat) (acc:List (Str × Addr)),(∀ x y c,(x,c) ∈ acc -> (y,c) ∈ acc -> x=y) -> (∀ x c,(x,c) ∈ acc -> @LT.lt Nat _ c n) -> ∀ x y c,(x,c) ∈ cellsFrom n names acc -> (y,c) ∈ cellsFrom n names acc -> x=y
 | [],n,acc,h1,_,x,y,c,h,h'=>h1 x y c h h'
 | (z,k) :: r,n,acc,h1,h2,x,y,c,h,h'=>by
  unfold cellsFrom at h h'
  cases hk:(k == NameKind.cell) with
  | true =>
   rw [if_pos hk] at h h'
   refine wy r (n + 1) _ (fun a b d ha hb=>?_) (fun a d ha=>?_) x y c h h'
   ·rcases List.mem_cons.mp ha with ha | ha <;> rcases List.mem_cons.mp hb with hb | hb
    ·cases ha; cases hb; rfl
    ·cases ha; exact absurd (h2 _ _ hb) (Nat.lt_irrefl _)
    ·cases hb; exact absurd (h2 _ _ ha) (Nat.lt_irrefl _)
    ·exact h1 a b d ha hb
   ·rcases List.mem_cons.mp ha with ha | ha
    ·cases ha; exact Nat.lt_succ_self _
    ·exact Nat.lt_succ_of_lt (h2 _ _ ha)
  | false =>
   rw [if_neg (by rw [hk]; decide)] at h h'
   exact wy r n acc h1 h2 x y c h h'
theorem n9:∀ (names:List (Str × NameKind)) (n:Nat) (acc:List (Str × Addr)) (x:Str),((x,NameKind.cell) ∈ names \/ ∃ c,(x,c) ∈ acc) -> ∃ c,(x,c) ∈ cellsFrom n names acc
 | [],n,acc,x,h=>by
  rcases h with h | h
  ·cases h
  ·exact h
 | (y,k) :: r,n,acc,x,h=>by
  unfold cellsFrom
  cases hk:(k == NameKind.cell) with
  | true =>
   rw [if_pos rfl]
   refine n9 r _ _ x ?_
   rcases h with h | ⟨c,h⟩
   ·rcases List.mem_cons.mp h with h | h
    ·cases h; exact .inr ⟨_,List.mem_cons_self⟩
    ·exact .inl h
   ·exact .inr ⟨c,List.mem_cons_of_mem _ h⟩
  | false =>
   rw [if_neg (by decide)]
   refine n9 r _ _ x ?_
   rcases h with h | h
   ·rcases List.mem_cons.mp h with h | h
    ·cases h; cases hk
    ·exact .inl h
   ·exact .inr h
theorem rd:∀ (names:List (Str × NameKind)) (h:Heap) (acc:List (Str × Addr)) (x:Str) (c:Addr),(x,c) ∈ cellsFrom h.objs.size names acc -> (x,c) ∈ acc \/ (pushCells h names).IsCell c none
 | [],h,acc,x,c,m=>.inl m
 | (y,k) :: r,h,acc,x,c,m=>by
  unfold cellsFrom at m
  unfold pushCells
  cases hk:(k == NameKind.cell) with
  | true =>
   rw [if_pos hk] at m
   rw [if_pos rfl]
   have m':(x,c) ∈ cellsFrom (h.push { cls:=.type "cell", data:=.cell none }).objs.size r ((y,h.objs.size) :: acc):=by rw [Heap.size_push]; exact m
   rcases rd r _ _ x c m' with m | m
   ·rcases List.mem_cons.mp m with m | m
    ·cases m
     refine .inr ?_
     have q:(h.push { cls:=.type "cell", data:=.cell none }).IsCell h.objs.size none:=⟨_,Heap.get?_push_size _ rfl,rfl⟩
     exact q.keeps fun b o e=>pushCells_keeps r _ b o e
    ·exact .inl m
   ·exact .inr m
  | false =>
   rw [if_neg (by rw [hk]; decide)] at m
   rw [if_neg (by decide)]
   exact rd r h acc x c m
open PySem PySem.Spec PyProof.Rows L2
def gT (X:Cx) (scope:Scope) (C:Addr) (cs:List (Str × Addr)):Env:=
 { newEnv scope C X.env.globals cs X.env.qual none .none (some X.env) builtinsNs with scope:=relabel scope X.env }
def qX (X:Cx) (scope:Scope) (N':List Str) (C:Addr) (cs:List (Str × Addr)) (s₀:Shared) (H₀:Hp) (fp:List Addr) (pins:List (Addr × Obj)):Cx:=
 { X with N:=N',s₀:=s₀,H₀:=H₀,env:=gT X scope C cs,outer:=X.stack,stack:=X.stack,ex:=fp,fn:=fun x=>scope.names.lookup x == some .cell,pn:=X.pn ++ pins,xe:=fun _ _=>False }
structure gi (X:Cx) (scope:Scope):Prop where
 kind:scope.kind=.function
 names:∀ y ∈ scope.names,y.2=.local -> scope.names.lookup y.1=some .local
 free:∀ y ∈ scope.names,y.2=.free -> (X.env.kindOf y.1=some .cell \/ X.env.kindOf y.1=some .free) /\ (y.1,NameKind.cell) ∉ scope.names /\ scope.names.lookup y.1=some .free
theorem mem_of_lookupK:∀ {l:List (Str × NameKind)} {x:Str} {k:NameKind},l.lookup x=some k -> (x,k) ∈ l
 | (y,d) :: r,x,k,h=>by
  rw [List.lookup_cons] at h
  cases hb:x == y with
  | true=>rw [hb] at h; cases h; rw [beq_iff_eq.mp hb]; exact List.mem_cons_self
  | false=>rw [hb] at h; exact List.mem_cons_of_mem _ (mem_of_lookupK h)
theorem fU {env:Env}:∀ {names:List (Str × NameKind)} {x:Str},names.lookup x=some .free ->
    ((names.map fun (n,k)=>if (k == NameKind.free && env.scope.kind == .function && env.kindOf n == some .cell) then (n,NameKind.cell) else (n,k)).lookup x=some .cell \/
     (names.map fun (n,k)=>if (k == NameKind.free && env.scope.kind == .function && env.kindOf n == some .cell) then (n,NameKind.cell) else (n,k)).lookup x=some .free)
  | (n,k) :: r,x,h=>by
    rw [List.lookup_cons] at h
    have en:∀ y:Str × NameKind,y=(if (k == NameKind.free && env.scope.kind == .function && env.kindOf n == some .cell)=true then (n,NameKind.cell) else (n,k)) -> y.1=n /\ (y.2=.cell \/ y.2=k):=fun y e=>by
      subst e
      split
      · exact ⟨rfl,.inl rfl⟩
      · exact ⟨rfl,.inr rfl⟩
    rw [List.map_cons]
    dsimp only
    generalize hy:(if (k == NameKind.free && env.scope.kind == .function && env.kindOf n == some .cell)=true then (n,NameKind.cell) else (n,k))=y
    obtain ⟨e1,e2⟩:=en y hy.symm
    obtain ⟨a,b⟩:=y
    dsimp only at e1 e2
    subst e1
    rw [List.lookup_cons]
    cases hb:x == a with
    | true =>
      rw [hb] at h
      cases h
      rcases e2 with rfl | rfl
      · exact .inl rfl
      · exact .inr rfl
    | false =>
      rw [hb] at h
      exact fU h
theorem vI {X:Cx} {scope:Scope} {x:Str} (h:(gT X scope C cs).kindOf x=some .cell \/ (gT X scope C cs).kindOf x=some .free):(x,NameKind.cell) ∈ scope.names \/ (x,NameKind.free) ∈ scope.names:=by
 have key:∀ k,(gT X scope C cs).kindOf x=some k -> (k=.cell \/ k=.free) -> (x,NameKind.cell) ∈ scope.names \/ (x,NameKind.free) ∈ scope.names:=fun k h hk=>by
  have m:=mem_of_lookupK (show (relabel scope X.env).names.lookup x=some k from h)
  unfold relabel at m
  obtain ⟨⟨y,j⟩,m1,m2⟩:=List.mem_map.mp m
  dsimp only at m2
  split at m2
  ·next hc =>
   cases m2
   simp only [Bool.and_eq_true,beq_iff_eq] at hc
   rw [hc.1.1] at m1
   exact .inr m1
  ·cases m2
   rcases hk with rfl | rfl
   ·exact .inl m1
   ·exact .inr m1
 rcases h with h | h
 ·exact key _ h (.inl rfl)
 ·exact key _ h (.inr rfl)
section
variable {X:Cx} {pins:List (Addr × Obj)} {σ:L2.St} {H:Hp} {s:Shared} {scope:Scope} {fp:List Addr} {N':List Str} {σ':L2.St}
abbrev jK:Obj:={ cls:=.type "list", dict:=none,data:=.seq ([]:List Value).toArray }
abbrev uE:Obj:={ cls:=.type "dict", data:=.dict #[] }
def h0 (h:Heap) (scope:Scope):Heap:=pushCells ((h.push jK).push uE) scope.names
theorem fY {h:Heap} {b:Addr} {o:Obj} (e:h.get? b=some o):(h0 h scope).get? b=some o:=pushCells_keeps _ _ _ _ (Heap.get?_push_of_some _ (Heap.get?_push_of_some _ e))
theorem GB (h:Heap):(h0 h scope).get? h.objs.size=some jK:=pushCells_keeps _ _ _ _ (Heap.get?_push_of_some _ (Heap.get?_push_size _ rfl))
theorem ql (I:Inv X pins σ H s) (B:gi X scope) (hf:∀ b ∈ fp,pJ X pins H b) (ho:∀ b ∈ fp,∃ o,s.heap.get? b=some o) (hl:σ'.length=N'.length)
  (cap:∀ (i:Nat) (x:Str) (v:V),N'[i]? = some x -> σ'[i]? = some (some v) -> ((x,NameKind.free) ∈ scope.names /\ ∃ j:Nat,X.N[j]? = some x /\ σ[j]? = some (some v)) \/ ¬ HM (relabel scope X.env) x) {tk:Nat} :
  Inv (qX X scope N' (s.heap.objs.size + 1) (cellsFrom (s.heap.objs.size + 2) scope.names (lQ X.env scope.names [])) s H fp pins) [] σ' (upd H s.heap.objs.size (.lst [])) { s with heap:=h0 s.heap scope,toks:=tk }:=by
 have hz1:(s.heap.push jK).objs.size=s.heap.objs.size + 1:=Heap.size_push ..
 have hz2:((s.heap.push jK).push uE).objs.size=s.heap.objs.size + 2:=by rw [Heap.size_push,hz1]
 have hfree:∀ y ∈ scope.names,y.2=.free -> ∃ c,X.env.cells.lookup y.1=some c:=fun y hy hk=>I.ok.has y.1 (B.free y hy hk).1
 have clm:∀ x c,(x,c) ∈ lQ X.env scope.names [] -> X.env.cells.lookup x=some c /\ (x,NameKind.free) ∈ scope.names:=fun x c h=>by
  rcases rf _ _ x c hfree h with h | h
  ·cases h
  ·exact h
 have cl_lt:∀ x c,(x,c) ∈ lQ X.env scope.names [] -> @LT.lt Nat _ c s.heap.objs.size:=fun x c h=>by
  obtain ⟨v,q⟩:=I.cell x c (clm x c h).1
  exact q.lt
 have csm:∀ x c,(x,c) ∈ cellsFrom (s.heap.objs.size + 2) scope.names (lQ X.env scope.names []) -> (X.env.cells.lookup x=some c /\ (x,NameKind.free) ∈ scope.names /\ @LT.lt Nat _ c s.heap.objs.size) \/ (@LE.le Nat _ (s.heap.objs.size + 2) c /\ (x,NameKind.cell) ∈ scope.names):=fun x c h=>by
  rcases wz _ _ _ x c h with h | h
  ·exact .inl ⟨(clm x c h).1,(clm x c h).2,cl_lt x c h⟩
  ·exact .inr h
 have hD:H s.heap.objs.size=none:=I.fresh
 have up:∀ b:Addr,@LT.lt Nat _ b s.heap.objs.size -> upd H s.heap.objs.size (.lst []) b=H b:=fun b hb=>aE (Nat.ne_of_lt hb)
 have upF:∀ b:Addr,@LT.lt Nat _ s.heap.objs.size b -> upd H s.heap.objs.size (.lst []) b=none:=fun b hb=>by rw [aE (Nat.ne_of_gt hb)]; exact I.hok.fresh (Nat.le_of_lt hb)
 have flt:∀ b ∈ fp,@LT.lt Nat _ b s.heap.objs.size:=fun b hb=>by obtain ⟨o,e⟩:=ho b hb; exact Heap.lt_size e
 refine ⟨⟨I.ok.mod,B.kind,I.ok.glob,I.ok.blt,Nat.le_succ _,fun x y c h1 h2=>?_,fun x hx=>?_,fun x c hx h=>?_,I.ok.hd,I.ok.frames,.inl rfl,fun b hb=>⟨?_,fun x c h=>?_⟩,I.bs,Nat.le_trans I.ok.bsz I.sz,fun b o e hb=>?_,fun b hb z=>?_,I.stack,I.stkFree⟩,
  rfl,I.bare,?_,⟨fun _=>none,?_,fun i x v e1 e2 e3=>?_⟩,fun x c h=>?_,upF _ (Nat.lt_succ_self _),fun x c h=>?_,fun p hp=>?_,?_,hl⟩
 ·exact wy _ _ _ (fun a b d ha hb=>I.ok.inj a b d (clm a d ha).1 (clm b d hb).1) (fun a d ha=>Nat.lt_of_lt_of_le (cl_lt a d ha) (Nat.le_add_right _ 2)) x y c (PySem.mem_of_lookup h1) (PySem.mem_of_lookup h2)
 ·have hm:∃ c,(x,c) ∈ cellsFrom (s.heap.objs.size + 2) scope.names (lQ X.env scope.names []):=by
   rcases vI hx with h | h
   ·exact n9 _ _ _ x (.inl h)
   ·exact n9 _ _ _ x (.inr (nh _ _ x (.inl h)))
  obtain ⟨c,hm⟩:=hm
  exact dM hm
 ·have hx':scope.names.lookup x=some .cell:=beq_iff_eq.mp hx
  rcases csm x c (PySem.mem_of_lookup h) with ⟨_,h2,_⟩ | ⟨h1,_⟩
  ·exact absurd (mem_of_lookupK hx') (B.free _ h2 rfl).2.1
  ·exact Nat.le_trans (Nat.le_add_right _ 2) h1
 ·exact Nat.ne_of_lt (Nat.lt_succ_of_lt (flt b hb))
 ·rcases csm x c (PySem.mem_of_lookup h) with ⟨h1,_,_⟩ | ⟨h1,_⟩
  ·exact (hf b hb).2.2.2.2.1 x c h1
  ·exact Nat.ne_of_gt (Nat.lt_of_lt_of_le (flt b hb) (Nat.le_trans (Nat.le_add_right _ 2) h1))
 ·rcases (hf b hb).2.2.2.1 with z | z
  ·exact I.ok.noex b o e z
  ·exact absurd (Nat.lt_of_lt_of_le (Heap.lt_size e) (Nat.le_trans I.ok.bsz z)) (Nat.lt_irrefl _)
 ·rcases List.mem_cons.mp (I.stkSub b z) with z | z
  ·exact (hf b hb).2.1 z
  ·exact (hf b hb).2.2.1 z
 ·exact Un.laid (fun b o e=>fY e) (Nat.le_refl _) hD
 ·have q:=Heap.Ns.new (s.heap.push jK) (.type "dict")
  rw [hz1] at q
  exact q.keeps fun b o e=>pushCells_keeps _ _ b o e
 ·rcases cap i x v e1 e2 with ⟨hx,j,hj,hv⟩ | hn
  ·obtain ⟨m,hm,hlk⟩:=I.loc
   have hk:=(B.free _ hx rfl).1
   have vis:HM X.env.scope x:=by
    rcases hk with hk | hk
    ·exact .inr (.inl hk)
    ·exact .inr (.inr hk)
   obtain ⟨u,r,l⟩:=hlk j x v hj hv vis
   refine ⟨u,r,.inr ?_⟩
   rcases l with ⟨z,_⟩ | ⟨_,c,hc,hcell⟩
   ·rcases hk with hk | hk <;> (rw [show X.env.kindOf x=X.env.scope.names.lookup x from rfl] at hk z; rw [hk] at z; cases z)
   ·obtain ⟨c',hc'⟩:=dM (Classical.choose_spec (n9 scope.names (s.heap.objs.size + 2) (lQ X.env scope.names []) x (.inr (nh _ _ x (.inl hx)))))
    have ec:c'=c:=by
     rcases csm x c' (PySem.mem_of_lookup hc') with ⟨h1,_,_⟩ | ⟨_,h2⟩
     ·rw [hc] at h1; exact (Option.some.inj h1).symm
     ·exact absurd h2 (B.free _ hx rfl).2.1
    subst ec
    refine ⟨?_,c',hc',hcell.keeps fun b o e=>fY e⟩
    rcases e3 with e3 | e3 | e3
    ·rcases fU (env:=X.env) (B.free _ hx rfl).2.2 with q | q
     ·exact .inl q
     ·exact .inr q
    ·exact .inl e3
    ·exact .inr e3
  ·exact absurd e3 hn
 ·rcases rd scope.names ((s.heap.push jK).push uE) (lQ X.env scope.names []) x c (by rw [hz2]; exact PySem.mem_of_lookup h) with m | m
  ·obtain ⟨v,q⟩:=I.cell x c (clm x c m).1
   exact ⟨v,q.keeps fun b o e=>fY e⟩
  ·exact ⟨none,m⟩
 ·rcases csm x c (PySem.mem_of_lookup h) with ⟨h1,_,h3⟩ | ⟨h1,_⟩
  ·rw [up c h3]; exact I.freeC x c h1
  ·exact upF c (Nat.lt_of_lt_of_le (Nat.lt_add_of_pos_right (by decide)) h1)
 ·have hp':p ∈ X.pn ++ pins:=by simpa [qX] using hp
  obtain ⟨e,n,ne,nf,d⟩:=I.pin p hp'
  have lt:@LT.lt Nat _ p.1 s.heap.objs.size:=Heap.lt_size e
  refine ⟨fY e,by rw [up _ lt]; exact n,Nat.ne_of_lt (Nat.lt_succ_of_lt lt),fun z=>?_,d⟩
  rcases List.mem_cons.mp (I.stkSub _ z) with z | z
  ·exact ne z
  ·exact nf z
 ·exact I.hok.laid (fun b o e=>fY e) (Nat.le_refl _) ⟨Nat.zero_le _,[],0,.nil,GB s.heap⟩
end
open PySem PySem.Spec PyProof.Rows L2
abbrev zB (ifs:List Expr) (env:Env):Sem Bool:=forIn ifs true fun c r=>if r=true then do let ok <- isTrue c env (eval c env); pure (ForInStep.yield ok) else pure (ForInStep.yield r)
theorem qu {prog:Program} {w:World} {A:Around} {R:Result -> Shared -> Prop} {s:Shared} {elt target iter:Expr} {ifs:List Expr} {scope:Scope} {pos:Pos} {it acc:Value} {env:Env} (I:Nat -> Shared -> Prop)
  (turn:∀ n s,I n s -> wpAny (model prog w) A (pyNext it) (fun r s₁=>match r with
   | none=>R (.ok .next) s₁
   | some v=>wpAny (model prog w) A (letOwnedTupleGo target it v) (fun _ s₂=>wpAny (model prog w) A (assign target env v) (fun _ s₃=>wpAny (model prog w) A (zB ifs env) (fun ok s₄ =>
     if ok=true then wpAny (model prog w) A (eval elt env) (fun x s₅=>wpAny (model prog w) A (call (.builtin "list.append") [acc,x]) (fun _ s₆=>∃ m,m < n /\ I m s₆) (fun _ _=>False) s₅) (fun _ _=>False) s₄
     else ∃ m,m < n /\ I m s₄) (fun _ _=>False) s₃) (fun _ _=>False) s₂) (fun _ _=>False) s₁) (fun _ _=>False) s)
  (n:Nat) (h:I n s):codeAny (model prog w) A (.compLoop (.ListComp elt [⟨target,iter,ifs,0⟩] scope pos) 0 it acc env) R s:=by
 have no:∀ {α:Type} {m:Sem α} {Q:α -> Shared -> Prop} {E:Value -> Shared -> Prop} {s:Shared},wpAny (model prog w) A m Q (fun _ _=>False) s -> wpAny (model prog w) A m Q E s:=fun h=>wpAny_mono h (fun _ _ q=>q) fun _ _ z=>z.elim
 refine codeAny_loop rfl I (fun n s hI=>?_) n h
 refine (wpAny_noted ?_:wpAny _ A ((compTurn (.ListComp elt [⟨target,iter,ifs,0⟩] scope pos) 0 it acc env).onRaise (fun x=>do noteFrame x env; theTreesLotGoes x)) _ _ s)
 rw [compTurn_list]
 refine wpAny_bind (wpAny_standAt (wpAny_bind (wpAny_mono (no (turn n s hI)) (fun r s₁ h₁=>?_) fun _ _ z=>z)))
 cases r with
 | none=>exact wpAny_pure h₁
 | some v =>
  refine wpAny_bind (wpAny_mono (no h₁) (fun _ s₂ h₂=>wpAny_bind (wpAny_mono (no h₂) (fun _ s₃ h₃=>wpAny_bind (wpAny_mono (no h₃) (fun ok s₄ h₄=>?_) fun _ _ z=>z)) fun _ _ z=>z)) fun _ _ z=>z)
  cases ok with
  | false=>exact wpAny_pure ⟨rfl,h₄⟩
  | true=>exact wpAny_bind (wpAny_bind (wpAny_mono (no h₄) (fun x s₅ h₅=>wpAny_bind (wpAny_mono (no h₅) (fun _ s₆ h₆=>wpAny_pure (wpAny_pure ⟨rfl,h₆⟩)) fun _ _ z=>z)) fun _ _ z=>z))
def bM:aA -> Bool
 | []=>true
 | some (.own _) :: _=>false
 | _ :: r=>bM r
theorem df:∀ {τ:aA} {i:Nat} {ts:List T},bM τ=true -> τ[i]? ≠ some (some (.own ts))
 | [],i,ts,_=>by simp
 | some (.own _) :: _,i,ts,h=>by cases h
 | some (.sh t) :: r,0,ts,h=>by simp
 | none :: r,0,ts,h=>by simp
 | some (.sh t) :: r,i + 1,ts,h=>by rw [List.getElem?_cons_succ]; exact df (τ:=r) h
 | none :: r,i + 1,ts,h=>by rw [List.getElem?_cons_succ]; exact df (τ:=r) h
def gm (fg:FG) (ft:FT) (fe:FE):List T -> aA -> List T -> Option (List T)
 | [],_,acc=>some acc
 | t :: ts,τ,acc=>(fg t τ).bind fun τ1=>(ft τ1).bind fun p=>if p.1=true then (fe p.2).bind fun q=>if bM q.2=true /\ acc.length < sizeLine then gm fg ft fe ts q.2 (acc ++ [q.1]) else none
  else if bM p.2=true then gm fg ft fe ts p.2 acc else none
def frz1 (j:Nat) (τ:aA):aA:=match τ[j]? with
 | some (some (.own ts))=>τ.set j (some (.sh (.lst ts)))
 | _=>τ
def frzAll:List Nat -> aA -> aA
 | [],τ=>τ
 | j :: r,τ=>frzAll r (frz1 j τ)
def ux {α:Type} (l:List (Option α)) (j:Nat):Option α:=match l[j]? with
 | some x=>x
 | none=>none
def bT {α:Type} (no:Nat) (cap:List Nat) (l:List (Option α)):List (Option α):=List.replicate no none ++ cap.map (ux l)
def cq (no:Nat) (cap:List Nat) (fi:FA) (fg:FG) (ft:FT) (fe:FE):FE:=fun τ=>(fi τ).bind fun p =>
 if bM (bT no cap (frzAll cap p.2))=true then (gm fg ft fe p.1 (bT no cap (frzAll cap p.2)) []).bind fun us=>some (.lst us,frzAll cap p.2) else none
def aD:FT:=fun τ=>some (true,τ)
def E5 (X:Cx) (ifs:List Expr) (ft:FT):Prop:=∀ F₀ H₀ pins s σ H Q,Inv X pins σ H s -> tT X.K F₀ H₀ ft σ H Q -> wpAny (model X.prog X.w) X.A (zB ifs X.env) (TP X pins σ Q) X.xe s
theorem bF {X:Cx}:E5 X [] aD:=fun F₀ H₀ pins s σ H Q I hq__=>by
 obtain ⟨F,τ,b,τ',E,e,q⟩:=hq__
 cases e
 exact wpAny_tests_nil ⟨H,I,q F H E (aI.refl _)⟩
section
variable {K:PySem.W.Frag} {F₀ H₀ F H:Hp} {σ:L2.St} {τ:aA}
theorem az.frz1 (E:az K F₀ H₀ F H σ τ) (j:Nat):∃ F',az K F₀ H₀ F' H σ (TM.frz1 j τ) /\ aI F F':=by
 unfold TM.frz1
 split
 ·next ts e =>
  obtain ⟨F',v,_,E',s',_⟩:=E.freeze e
  exact ⟨F',E',s'⟩
 ·exact ⟨F,E,aI.refl _⟩
theorem az.frzAll:∀ (cap:List Nat) {F:Hp} {τ:aA},az K F₀ H₀ F H σ τ -> ∃ F',az K F₀ H₀ F' H σ (TM.frzAll cap τ) /\ aI F F'
 | [],F,τ,E=>⟨F,E,aI.refl _⟩
 | j :: r,F,τ,E=>by
  obtain ⟨F1,E1,s1⟩:=E.frz1 j
  obtain ⟨F2,E2,s2⟩:=az.frzAll r E1
  exact ⟨F2,E2,s1.trans s2⟩
theorem az.rebase {H':Hp} (E:az K F₀ H₀ F H σ τ) (ha:bM τ=true) (s:aI F H'):az K F H' F H' σ τ:=by
 refine ⟨aX.refl s,E.len,fun i sl e=>?_,fun i j ts us p _ e1=>absurd e1 (df ha)⟩
 obtain ⟨v,h1,h2⟩:=E.sl i sl e
 cases sl with
 | sh t=>exact ⟨v,h1,h2⟩
 | own ts=>exact absurd e (df ha)
theorem lP {α:Type} {no:Nat} {cap:List Nat} {l:List (Option α)} {i:Nat} {x:α} (h:(bT no cap l)[i]? = some (some x)):∃ k j:Nat,i=no + k /\ cap[k]? = some j /\ l[j]? = some (some x):=by
 unfold bT at h
 by_cases hi:i < no
 ·rw [List.getElem?_append_left (by simpa using hi),List.getElem?_replicate] at h
  split at h <;> cases h
 ·rw [List.getElem?_append_right (by simpa using hi),List.length_replicate,List.getElem?_map] at h
  cases e:cap[i - no]? with
  | none=>rw [e] at h; cases h
  | some j =>
   rw [e] at h
   have h':ux l j=some x:=Option.some.inj h
   unfold ux at h'
   split at h'
   ·next y ey=>exact ⟨i - no,j,by omega,e,by rw [ey,h']⟩
   ·cases h'
theorem zM {α:Type} {no:Nat} {cap:List Nat} {l:List (Option α)} {k j:Nat} {x:α} (h1:cap[k]? = some j) (h2:l[j]? = some (some x)):(bT no cap l)[no + k]? = some (some x):=by
 unfold bT
 rw [List.getElem?_append_right (by simp),List.length_replicate,Nat.add_sub_cancel_left,List.getElem?_map,h1]
 show some (ux l j)=_
 unfold ux
 rw [h2]
theorem az.block {H':Hp} {no:Nat} {cap:List Nat} (E:az K F₀ H₀ F H σ τ) (ha:bM (bT no cap τ)=true) (s:aI F H'):az K F H' F H' (bT no cap σ) (bT no cap τ):=by
 refine ⟨aX.refl s,by simp [bT],fun i sl e=>?_,fun i j ts us p _ e1=>absurd e1 (df ha)⟩
 obtain ⟨k,j,rfl,hk,hj⟩:=lP e
 obtain ⟨v,h1,h2⟩:=E.sl j sl hj
 refine ⟨v,zM hk h1,?_⟩
 cases sl with
 | sh t=>exact h2
 | own ts=>exact absurd e (df ha)
end
section
variable {X:Cx}
structure CompEnd (X:Cx) (pins:List (Addr × Obj)) (σ:L2.St) (F₀ H₀ F:Hp) (τ:aA) (rs:List T) (D C:Addr) (s:Shared):Prop where
 ex:∃ (H F3:Hp) (vs:List V),Inv X pins σ H s /\ az X.K F₀ H₀ F3 H σ τ /\ aI F F3 /\ F3 D=none /\ H D=some (.lst vs) /\ H₀ D=none /\ aP X.K F3 rs vs /\ H C=none
 ns:∃ m,s.heap.Ns C m
 cl:C ≠ X.env.locals
 c0:X.s₀.heap.objs.size ≤ C
 cc:∀ x c,X.env.cells.lookup x=some c -> c ≠ C
 cp:∀ p ∈ X.pn ++ pins,p.1 ≠ C
 ow:∀ (j:Nat) us p,τ[j]? = some (some (.own us)) -> σ[j]? = some (some (.ref p)) -> p ≠ D
theorem qt {elt tg iter:Expr} {ifs:List Expr} {scope:Scope} {pos:Pos} {N':List Str} {no:Nat} {cap:List Nat} {fi:FA} {fg:FG} {ft:FT} {fe:FE} (hx:X.xe=fun _ _=>False) (hc:X.calm=true) (B:gi X scope) (hN:N'.length=no + cap.length)
  (hcap:∀ (k j:Nat),cap[k]? = some j -> ∃ x,N'[no + k]? = some x /\ X.N[j]? = some x /\ (x,NameKind.free) ∈ scope.names) (hi:SI X tg iter fi)
  (hg:∀ C cs s₀ H₀ fp pins,SG (qX X scope N' C cs s₀ H₀ fp pins) tg fg) (ht:∀ C cs s₀ H₀ fp pins,E5 (qX X scope N' C cs s₀ H₀ fp pins) ifs ft) (he:∀ C cs s₀ H₀ fp pins,SE (qX X scope N' C cs s₀ H₀ fp pins) elt fe)
  {F₀ H₀ F H:Hp} {pins:List (Addr × Obj)} {s:Shared} {σ:L2.St} {τ τ1:aA} {ts rs:List T} (I:Inv X pins σ H s) (E:az X.K F₀ H₀ F H σ τ) (e2:fi τ=some (ts,τ1)) (ha:bM (bT no cap (frzAll cap τ1))=true) (e3:gm fg ft fe ts (bT no cap (frzAll cap τ1)) []=some rs)
  {post:Value -> Addr -> Result -> Shared -> Prop} (hpost:∀ D C s',CompEnd X pins σ F₀ H₀ F (frzAll cap τ1) rs D C s' -> post (.ref D) C (.ok .next) s') :
  wpAny (model X.prog X.w) X.A (eval iter X.env) (fun x s₁=>wpAny (model X.prog X.w) X.A (pyIter x) (fun it s₂=>wpAny (model X.prog X.w) X.A (newList []) (fun acc s₃ =>
   wpAny (model X.prog X.w) X.A (newFunctionEnv scope X.env.globals (lQ X.env scope.names []) [] X.env.qual none .none (some X.env)) (fun cenv s₄ =>
    codeAny (model X.prog X.w) X.A (.compStart (.ListComp elt [⟨tg,iter,ifs,0⟩] scope pos) 0 it acc { cenv with scope:=relabel scope X.env }) (post acc cenv.locals) s₄) X.xe s₃) X.xe s₂) X.xe s₁) X.xe s:=by
 refine cI (hi F₀ H₀ pins s σ H (fun J H1=>∃ F1,az X.K F₀ H₀ F1 H1 σ τ1 /\ aI F F1 /\ Walks X.K F1 ts J) I ⟨F,τ,ts,τ1,E,e2,fun F1 H1 J E1 s1 W=>⟨F1,E1,s1,W⟩⟩) fun v s1 h1=>cI h1 fun itv s2 h2=>?_
 obtain ⟨it,fp,tn,J,H1,rfl,I2,Tn,st2,f2,F1,E1,sF1,W⟩:=h2
 obtain ⟨F2,E2,sF2⟩:=E1.frzAll cap
 have W2:Walks X.K F2 ts J:=⟨fun i t F3 H3 e a b=>W.go i t F3 H3 e (sF2.trans a) b,fun i t F3 H3 x H4 e a b y=>W.yld i t F3 H3 x H4 e (sF2.trans a) b y,fun F3 H3 a b=>W.stop F3 H3 (sF2.trans a) b⟩
 refine wpAny_newObj_type ?_
 have hz:(s2.heap.push jK).objs.size=s2.heap.objs.size + 1:=Heap.size_push ..
 have hz2:((s2.heap.push jK).push uE).objs.size=s2.heap.objs.size + 2:=by rw [Heap.size_push,hz]
 simp only [newFunctionEnv,Option.isSome_some,if_true]
 refine wpAny_bind (wpAny_alloc ?_)
 refine wpAny_bind (wpAny_layCells _ (fun name kind cells=>by cases hkc:kind == NameKind.cell <;> simp [hkc]) _ _ _ _ ?_)
 simp only [List.forIn_nil]
 refine wpAny_bind (wpAny_pure (wpAny_pure ?_))
 have loop:codeAny (model X.prog X.w) X.A (.compLoop (.ListComp elt [⟨tg,iter,ifs,0⟩] scope pos) 0 (.ref it) (.ref s2.heap.objs.size) (gT X scope (s2.heap.objs.size + 1) (cellsFrom (s2.heap.objs.size + 2) scope.names (lQ X.env scope.names []))))
   (post (.ref s2.heap.objs.size) (s2.heap.objs.size + 1)) { s2 with heap:=h0 s2.heap scope }:=by
  have Ib:=ql (N':=N') (σ':=bT no cap σ) (tk:=s2.toks) I2 B f2 (fun b hb=>by obtain ⟨o,e,_⟩:=Tn.obj 0 _ st2 b hb; exact ⟨o,e⟩) (by simp [bT,hN]) (fun i x v a1 a2=>by
   obtain ⟨k,j,rfl,hk,hj⟩:=lP a2
   obtain ⟨x',b1,b2,b3⟩:=hcap k j hk
   rw [a1] at b1; cases b1
   exact .inl ⟨b3,j,b2,hj⟩)
  generalize hX':qX X scope N' (s2.heap.objs.size + 1) (cellsFrom (s2.heap.objs.size + 2) scope.names (lQ X.env scope.names [])) s2 H1 fp pins=X' at Ib
  have hg':SG X' tg fg:=by rw [<- hX']; exact hg _ _ _ _ _ _
  have ht':E5 X' ifs ft:=by rw [<- hX']; exact ht _ _ _ _ _ _
  have he':SE X' elt fe:=by rw [<- hX']; exact he _ _ _ _ _ _
  have xP:X'.prog=X.prog:=by rw [<- hX']; rfl
  have xw:X'.w=X.w:=by rw [<- hX']; rfl
  have xK:X'.K=X.K:=by rw [<- hX']; rfl
  have xA:X'.A=X.A:=by rw [<- hX']; rfl
  have xc:X'.calm=true:=by rw [<- hX']; exact hc
  have xx:X'.xe=fun _ _=>False:=by rw [<- hX']; rfl
  have xe':X'.env=gT X scope (s2.heap.objs.size + 1) (cellsFrom (s2.heap.objs.size + 2) scope.names (lQ X.env scope.names [])):=by rw [<- hX']; rfl
  have xex:X'.ex=fp:=by rw [<- hX']; rfl
  have xfs:X'.fs=nr X.stack:=by rw [<- hX']; rfl
  have xpn:X'.pn=X.pn ++ pins:=by rw [<- hX']; rfl
  have xs0:X'.s₀=s2:=by rw [<- hX']; rfl
  have xH0:X'.H₀=H1:=by rw [<- hX']; rfl
  have xl:X'.env.locals=s2.heap.objs.size + 1:=by rw [<- hX']; rfl
  rw [<- xe',<- xP,<- xw,<- xA]
  have hD1:H1 s2.heap.objs.size=none:=I2.fresh
  have fpk:∀ {Hc:Hp} {σc:L2.St} {pc:List (Addr × Obj)} {sc:Shared},Inv X' pc σc Hc sc -> (∀ b ∈ fp,Hc b=none) -> ∀ b ∈ fp,pJ X' [] Hc b:=fun {Hc σc pc sc} Ic hn b hb=>by
   have q1:=Ic.ok.exf b (by rw [xex]; exact hb)
   have q2:=Ic.ok.exfs b (by rw [xex]; exact hb)
   refine ⟨hn b hb,q1.1,q2,.inl (by rw [xex]; exact hb),q1.2,fun p hp=>?_⟩
   rw [xpn,List.append_nil] at hp
   exact (f2 b hb).2.2.2.2.2 p hp
  refine qu (fun n s3=>∃ i σ3 H3 F3 τ3 us vs,Inv X' [] σ3 H3 s3 /\ tn i s3.heap /\ (∀ b ∈ fp,H3 b=none) /\ az X.K F3 H3 F3 H3 σ3 τ3 /\ bM τ3=true /\ F3 s2.heap.objs.size=none /\ H3 s2.heap.objs.size=some (.lst vs) /\ aP X.K F3 us vs /\ aI F2 F3 /\ aI H1 H3 /\
   (∀ a o,F3 a=some o -> F2 a=some o \/ H1 a=none) /\ i ≤ ts.length /\ n=ts.length - i /\ gm fg ft fe (ts.drop i) τ3 us=some rs) ?_ ts.length ?_
  ·rintro n s3 ⟨i,σ3,H3,F3,τ3,us,vs,I3,st3,fr3,E3,ha3,fD,hD,rv,sF,sH,nw,hi',rfl,ec⟩
   by_cases hlt:i < ts.length
   ·have hgi:ts[i]? = some ts[i]:=List.getElem?_eq_getElem hlt
    rw [List.drop_eq_getElem_cons hlt] at ec
    obtain ⟨τ4,e4,ec⟩:=bind_some ec
    obtain ⟨⟨b,τ5⟩,e5,ec⟩:=bind_some ec
    have go:=W2.go i _ F3 H3 hgi sF E3.g.fh
    have itm:=(xP ▸ xw ▸ xK ▸ Tn:Turn X'.prog X'.w X'.K tg J fp it tn).item X' rfl rfl rfl xc i [] s3 σ3 H3 (fun _ _=>False) I3 (fpk I3 fr3) st3 go
    refine cI itm fun r s4 ⟨u,hr,h4⟩=>?_
    subst hr
    refine cI h4 fun _ s5 ⟨x,H5,I5,r5,y5,st5,fr5⟩=>?_
    have I5':=I5.pinned (fpk I5 fr5) (Tn.obj _ _ st5)
    obtain ⟨F5,gr,rx⟩:=W2.yld i _ F3 H3 x H5 hgi sF E3.g.fh y5
    have a1:=hg' F3 H3 _ s5 σ3 H5 x u (fun σ6 H6=>∃ F6,az X.K F3 H3 F6 H6 σ6 τ4 /\ aI F5 F6) I5' r5 (by rw [xK]; exact ⟨F5,τ3,ts[i],τ4,E3.grow gr,rx,e4,fun F6 H6 σ6 E6 s6=>⟨F6,E6,s6⟩⟩)
    rw [xx] at a1
    refine cI a1 fun _ s6 ⟨σ6,H6,I6,F6,E6,sF6⟩=>?_
    have a2:=ht' F3 H3 _ s6 σ6 H6 (fun b' H7=>b'=b /\ ∃ F7,az X.K F3 H3 F7 H7 σ6 τ5 /\ aI F6 F7) I6 (by rw [xK]; exact ⟨F6,τ4,b,τ5,E6,e5,fun F7 H7 E7 s7=>⟨rfl,F7,E7,s7⟩⟩)
    rw [xx] at a2
    refine cI a2 fun ok s7 ⟨H7,I7,hok,F7,E7,sF7⟩=>?_
    subst hok
    have tail:∀ {σc:L2.St} {Hc:Hp} {sc:Shared},Inv X' ([] ++ mf fp s5.heap) σc Hc sc -> tn (i + 1) sc.heap /\ ∀ b ∈ fp,Hc b=none:=fun {σc Hc sc} Ic=>by
     refine ⟨Tn.keep _ _ _ st5 fun b hb o e=>(Ic.pin (b,o) (List.mem_append_right _ (List.mem_append_right _ (fu hb e)))).1,fun b hb=>?_⟩
     obtain ⟨o,e,d⟩:=Tn.obj _ _ st5 b hb
     exact (Ic.pin (b,o) (List.mem_append_right _ (List.mem_append_right _ (fu hb e)))).2.1
    have keepD:∀ {Fc Hc:Hp} {σc:L2.St} {τc:aA},az X.K F3 H3 Fc Hc σc τc -> Fc s2.heap.objs.size=none:=fun {Fc Hc σc τc} Ec=>by
     cases eF:Fc s2.heap.objs.size with
     | none=>rfl
     | some o =>
      rcases Ec.g.nw _ o eF with z | z
      ·rw [fD] at z; cases z
      ·rw [hD] at z; cases z
    have newF:∀ {Fc Hc:Hp} {σc:L2.St} {τc:aA},az X.K F3 H3 Fc Hc σc τc -> ∀ a o,Fc a=some o -> F2 a=some o \/ H1 a=none:=fun {Fc Hc σc τc} Ec a o eF=>by
     rcases Ec.g.nw a o eF with z | z
     ·exact nw a o z
     ·exact .inr (sH.free z)
    cases b':ok with
    | false =>
     subst b'
     dsimp only at ec
     rw [if_neg (by decide)] at ec
     split at ec
     ·next ha =>
      rw [if_neg (by decide)]
      obtain ⟨t1,t2⟩:=tail I7
      exact ⟨ts.length - (i + 1),by omega,i + 1,σ6,H7,F7,τ5,us,vs,I7.unpinned,t1,t2,E7.rebase ha E7.g.fh,ha,keepD E7,E7.g.sH _ _ hD,aP.mono E7.g.sF rv,sF.trans E7.g.sF,sH.trans E7.g.sH,newF E7,hlt,rfl,ec⟩
     ·cases ec
    | true =>
     subst b'
     dsimp only at ec
     rw [if_pos rfl] at ec
     rw [if_pos rfl]
     obtain ⟨⟨y0,τ6⟩,e6,ec⟩:=bind_some ec
     dsimp only at ec
     split at ec
     ·next ha =>
      have a3:=he' F3 H3 _ s7 σ6 H7 (fun y H8=>∃ F8,az X.K F3 H3 F8 H8 σ6 τ6 /\ Rep X.K F8 y0 y) I7 (by rw [xK]; exact ⟨F7,τ5,y0,τ6,E7,e6,fun F8 H8 y E8 s8 r8=>⟨F8,E8,r8⟩⟩)
      rw [xx] at a3
      refine cI a3 fun yv s8 ⟨y,H8,I8,ry,F8,E8,rp⟩=>?_
      have dD:H8 s2.heap.objs.size=some (.lst vs):=E8.g.sH _ _ hD
      have a4:=ic (X:=X') _ s8 σ6 H8 (.ref s2.heap.objs.size) [y] (.ref s2.heap.objs.size) [yv] (fun _ H9=>H9=upd H8 s2.heap.objs.size (.lst (vs ++ [y]))) I8 rfl (.cons ry .nil) ⟨s2.heap.objs.size,vs,y,rfl,rfl,dD,by rw [rv.length]; exact ha.2,rfl⟩
      rw [xx] at a4
      refine cI a4 fun _ s9 ⟨_,H9,I9,_,e9⟩=>?_
      subst e9
      obtain ⟨t1,t2⟩:=tail I9
      have kD:=keepD E8
      have sm:aI F8 (upd H8 s2.heap.objs.size (.lst (vs ++ [y]))):=fun c o z=>by rw [aE (fun w=>by subst w; rw [kD] at z; cases z)]; exact E8.g.fh _ _ z
      have sm1:aI H1 (upd H8 s2.heap.objs.size (.lst (vs ++ [y]))):=fun c o z=>by rw [aE (fun w=>by subst w; rw [hD1] at z; cases z)]; exact E8.g.sH _ _ (sH _ _ z)
      exact ⟨ts.length - (i + 1),by omega,i + 1,σ6,_,F8,τ6,us ++ [y0],vs ++ [y],I9.unpinned,t1,t2,E8.rebase ha.1 sm,ha.1,kD,aN,(aP.mono E8.g.sF rv).append (.one rp),sF.trans E8.g.sF,sm1,newF E8,hlt,rfl,ec⟩
     ·cases ec
   ·have hie:i=ts.length:=by omega
    subst hie
    rw [List.drop_length] at ec
    cases ec
    have dn:=(xP ▸ xw ▸ xK ▸ Tn:Turn X'.prog X'.w X'.K tg J fp it tn).done X' rfl rfl rfl xc ts.length [] s3 σ3 H3 (fun _ _=>False) I3 (fpk I3 fr3) st3 (W2.stop F3 H3 sF E3.g.fh)
    refine cI dn fun r s4 ⟨hr,I4⟩=>?_
    subst hr
    obtain ⟨m4,hm4,_⟩:=I4.loc
    rw [xl] at hm4
    have un:=I4.base
    rw [xfs,xex,xH0,xs0] at un
    have ox:=I4.os
    rw [xs0] at ox
    have hok4:=I4.hok
    rw [xP,xw] at hok4
    have IX:Inv X pins σ H3 s4:=I2.call' ox un hok4 I4.bare fun b hb=>⟨(f2 b hb).2.2.2.1,(f2 b hb).2.1,(f2 b hb).2.2.2.2.1,(f2 b hb).2.2.2.2.2⟩
    have hC:H3 (s2.heap.objs.size + 1)=none:=by have:=I4.free; rw [xl] at this; exact this
    have lC:@LT.lt Nat _ X.env.locals s2.heap.objs.size:=I2.lt
    have gr:aX F2 H1 F3 H3:=⟨sF,sH,E3.g.fh,nw⟩
    refine hpost _ _ _ ⟨⟨H3,F3,vs,IX,E2.grow gr,(sF1.trans sF2).trans sF,fD,hD,E2.g.sH.free hD1,rv,hC⟩,⟨m4,hm4⟩,Nat.ne_of_gt (Nat.lt_succ_of_lt lC),Nat.le_trans I2.sz (Nat.le_succ _),
     fun x c hxc=>by obtain ⟨v,z⟩:=I2.cell x c hxc; exact Nat.ne_of_lt (Nat.lt_succ_of_lt z.lt),fun p hp=>Nat.ne_of_lt (Nat.lt_succ_of_lt (Heap.lt_size (I2.pin p hp).1)),fun j us p j1 j2=>?_⟩
    obtain ⟨v,k1,p',vs',rfl,k2,_⟩:=E2.sl j _ j1
    rw [j2] at k1; cases k1
    exact bq k2 hD1
  ·refine ⟨0,bT no cap σ,upd H1 s2.heap.objs.size (.lst []),F2,bT no cap (frzAll cap τ1),[],[],Ib,Tn.keep _ _ _ st2 fun b hb o e=>fY e,fun b hb=>?_,E2.block ha (E2.g.fh.trans (bO hD1)),ha,E2.g.fh.free hD1,aN,rfl,aI.refl _,bO hD1,fun a o z=>.inl z,Nat.zero_le _,rfl,e3⟩
   obtain ⟨o,e,_⟩:=Tn.obj 0 _ st2 b hb
   rw [aE (Nat.ne_of_lt (Heap.lt_size e))]
   exact (f2 b hb).1
 have fin:∀ {C:Addr} {cs:List (Str × Addr)},C=s2.heap.objs.size + 1 -> cs=cellsFrom (s2.heap.objs.size + 2) scope.names (lQ X.env scope.names []) ->
   codeAny (model X.prog X.w) X.A (.compStart (.ListComp elt [⟨tg,iter,ifs,0⟩] scope pos) 0 (.ref it) (.ref s2.heap.objs.size) (gT X scope C cs)) (post (.ref s2.heap.objs.size) C) { s2 with heap:=h0 s2.heap scope }:=fun {C cs} h1 h2=>by
  subst h1 h2
  exact codeAny_compStart_list loop (Tn.self _ 0 _ _ _ (Tn.keep _ _ _ st2 fun b hb o e=>fY e) loop)
 exact fin hz (by rw [<- hz2])
theorem cg {elt tg iter:Expr} {ifs:List Expr} {scope:Scope} {pos:Pos} {N':List Str} {no:Nat} {cap:List Nat} {fi:FA} {fg:FG} {ft:FT} {fe:FE} (hx:X.xe=fun _ _=>False) (hc:X.calm=true) (B:gi X scope) (hN:N'.length=no + cap.length)
  (hcap:∀ (k j:Nat),cap[k]? = some j -> ∃ x,N'[no + k]? = some x /\ X.N[j]? = some x /\ (x,NameKind.free) ∈ scope.names) (hi:SI X tg iter fi)
  (hg:∀ C cs s₀ H₀ fp pins,SG (qX X scope N' C cs s₀ H₀ fp pins) tg fg) (ht:∀ C cs s₀ H₀ fp pins,E5 (qX X scope N' C cs s₀ H₀ fp pins) ifs ft) (he:∀ C cs s₀ H₀ fp pins,SE (qX X scope N' C cs s₀ H₀ fp pins) elt fe)
  (hs:∀ x,foldedSetIterable iter X.env x=pure x:=by intro _; rfl):SE X (.ListComp elt [⟨tg,iter,ifs,0⟩] scope pos) (cq no cap fi fg ft fe):=by
 intro F₀ H₀ pins s σ H Q I ⟨F,τ,t,τ',E,e1,q⟩
 obtain ⟨⟨ts,τ1⟩,e2,e1⟩:=bind_some e1
 dsimp only at e1
 split at e1
 ·next ha =>
  obtain ⟨rs,e3,e1⟩:=bind_some e1
  cases e1
  have hfree:∀ y ∈ scope.names,y.2=.free -> ∃ c,X.env.cells.lookup y.1=some c:=fun y hy hk=>I.ok.has y.1 (B.free y hy hk).1
  rw [eval_ListComp]
  refine wpAny_comprehension_free (use:=none) rfl hs (jS hfree) B.kind B.names (qt hx hc B hN hcap hi hg ht he I E e2 ha e3 fun D C s' Z=>?_)
  obtain ⟨H3,F3,vs,IX,E3,sF,fD,hD,h0D,rv,hC⟩:=Z.ex
  obtain ⟨m,hm⟩:=Z.ns
  refine ⟨m,hm,fun h' sb=>⟨.ref D,H3,IX.turned (t':=s'.toks) (it:=C) (fun b o hb e=>(sb.2 b hb).trans e) hC Z.cl (.inr Z.c0) Z.cc Z.cp,rfl,?_⟩⟩
  have gr:aX F3 H3 (upd F3 D (.lst vs)) H3 \/ True:=.inr trivial
  have sU:aI F3 (upd F3 D (.lst vs)):=bO fD
  refine q (upd F3 D (.lst vs)) H3 (.ref D) ⟨⟨E3.g.sF.trans sU,E3.g.sH,fun c o z=>?_,fun c o z=>?_⟩,E3.len,fun j sl ej=>?_,E3.dj⟩ (sF.trans sU) ⟨D,vs,rfl,aN,aP.mono sU rv⟩
  ·by_cases w:c=D
   ·subst w; rw [aN] at z; cases z; exact hD
   ·rw [aE w] at z; exact E3.g.fh _ _ z
  ·by_cases w:c=D
   ·subst w; exact .inr h0D
   ·rw [aE w] at z; exact E3.g.nw _ _ z
  ·obtain ⟨v,k1,k2⟩:=E3.sl j sl ej
   refine ⟨v,k1,?_⟩
   cases sl with
   | sh t=>exact Rep.mono sU k2
   | own us =>
    obtain ⟨p,ws,rfl,g2,g3,g4,g5⟩:=k2
    exact ⟨p,ws,rfl,g2,by rw [aE (Z.ow j us p ej k1)]; exact g3,g4,aP.mono sU g5⟩
 ·cases e1
theorem az.putOwn {K:PySem.W.Frag} {F₀ H₀ F H:Hp} {σ:L2.St} {τ:aA} {i:Nat} {rs:List T} {vs:List V} {D:Addr} (E:az K F₀ H₀ F H σ τ) (fD:F D=none) (hD:H D=some (.lst vs)) (h0:H₀ D=none) (r:aP K F rs vs)
  (ow:∀ (j:Nat) us p,τ[j]? = some (some (.own us)) -> σ[j]? = some (some (.ref p)) -> p ≠ D):az K F₀ H₀ F H (σ.set i (some (.ref D))) (τ.set i (some (.own rs))):=by
 refine ⟨E.g,by simp [E.len],fun j s e=>?_,fun j k ts' us q hjk e1 e2 e3 e4=>?_⟩
 ·by_cases hj:i=j
  ·subst hj
   by_cases hl:i < τ.length
   ·rw [List.getElem?_set_self hl] at e
    cases e
    exact ⟨.ref D,List.getElem?_set_self (by rw [E.len]; exact hl),D,vs,rfl,hD,fD,h0,r⟩
   ·rw [List.getElem?_eq_none (by simp; omega)] at e; cases e
  ·rw [List.getElem?_set_ne hj] at e
   rw [List.getElem?_set_ne hj]
   exact E.sl j s e
 ·by_cases hj:i=j
  ·subst hj
   rw [List.getElem?_set_ne hjk] at e2 e4
   by_cases hl:i < τ.length
   ·rw [List.getElem?_set_self (by rw [E.len]; exact hl)] at e3
    cases e3
    exact ow k us _ e2 e4 rfl
   ·rw [List.getElem?_eq_none (by simp; omega)] at e1; cases e1
  ·rw [List.getElem?_set_ne hj] at e1 e3
   by_cases hk:i=k
   ·subst hk
    by_cases hl:i < τ.length
    ·rw [List.getElem?_set_self (by rw [E.len]; exact hl)] at e4
     cases e4
     exact ow j ts' _ e1 e3 rfl
    ·rw [List.getElem?_eq_none (by simp; omega)] at e2; cases e2
   ·rw [List.getElem?_set_ne hk] at e2 e4
    exact E.dj j k ts' us q hjk e1 e2 e3 e4
def fH (i no:Nat) (cap:List Nat) (fi:FA) (fg:FG) (ft:FT) (fe:FE):FS:=fun τ=>(fi τ).bind fun p =>
 if bM (bT no cap (frzAll cap p.2))=true then (gm fg ft fe p.1 (bT no cap (frzAll cap p.2)) []).bind fun us=>some (.nx ((frzAll cap p.2).set i (some (.own us)))) else none
theorem pq {i:Nat} {y:Str} {py spos:Pos} {elt tg iter:Expr} {ifs:List Expr} {scope:Scope} {pos:Pos} {N':List Str} {no:Nat} {cap:List Nat} {fi:FA} {fg:FG} {ft:FT} {fe:FE} (hNd:X.N.Nodup) (hiy:X.N[i]? = some y) (hy:X.env.scope.names.lookup y=some .local)
  (hx:X.xe=fun _ _=>False) (hc:X.calm=true) (B:gi X scope) (hN:N'.length=no + cap.length)
  (hcap:∀ (k j:Nat),cap[k]? = some j -> ∃ x,N'[no + k]? = some x /\ X.N[j]? = some x /\ (x,NameKind.free) ∈ scope.names) (hi:SI X tg iter fi)
  (hg:∀ C cs s₀ H₀ fp pins,SG (qX X scope N' C cs s₀ H₀ fp pins) tg fg) (ht:∀ C cs s₀ H₀ fp pins,E5 (qX X scope N' C cs s₀ H₀ fp pins) ifs ft) (he:∀ C cs s₀ H₀ fp pins,SE (qX X scope N' C cs s₀ H₀ fp pins) elt fe)
  (hsw:swapsWith (.ListComp elt [⟨tg,iter,ifs,0⟩] scope pos) (some (.Name y py)) spos.line X.env=pure true:=by rfl) (hs:∀ x,foldedSetIterable iter X.env x=pure x:=by intro _; rfl) :
  SS X (.Assign [.Name y py] (.ListComp elt [⟨tg,iter,ifs,0⟩] scope pos) spos) (fH i no cap fi fg ft fe):=by
 intro F₀ H₀ pins s σ H Dn I ⟨F,τ,r,E,e1,q⟩
 obtain ⟨⟨ts,τ1⟩,e2,e1⟩:=bind_some e1
 dsimp only at e1
 split at e1
 ·next ha =>
  obtain ⟨rs,e3,e1⟩:=bind_some e1
  cases e1
  have hfree:∀ y ∈ scope.names,y.2=.free -> ∃ c,X.env.cells.lookup y.1=some c:=fun y hy hk=>I.ok.has y.1 (B.free y hy hk).1
  rw [exec_Assign_Name_used _ _ _ _ hsw]
  refine wpAny_bind (wpAny_standAt (wpAny_bind (?_:wpAny _ X.A (do let _ <- comprehension (.ListComp elt [⟨tg,iter,ifs,0⟩] scope pos) scope X.env _ (newList []) false (eval iter X.env) (some (assign (.Name y py) X.env))) _ _ s)))
  refine wpAny_bind (cI (wpAny_comprehension_free (use:=some (assign (.Name y py) X.env)) (Q:=fun _ s'=>SP X pins Dn .next s') rfl hs (jS hfree) B.kind B.names (qt hx hc B hN hcap hi hg ht he I E e2 ha e3 fun D C s' Z=>?_)) fun _ s' hq=>wpAny_pure (wpAny_pure hq))
  obtain ⟨H3,F3,vs,IX,E3,sF,fD,hD,h0D,rv,hC⟩:=Z.ex
  obtain ⟨m,hm⟩:=Z.ns
  refine (wpAny_assign_Name (qH IX hNd hiy (.inl hy) (v:=.ref D) rfl (fun s'' I'' w=>?_) (.inr hy)):wpAny _ X.A (assign (.Name y py) X.env (.ref D)) _ _ _)
  obtain ⟨a,sb,hab⟩:=w
  have aC:C ≠ a:=fun z=>by
   subst z
   rcases hab with z | z
   ·exact Z.cl z
   ·exact Z.cc _ _ z rfl
  refine ⟨m,hm.sameBut sb aC,fun h' sb'=>⟨_,H3,I''.turned (t':=s''.toks) (it:=C) (fun b o hb e=>(sb'.2 b hb).trans e) hC Z.cl (.inr Z.c0) Z.cc Z.cp,?_⟩⟩
  exact q F3 H3 _ (E3.putOwn fD hD h0D rv Z.ow) sF
 ·cases e1
end
def uw (sc scope:Scope):Bool:=scope.kind == .function && scope.names.all fun y=>(y.2 != .local || scope.names.lookup y.1 == some .local) &&
 (y.2 != .free || ((sc.names.lookup y.1 == some .cell || sc.names.lookup y.1 == some .free) && scope.names.all (fun z=>!(z.1 == y.1 && z.2 == .cell)) && scope.names.lookup y.1 == some .free))
theorem aQ {X:Cx} {scope:Scope} (h:uw X.env.scope scope=true):gi X scope:=by
 unfold uw at h
 simp only [Bool.and_eq_true,List.all_eq_true,Bool.or_eq_true,bne_iff_ne,beq_iff_eq,Bool.not_eq_true',Bool.and_eq_false_iff,ne_eq] at h
 refine ⟨h.1,fun y hy hk=>?_,fun y hy hk=>?_⟩
 ·rcases (h.2 y hy).1 with z | z
  ·exact absurd hk z
  ·exact z
 ·rcases (h.2 y hy).2 with z | ⟨⟨z1,z2⟩,z3⟩
  ·exact absurd hk z
  ·refine ⟨z1,fun m=>?_,z3⟩
   rcases z2 _ m with w | w
   ·simp at w
   ·simp at w
def nZ (N N':List Str) (scope:Scope) (no:Nat):List Nat -> Bool
 | []=>true
 | j :: r=>(match N'[no]?,N[j]? with | some x,some y=>x == y && scope.names.any (fun z=>z.1 == x && z.2 == .free) | _,_=>false) && nZ N N' scope (no + 1) r
theorem bP {N N':List Str} {scope:Scope}:∀ {no:Nat} {cap:List Nat},nZ N N' scope no cap=true -> ∀ (k j:Nat),cap[k]? = some j -> ∃ x,N'[no + k]? = some x /\ N[j]? = some x /\ (x,NameKind.free) ∈ scope.names
 | no,[],_,k,j,e=>by simp at e
 | no,c :: r,h,k,j,e=>by
  simp only [nZ,Bool.and_eq_true] at h
  cases k with
  | zero =>
   simp at e
   subst e
   have h1:=h.1
   split at h1
   ·next x y ex ey =>
    simp only [Bool.and_eq_true,beq_iff_eq,List.any_eq_true] at h1
    obtain ⟨rfl,z,hz,z1,z2⟩:=h1
    refine ⟨x,ex,ey,?_⟩
    obtain ⟨a,b⟩:=z
    dsimp only at z1 z2
    subst z1 z2
    exact hz
   ·cases h1
  | succ k =>
   obtain ⟨x,h1,h2,h3⟩:=bP h.2 k j (by simpa using e)
   exact ⟨x,by rw [show no + (k + 1)=no + 1 + k by omega]; exact h1,h2,h3⟩
open PySem PySem.Spec PyProof.Rows L2
inductive O where
 | val (t:T) | lst (os:List O)
mutual
def bW (K:PySem.W.Frag) (F H:Hp):O -> V -> List Addr -> Prop
 | .val t,v,A=>A=[] /\ Rep K F t v
 | .lst os,v,A=>∃ p vs B,v=.ref p /\ A=p :: B /\ H p=some (.lst vs) /\ F p=none /\ aR K F H os vs B
def aR (K:PySem.W.Frag) (F H:Hp):List O -> List V -> List Addr -> Prop
 | [],vs,A=>vs=[] /\ A=[]
 | o :: os,vs,A=>∃ v r B C,vs=v :: r /\ A=B ++ C /\ bW K F H o v B /\ aR K F H os r C
end
mutual
def O.tr:O -> T
 | .val t=>t
 | .lst os=>.lst (O.trs os)
def O.trs:List O -> List T
 | []=>[]
 | o :: os=>o.tr :: O.trs os
end
section
variable {K:PySem.W.Frag} {F H F' H':Hp}
mutual
theorem bW.move (sF:aI F F'):∀ {o:O} {v:V} {A:List Addr},(∀ a ∈ A,H' a=H a /\ F' a=none) -> bW K F H o v A -> bW K F' H' o v A
 | .val t,v,A,_,h=>⟨h.1,Rep.mono sF h.2⟩
 | .lst os,v,A,hA,h=>by
  obtain ⟨p,vs,B,rfl,rfl,h1,h2,h3⟩:=h
  have hp:=hA p List.mem_cons_self
  exact ⟨p,vs,B,rfl,rfl,hp.1.trans h1,hp.2,aR.move sF (fun a ha=>hA a (List.mem_cons_of_mem _ ha)) h3⟩
theorem aR.move (sF:aI F F'):∀ {os:List O} {vs:List V} {A:List Addr},(∀ a ∈ A,H' a=H a /\ F' a=none) -> aR K F H os vs A -> aR K F' H' os vs A
 | [],vs,A,_,h=>h
 | o :: os,vs,A,hA,h=>by
  obtain ⟨v,r,B,C,rfl,rfl,h1,h2⟩:=h
  exact ⟨v,r,B,C,rfl,rfl,bW.move sF (fun a ha=>hA a (List.mem_append_left _ ha)) h1,aR.move sF (fun a ha=>hA a (List.mem_append_right _ ha)) h2⟩
end
mutual
theorem bW.at:∀ {o:O} {v:V} {A:List Addr},bW K F H o v A -> ∀ a ∈ A,F a=none /\ ∃ vs,H a=some (.lst vs)
 | .val t,v,A,h,a,ha=>by rw [h.1] at ha; cases ha
 | .lst os,v,A,h,a,ha=>by
  obtain ⟨p,vs,B,rfl,rfl,h1,h2,h3⟩:=h
  rcases List.mem_cons.mp ha with rfl | ha
  ·exact ⟨h2,vs,h1⟩
  ·exact aR.at h3 a ha
theorem aR.at:∀ {os:List O} {vs:List V} {A:List Addr},aR K F H os vs A -> ∀ a ∈ A,F a=none /\ ∃ vs,H a=some (.lst vs)
 | [],vs,A,h,a,ha=>by rw [h.2] at ha; cases ha
 | o :: os,vs,A,h,a,ha=>by
  obtain ⟨v,r,B,C,rfl,rfl,h1,h2⟩:=h
  rcases List.mem_append.mp ha with ha | ha
  ·exact bW.at h1 a ha
  ·exact aR.at h2 a ha
end
mutual
theorem bW.rep (sF:aI F F'):∀ {o:O} {v:V} {A:List Addr},(∀ a ∈ A,F' a=H a) -> bW K F H o v A -> Rep K F' o.tr v
 | .val t,v,A,_,h=>Rep.mono sF h.2
 | .lst os,v,A,hA,h=>by
  obtain ⟨p,vs,B,rfl,rfl,h1,h2,h3⟩:=h
  exact ⟨p,vs,rfl,(hA p List.mem_cons_self).trans h1,aR.rep sF (fun a ha=>hA a (List.mem_cons_of_mem _ ha)) h3⟩
theorem aR.rep (sF:aI F F'):∀ {os:List O} {vs:List V} {A:List Addr},(∀ a ∈ A,F' a=H a) -> aR K F H os vs A -> aP K F' (O.trs os) vs
 | [],vs,A,_,h=>h.1
 | o :: os,vs,A,hA,h=>by
  obtain ⟨v,r,B,C,rfl,rfl,h1,h2⟩:=h
  exact ⟨v,r,rfl,bW.rep sF (fun a ha=>hA a (List.mem_append_left _ ha)) h1,aR.rep sF (fun a ha=>hA a (List.mem_append_right _ ha)) h2⟩
end
theorem aR.app:∀ {os us:List O} {vs ws:List V} {A B:List Addr},aR K F H os vs A -> aR K F H us ws B -> aR K F H (os ++ us) (vs ++ ws) (A ++ B)
 | [],_,_,_,_,_,h,h'=>by obtain ⟨rfl,rfl⟩:=h; exact h'
 | o :: os,_,_,_,_,_,h,h'=>by
  obtain ⟨v,r,B,C,rfl,rfl,h1,h2⟩:=h
  exact ⟨v,r ++ _,B,C ++ _,rfl,by rw [List.append_assoc],h1,aR.app h2 h'⟩
theorem aR.one {o:O} {v:V} {A:List Addr} (h:bW K F H o v A):aR K F H [o] [v] A:=⟨v,[],A,[],rfl,by simp,h,rfl,rfl⟩
theorem aR.length:∀ {os:List O} {vs:List V} {A:List Addr},aR K F H os vs A -> vs.length=os.length
 | [],_,_,h=>by rw [h.1]; rfl
 | o :: os,_,_,h=>by
  obtain ⟨v,r,B,C,rfl,rfl,h1,h2⟩:=h
  simp [aR.length h2]
theorem aR.split:∀ {os:List O} {vs:List V} {A:List Addr} {k:Nat} {o:O},aR K F H os vs A -> os[k]? = some o ->
  ∃ (ws:List V) (v:V) (xs:List V) (B C D:List Addr),vs=ws ++ v :: xs /\ ws.length=k /\ A=B ++ (C ++ D) /\ aR K F H (os.take k) ws B /\ bW K F H o v C /\ aR K F H (os.drop (k + 1)) xs D
 | [],_,_,k,o,h,e=>by simp at e
 | o :: os,_,_,0,o',h,e=>by
  obtain ⟨v,r,B,C,rfl,rfl,h1,h2⟩:=h
  simp at e; subst e
  exact ⟨[],v,r,[],B,C,rfl,rfl,rfl,⟨rfl,rfl⟩,h1,by simpa using h2⟩
 | o :: os,_,_,k + 1,o',h,e=>by
  obtain ⟨v,r,B,C,rfl,rfl,h1,h2⟩:=h
  obtain ⟨ws,w,xs,B',C',D',rfl,rfl,rfl,g1,g2,g3⟩:=aR.split (k:=k) h2 (by simpa using e)
  exact ⟨v :: ws,w,xs,B ++ B',C',D',rfl,rfl,by simp [List.append_assoc],⟨v,ws,B,B',rfl,rfl,h1,g1⟩,g2,by simpa using g3⟩
def frzO (F H:Hp) (A:List Addr):Hp:=fun a=>if a ∈ A then H a else F a
theorem dz {A:List Addr} {a:Addr} (h:a ∈ A):frzO F H A a=H a:=if_pos h
theorem bN {A:List Addr} {a:Addr} (h:a ∉ A):frzO F H A a=F a:=if_neg h
theorem cK {A:List Addr} (h:∀ a ∈ A,F a=none):aI F (frzO F H A):=fun a o e=>by
 rw [bN (fun m=>by rw [h a m] at e; cases e)]; exact e
theorem bW.frz {o:O} {v:V} {A:List Addr} (h:bW K F H o v A):Rep K (frzO F H A) o.tr v:=bW.rep (cK fun a ha=>(h.at a ha).1) (fun a ha=>dz ha) h
theorem aX.frzO {F₀ H₀:Hp} {A:List Addr} (g:aX F₀ H₀ F H) (h:∀ a ∈ A,F a=none) (h0:∀ a ∈ A,H₀ a=none):aX F₀ H₀ (frzO F H A) H:=by
 refine ⟨g.sF.trans (cK h),g.sH,fun a o e=>?_,fun a o e=>?_⟩
 ·by_cases m:a ∈ A
  ·rw [dz m] at e; exact e
  ·rw [bN m] at e; exact g.fh _ _ e
 ·by_cases m:a ∈ A
  ·exact .inr (h0 a m)
  ·rw [bN m] at e; exact g.nw _ _ e
end
section
variable {K:PySem.W.Frag} {F₀ H₀ F H F' H':Hp} {σ:L2.St} {τ:aA} {A:List Addr}
def Apart (σ:L2.St) (τ:aA) (A:List Addr):Prop:=∀ (j:Nat) us p,τ[j]? = some (some (.own us)) -> σ[j]? = some (some (.ref p)) -> p ∉ A
theorem az.frzO (E:az K F₀ H₀ F H σ τ) (h:∀ a ∈ A,F a=none) (h0:∀ a ∈ A,H₀ a=none) (ow:Apart σ τ A):az K F₀ H₀ (TM.frzO F H A) H σ τ:=by
 refine ⟨E.g.frzO h h0,E.len,fun i s e=>?_,E.dj⟩
 obtain ⟨v,h1,h2⟩:=E.sl i s e
 refine ⟨v,h1,?_⟩
 cases s with
 | sh t=>exact Rep.mono (cK h) h2
 | own ts =>
  obtain ⟨p,vs,rfl,k2,k3,k4,k5⟩:=h2
  exact ⟨p,vs,rfl,k2,by rw [bN (ow i ts p e h1)]; exact k3,k4,aP.mono (cK h) k5⟩
theorem az.hp (E:az K F₀ H₀ F H σ τ) (s:aI H H'):az K F₀ H₀ F H' σ τ:=by
 refine ⟨⟨E.g.sF,E.g.sH.trans s,E.g.fh.trans s,E.g.nw⟩,E.len,fun i sl e=>?_,E.dj⟩
 obtain ⟨v,h1,h2⟩:=E.sl i sl e
 refine ⟨v,h1,?_⟩
 cases sl with
 | sh t=>exact h2
 | own ts =>
  obtain ⟨p,vs,rfl,k2,k3,k4,k5⟩:=h2
  exact ⟨p,vs,rfl,s _ _ k2,k3,k4,k5⟩
end
abbrev lH:=aA -> Option (O × aA)
def LK (K:PySem.W.Frag) (F₀ H₀:Hp) (f:lH):TE:=fun σ H Q=>∃ F τ o τ',az K F₀ H₀ F H σ τ /\ f τ=some (o,τ') /\
 ∀ F' H' v A,az K F₀ H₀ F' H' σ τ' -> aI F F' -> bW K F' H' o v A -> A.Nodup -> (∀ a ∈ A,H₀ a=none) -> Apart σ τ' A -> Q v H'
def wj (X:Cx) (e:Expr) (f:lH):Prop:=∀ F₀ H₀,PE X e (LK X.K F₀ H₀ f)
section
variable {X:Cx} {e:Expr} {pos:Pos}
def LZ (f:lH):FE:=fun τ=>(f τ).bind fun p=>some (p.1.tr,p.2)
theorem wj.se {f:lH} (h:wj X e f):SE X e (LZ f):=fun F₀ H₀=>PE.weak (h F₀ H₀) fun σ H Q hq__=>by
 obtain ⟨F,τ,t,τ',E,e1,q⟩:=hq__
 obtain ⟨⟨o,τ1⟩,e2,e1⟩:=bind_some e1
 cases e1
 refine ⟨F,τ,o,τ1,E,e2,fun F' H' v A E' s' r nd h0 ow=>?_⟩
 have hF:∀ a ∈ A,F' a=none:=fun a ha=>(r.at a ha).1
 exact q _ H' v (E'.frzO hF h0 ow) (s'.trans (cK hF)) r.frz
def kC (f:FE):lH:=fun τ=>(f τ).bind fun p=>some (.val p.1,p.2)
theorem SE.seo {f:FE} (h:SE X e f):wj X e (kC f):=fun F₀ H₀=>PE.weak (h F₀ H₀) fun σ H Q hq__=>by
 obtain ⟨F,τ,t,τ',E,e1,q⟩:=hq__
 obtain ⟨⟨o,τ1⟩,e2,e1⟩:=bind_some e1
 cases e1
 exact ⟨F,τ,o,τ1,E,e2,fun F' H' v E' s' r=>q F' H' v [] E' s' ⟨rfl,r⟩ List.nodup_nil (fun a ha=>by cases ha) (fun j us p _ _ m=>by cases m)⟩
theorem aR.vals {K:PySem.W.Frag} {F H:Hp}:∀ {ts:List T} {vs:List V},aP K F ts vs -> aR K F H (ts.map O.val) vs []
 | [],_,h=>⟨h,rfl⟩
 | t :: ts,_,h=>by
  obtain ⟨v,r,rfl,h2,h3⟩:=h
  exact ⟨v,r,[],[],rfl,rfl,⟨rfl,h2⟩,aR.vals h3⟩
theorem bW.new {K:PySem.W.Frag} {F H:Hp} {p:Addr} {ts:List T} {vs:List V} (s:aI F H) (n:H p=none) (r:aP K F ts vs):bW K F (upd H p (.lst vs)) (.lst (ts.map O.val)) (.ref p) [p]:=
 ⟨p,vs,[],rfl,rfl,aN,s.free n,.vals r⟩
theorem apart_new {K:PySem.W.Frag} {F₀ H₀ F H:Hp} {σ:L2.St} {τ:aA} {p:Addr} (E:az K F₀ H₀ F H σ τ) (n:H p=none):Apart σ τ [p]:=fun j us q e1 e2 m=>by
 rw [List.mem_singleton] at m
 subst m
 obtain ⟨v,k1,p',vs',rfl,k2,_⟩:=E.sl j _ e1
 rw [e2] at k1; cases k1
 rw [n] at k2; cases k2
end
open PySem PySem.Spec PyProof.Rows L2
def gU (fg:FG) (ft:FT) (fe:lH):List T -> aA -> List O -> Option (List O)
 | [],_,acc=>some acc
 | t :: ts,τ,acc=>(fg t τ).bind fun τ1=>(ft τ1).bind fun p=>if p.1=true then (fe p.2).bind fun q=>if bM q.2=true /\ acc.length < sizeLine then gU fg ft fe ts q.2 (acc ++ [q.1]) else none
  else if bM p.2=true then gU fg ft fe ts p.2 acc else none
section
variable {X:Cx}
structure nO (X:Cx) (pins:List (Addr × Obj)) (σ:L2.St) (F₀ H₀ F:Hp) (τ:aA) (rs:List O) (D C:Addr) (s:Shared):Prop where
 ex:∃ (H F3:Hp) (vs:List V) (As:List Addr),Inv X pins σ H s /\ az X.K F₀ H₀ F3 H σ τ /\ aI F F3 /\ F3 D=none /\ H D=some (.lst vs) /\ H₀ D=none /\ aR X.K F3 H rs vs As /\ As.Nodup /\ (∀ a ∈ As,H₀ a=none /\ a ≠ D) /\ Apart σ τ As /\ H C=none
 ns:∃ m,s.heap.Ns C m
 cl:C ≠ X.env.locals
 c0:X.s₀.heap.objs.size ≤ C
 cc:∀ x c,X.env.cells.lookup x=some c -> c ≠ C
 cp:∀ p ∈ X.pn ++ pins,p.1 ≠ C
 ow:∀ (j:Nat) us p,τ[j]? = some (some (.own us)) -> σ[j]? = some (some (.ref p)) -> p ≠ D
theorem wB {elt tg iter:Expr} {ifs:List Expr} {scope:Scope} {pos:Pos} {N':List Str} {no:Nat} {cap:List Nat} {fi:FA} {fg:FG} {ft:FT} {fe:lH} (hx:X.xe=fun _ _=>False) (hc:X.calm=true) (B:gi X scope) (hN:N'.length=no + cap.length)
  (hcap:∀ (k j:Nat),cap[k]? = some j -> ∃ x,N'[no + k]? = some x /\ X.N[j]? = some x /\ (x,NameKind.free) ∈ scope.names) (hi:SI X tg iter fi)
  (hg:∀ C cs s₀ H₀ fp pins,SG (qX X scope N' C cs s₀ H₀ fp pins) tg fg) (ht:∀ C cs s₀ H₀ fp pins,E5 (qX X scope N' C cs s₀ H₀ fp pins) ifs ft) (he:∀ C cs s₀ H₀ fp pins,wj (qX X scope N' C cs s₀ H₀ fp pins) elt fe)
  {F₀ H₀ F H:Hp} {pins:List (Addr × Obj)} {s:Shared} {σ:L2.St} {τ τ1:aA} {ts:List T} {rs:List O} (I:Inv X pins σ H s) (E:az X.K F₀ H₀ F H σ τ) (e2:fi τ=some (ts,τ1)) (ha:bM (bT no cap (frzAll cap τ1))=true) (e3:gU fg ft fe ts (bT no cap (frzAll cap τ1)) []=some rs)
  {post:Value -> Addr -> Result -> Shared -> Prop} (hpost:∀ D C s',nO X pins σ F₀ H₀ F (frzAll cap τ1) rs D C s' -> post (.ref D) C (.ok .next) s') :
  wpAny (model X.prog X.w) X.A (eval iter X.env) (fun x s₁=>wpAny (model X.prog X.w) X.A (pyIter x) (fun it s₂=>wpAny (model X.prog X.w) X.A (newList []) (fun acc s₃ =>
   wpAny (model X.prog X.w) X.A (newFunctionEnv scope X.env.globals (lQ X.env scope.names []) [] X.env.qual none .none (some X.env)) (fun cenv s₄ =>
    codeAny (model X.prog X.w) X.A (.compStart (.ListComp elt [⟨tg,iter,ifs,0⟩] scope pos) 0 it acc { cenv with scope:=relabel scope X.env }) (post acc cenv.locals) s₄) X.xe s₃) X.xe s₂) X.xe s₁) X.xe s:=by
 refine cI (hi F₀ H₀ pins s σ H (fun J H1=>∃ F1,az X.K F₀ H₀ F1 H1 σ τ1 /\ aI F F1 /\ Walks X.K F1 ts J) I ⟨F,τ,ts,τ1,E,e2,fun F1 H1 J E1 s1 W=>⟨F1,E1,s1,W⟩⟩) fun v s1 h1=>cI h1 fun itv s2 h2=>?_
 obtain ⟨it,fp,tn,J,H1,rfl,I2,Tn,st2,f2,F1,E1,sF1,W⟩:=h2
 obtain ⟨F2,E2,sF2⟩:=E1.frzAll cap
 have W2:Walks X.K F2 ts J:=⟨fun i t F3 H3 e a b=>W.go i t F3 H3 e (sF2.trans a) b,fun i t F3 H3 x H4 e a b y=>W.yld i t F3 H3 x H4 e (sF2.trans a) b y,fun F3 H3 a b=>W.stop F3 H3 (sF2.trans a) b⟩
 refine wpAny_newObj_type ?_
 have hz:(s2.heap.push jK).objs.size=s2.heap.objs.size + 1:=Heap.size_push ..
 have hz2:((s2.heap.push jK).push uE).objs.size=s2.heap.objs.size + 2:=by rw [Heap.size_push,hz]
 simp only [newFunctionEnv,Option.isSome_some,if_true]
 refine wpAny_bind (wpAny_alloc ?_)
 refine wpAny_bind (wpAny_layCells _ (fun name kind cells=>by cases hkc:kind == NameKind.cell <;> simp [hkc]) _ _ _ _ ?_)
 simp only [List.forIn_nil]
 refine wpAny_bind (wpAny_pure (wpAny_pure ?_))
 have loop:codeAny (model X.prog X.w) X.A (.compLoop (.ListComp elt [⟨tg,iter,ifs,0⟩] scope pos) 0 (.ref it) (.ref s2.heap.objs.size) (gT X scope (s2.heap.objs.size + 1) (cellsFrom (s2.heap.objs.size + 2) scope.names (lQ X.env scope.names []))))
   (post (.ref s2.heap.objs.size) (s2.heap.objs.size + 1)) { s2 with heap:=h0 s2.heap scope }:=by
  have Ib:=ql (N':=N') (σ':=bT no cap σ) (tk:=s2.toks) I2 B f2 (fun b hb=>by obtain ⟨o,e,_⟩:=Tn.obj 0 _ st2 b hb; exact ⟨o,e⟩) (by simp [bT,hN]) (fun i x v a1 a2=>by
   obtain ⟨k,j,rfl,hk,hj⟩:=lP a2
   obtain ⟨x',b1,b2,b3⟩:=hcap k j hk
   rw [a1] at b1; cases b1
   exact .inl ⟨b3,j,b2,hj⟩)
  generalize hX':qX X scope N' (s2.heap.objs.size + 1) (cellsFrom (s2.heap.objs.size + 2) scope.names (lQ X.env scope.names [])) s2 H1 fp pins=X' at Ib
  have hg':SG X' tg fg:=by rw [<- hX']; exact hg _ _ _ _ _ _
  have ht':E5 X' ifs ft:=by rw [<- hX']; exact ht _ _ _ _ _ _
  have he':wj X' elt fe:=by rw [<- hX']; exact he _ _ _ _ _ _
  have xP:X'.prog=X.prog:=by rw [<- hX']; rfl
  have xw:X'.w=X.w:=by rw [<- hX']; rfl
  have xK:X'.K=X.K:=by rw [<- hX']; rfl
  have xA:X'.A=X.A:=by rw [<- hX']; rfl
  have xc:X'.calm=true:=by rw [<- hX']; exact hc
  have xx:X'.xe=fun _ _=>False:=by rw [<- hX']; rfl
  have xe':X'.env=gT X scope (s2.heap.objs.size + 1) (cellsFrom (s2.heap.objs.size + 2) scope.names (lQ X.env scope.names [])):=by rw [<- hX']; rfl
  have xex:X'.ex=fp:=by rw [<- hX']; rfl
  have xfs:X'.fs=nr X.stack:=by rw [<- hX']; rfl
  have xpn:X'.pn=X.pn ++ pins:=by rw [<- hX']; rfl
  have xs0:X'.s₀=s2:=by rw [<- hX']; rfl
  have xH0:X'.H₀=H1:=by rw [<- hX']; rfl
  have xl:X'.env.locals=s2.heap.objs.size + 1:=by rw [<- hX']; rfl
  rw [<- xe',<- xP,<- xw,<- xA]
  have hD1:H1 s2.heap.objs.size=none:=I2.fresh
  have fpk:∀ {Hc:Hp} {σc:L2.St} {pc:List (Addr × Obj)} {sc:Shared},Inv X' pc σc Hc sc -> (∀ b ∈ fp,Hc b=none) -> ∀ b ∈ fp,pJ X' [] Hc b:=fun {Hc σc pc sc} Ic hn b hb=>by
   have q1:=Ic.ok.exf b (by rw [xex]; exact hb)
   have q2:=Ic.ok.exfs b (by rw [xex]; exact hb)
   refine ⟨hn b hb,q1.1,q2,.inl (by rw [xex]; exact hb),q1.2,fun p hp=>?_⟩
   rw [xpn,List.append_nil] at hp
   exact (f2 b hb).2.2.2.2.2 p hp
  refine qu (fun n s3=>∃ i σ3 H3 F3 τ3 us vs As,Inv X' [] σ3 H3 s3 /\ tn i s3.heap /\ (∀ b ∈ fp,H3 b=none) /\ az X.K F3 H3 F3 H3 σ3 τ3 /\ bM τ3=true /\ F3 s2.heap.objs.size=none /\ H3 s2.heap.objs.size=some (.lst vs) /\ (aR X.K F3 H3 us vs As /\ As.Nodup /\ ∀ a ∈ As,H1 a=none /\ a ≠ s2.heap.objs.size) /\ aI F2 F3 /\ aI H1 H3 /\
   (∀ a o,F3 a=some o -> F2 a=some o \/ H1 a=none) /\ i ≤ ts.length /\ n=ts.length - i /\ gU fg ft fe (ts.drop i) τ3 us=some rs) ?_ ts.length ?_
  ·rintro n s3 ⟨i,σ3,H3,F3,τ3,us,vs,As,I3,st3,fr3,E3,ha3,fD,hD,⟨rv,nd,fr⟩,sF,sH,nw,hi',rfl,ec⟩
   by_cases hlt:i < ts.length
   ·have hgi:ts[i]? = some ts[i]:=List.getElem?_eq_getElem hlt
    rw [List.drop_eq_getElem_cons hlt] at ec
    obtain ⟨τ4,e4,ec⟩:=bind_some ec
    obtain ⟨⟨b,τ5⟩,e5,ec⟩:=bind_some ec
    have go:=W2.go i _ F3 H3 hgi sF E3.g.fh
    have itm:=(xP ▸ xw ▸ xK ▸ Tn:Turn X'.prog X'.w X'.K tg J fp it tn).item X' rfl rfl rfl xc i [] s3 σ3 H3 (fun _ _=>False) I3 (fpk I3 fr3) st3 go
    refine cI itm fun r s4 ⟨u,hr,h4⟩=>?_
    subst hr
    refine cI h4 fun _ s5 ⟨x,H5,I5,r5,y5,st5,fr5⟩=>?_
    have I5':=I5.pinned (fpk I5 fr5) (Tn.obj _ _ st5)
    obtain ⟨F5,gr,rx⟩:=W2.yld i _ F3 H3 x H5 hgi sF E3.g.fh y5
    have a1:=hg' F3 H3 _ s5 σ3 H5 x u (fun σ6 H6=>∃ F6,az X.K F3 H3 F6 H6 σ6 τ4 /\ aI F5 F6) I5' r5 (by rw [xK]; exact ⟨F5,τ3,ts[i],τ4,E3.grow gr,rx,e4,fun F6 H6 σ6 E6 s6=>⟨F6,E6,s6⟩⟩)
    rw [xx] at a1
    refine cI a1 fun _ s6 ⟨σ6,H6,I6,F6,E6,sF6⟩=>?_
    have a2:=ht' F3 H3 _ s6 σ6 H6 (fun b' H7=>b'=b /\ ∃ F7,az X.K F3 H3 F7 H7 σ6 τ5 /\ aI F6 F7) I6 (by rw [xK]; exact ⟨F6,τ4,b,τ5,E6,e5,fun F7 H7 E7 s7=>⟨rfl,F7,E7,s7⟩⟩)
    rw [xx] at a2
    refine cI a2 fun ok s7 ⟨H7,I7,hok,F7,E7,sF7⟩=>?_
    subst hok
    have tail:∀ {σc:L2.St} {Hc:Hp} {sc:Shared},Inv X' ([] ++ mf fp s5.heap) σc Hc sc -> tn (i + 1) sc.heap /\ ∀ b ∈ fp,Hc b=none:=fun {σc Hc sc} Ic=>by
     refine ⟨Tn.keep _ _ _ st5 fun b hb o e=>(Ic.pin (b,o) (List.mem_append_right _ (List.mem_append_right _ (fu hb e)))).1,fun b hb=>?_⟩
     obtain ⟨o,e,d⟩:=Tn.obj _ _ st5 b hb
     exact (Ic.pin (b,o) (List.mem_append_right _ (List.mem_append_right _ (fu hb e)))).2.1
    have keepD:∀ {Fc Hc:Hp} {σc:L2.St} {τc:aA},az X.K F3 H3 Fc Hc σc τc -> Fc s2.heap.objs.size=none:=fun {Fc Hc σc τc} Ec=>by
     cases eF:Fc s2.heap.objs.size with
     | none=>rfl
     | some o =>
      rcases Ec.g.nw _ o eF with z | z
      ·rw [fD] at z; cases z
      ·rw [hD] at z; cases z
    have newF:∀ {Fc Hc:Hp} {σc:L2.St} {τc:aA},az X.K F3 H3 Fc Hc σc τc -> ∀ a o,Fc a=some o -> F2 a=some o \/ H1 a=none:=fun {Fc Hc σc τc} Ec a o eF=>by
     rcases Ec.g.nw a o eF with z | z
     ·exact nw a o z
     ·exact .inr (sH.free z)
    have mv:∀ {Fc Hc Hd:Hp} {σc:L2.St} {τc:aA},az X.K F3 H3 Fc Hc σc τc -> (∀ a,a ≠ s2.heap.objs.size -> Hd a=Hc a) -> aR X.K Fc Hd us vs As:=fun {Fc Hc Hd σc τc} Ec hd=>by
     refine aR.move Ec.g.sF (fun a ha=>?_) rv
     obtain ⟨f1,ws,f2⟩:=rv.at a ha
     refine ⟨by rw [hd a (fr a ha).2,Ec.g.sH _ _ f2,f2],?_⟩
     cases eF:Fc a with
     | none=>rfl
     | some o =>
      rcases Ec.g.nw _ o eF with z | z
      ·rw [f1] at z; cases z
      ·rw [f2] at z; cases z
    cases b':ok with
    | false =>
     subst b'
     dsimp only at ec
     rw [if_neg (by decide)] at ec
     split at ec
     ·next ha =>
      rw [if_neg (by decide)]
      obtain ⟨t1,t2⟩:=tail I7
      exact ⟨ts.length - (i + 1),by omega,i + 1,σ6,H7,F7,τ5,us,vs,As,I7.unpinned,t1,t2,E7.rebase ha E7.g.fh,ha,keepD E7,E7.g.sH _ _ hD,⟨mv E7 (fun _ _=>rfl),nd,fr⟩,sF.trans E7.g.sF,sH.trans E7.g.sH,newF E7,hlt,rfl,ec⟩
     ·cases ec
    | true =>
     subst b'
     dsimp only at ec
     rw [if_pos rfl] at ec
     rw [if_pos rfl]
     obtain ⟨⟨y0,τ6⟩,e6,ec⟩:=bind_some ec
     dsimp only at ec
     split at ec
     ·next ha =>
      have a3:=he' F3 H3 _ s7 σ6 H7 (fun y H8=>∃ F8 Ay,az X.K F3 H3 F8 H8 σ6 τ6 /\ bW X.K F8 H8 y0 y Ay /\ Ay.Nodup /\ ∀ a ∈ Ay,H3 a=none) I7 (by rw [xK]; exact ⟨F7,τ5,y0,τ6,E7,e6,fun F8 H8 y Ay E8 s8 r8 n8 h8 _=>⟨F8,Ay,E8,r8,n8,h8⟩⟩)
      rw [xx] at a3
      refine cI a3 fun yv s8 ⟨y,H8,I8,ry,F8,Ay,E8,rp,ndy,hy8⟩=>?_
      have dD:H8 s2.heap.objs.size=some (.lst vs):=E8.g.sH _ _ hD
      have a4:=ic (X:=X') _ s8 σ6 H8 (.ref s2.heap.objs.size) [y] (.ref s2.heap.objs.size) [yv] (fun _ H9=>H9=upd H8 s2.heap.objs.size (.lst (vs ++ [y]))) I8 rfl (.cons ry .nil) ⟨s2.heap.objs.size,vs,y,rfl,rfl,dD,by rw [rv.length]; exact ha.2,rfl⟩
      rw [xx] at a4
      refine cI a4 fun _ s9 ⟨_,H9,I9,_,e9⟩=>?_
      subst e9
      obtain ⟨t1,t2⟩:=tail I9
      have kD:=keepD E8
      have sm:aI F8 (upd H8 s2.heap.objs.size (.lst (vs ++ [y]))):=fun c o z=>by rw [aE (fun w=>by subst w; rw [kD] at z; cases z)]; exact E8.g.fh _ _ z
      have sm1:aI H1 (upd H8 s2.heap.objs.size (.lst (vs ++ [y]))):=fun c o z=>by rw [aE (fun w=>by subst w; rw [hD1] at z; cases z)]; exact E8.g.sH _ _ (sH _ _ z)
      have yD:∀ a ∈ Ay,a ≠ s2.heap.objs.size:=fun a ha z=>by have:=hy8 a ha; rw [z,hD] at this; cases this
      have rp9:bW X.K F8 (upd H8 s2.heap.objs.size (.lst (vs ++ [y]))) y0 y Ay:=bW.move (aI.refl _) (fun a ha=>⟨aE (yD a ha),(rp.at a ha).1⟩) rp
      have all9:aR X.K F8 (upd H8 s2.heap.objs.size (.lst (vs ++ [y]))) (us ++ [y0]) (vs ++ [y]) (As ++ Ay):=(mv E8 (fun a ha=>aE ha)).app (.one rp9)
      have nd9:(As ++ Ay).Nodup:=List.nodup_append.mpr ⟨nd,ndy,fun a ha b hb z=>by subst z; obtain ⟨_,ws,f2⟩:=rv.at a ha; rw [hy8 a hb] at f2; cases f2⟩
      have fr9:∀ a ∈ As ++ Ay,H1 a=none /\ a ≠ s2.heap.objs.size:=fun a ha=>by
       rcases List.mem_append.mp ha with ha | ha
       ·exact fr a ha
       ·exact ⟨sH.free (hy8 a ha),yD a ha⟩
      exact ⟨ts.length - (i + 1),by omega,i + 1,σ6,_,F8,τ6,us ++ [y0],vs ++ [y],As ++ Ay,I9.unpinned,t1,t2,E8.rebase ha.1 sm,ha.1,kD,aN,⟨all9,nd9,fr9⟩,sF.trans E8.g.sF,sm1,newF E8,hlt,rfl,ec⟩
     ·cases ec
   ·have hie:i=ts.length:=by omega
    subst hie
    rw [List.drop_length] at ec
    cases ec
    have dn:=(xP ▸ xw ▸ xK ▸ Tn:Turn X'.prog X'.w X'.K tg J fp it tn).done X' rfl rfl rfl xc ts.length [] s3 σ3 H3 (fun _ _=>False) I3 (fpk I3 fr3) st3 (W2.stop F3 H3 sF E3.g.fh)
    refine cI dn fun r s4 ⟨hr,I4⟩=>?_
    subst hr
    obtain ⟨m4,hm4,_⟩:=I4.loc
    rw [xl] at hm4
    have un:=I4.base
    rw [xfs,xex,xH0,xs0] at un
    have ox:=I4.os
    rw [xs0] at ox
    have hok4:=I4.hok
    rw [xP,xw] at hok4
    have IX:Inv X pins σ H3 s4:=I2.call' ox un hok4 I4.bare fun b hb=>⟨(f2 b hb).2.2.2.1,(f2 b hb).2.1,(f2 b hb).2.2.2.2.1,(f2 b hb).2.2.2.2.2⟩
    have hC:H3 (s2.heap.objs.size + 1)=none:=by have:=I4.free; rw [xl] at this; exact this
    have lC:@LT.lt Nat _ X.env.locals s2.heap.objs.size:=I2.lt
    have gr:aX F2 H1 F3 H3:=⟨sF,sH,E3.g.fh,nw⟩
    have ap3:Apart σ (frzAll cap τ1) As:=fun j us p j1 j2 m=>by
     obtain ⟨v,k1,p',vs',rfl,k2,_⟩:=E2.sl j _ j1
     rw [j2] at k1; cases k1
     rw [(fr _ m).1] at k2; cases k2
    refine hpost _ _ _ ⟨⟨H3,F3,vs,As,IX,E2.grow gr,(sF1.trans sF2).trans sF,fD,hD,E2.g.sH.free hD1,rv,nd,fun a ha=>⟨E2.g.sH.free (fr a ha).1,(fr a ha).2⟩,ap3,hC⟩,⟨m4,hm4⟩,Nat.ne_of_gt (Nat.lt_succ_of_lt lC),Nat.le_trans I2.sz (Nat.le_succ _),
     fun x c hxc=>by obtain ⟨v,z⟩:=I2.cell x c hxc; exact Nat.ne_of_lt (Nat.lt_succ_of_lt z.lt),fun p hp=>Nat.ne_of_lt (Nat.lt_succ_of_lt (Heap.lt_size (I2.pin p hp).1)),fun j us p j1 j2=>?_⟩
    obtain ⟨v,k1,p',vs',rfl,k2,_⟩:=E2.sl j _ j1
    rw [j2] at k1; cases k1
    exact bq k2 hD1
  ·refine ⟨0,bT no cap σ,upd H1 s2.heap.objs.size (.lst []),F2,bT no cap (frzAll cap τ1),[],[],[],Ib,Tn.keep _ _ _ st2 fun b hb o e=>fY e,fun b hb=>?_,E2.block ha (E2.g.fh.trans (bO hD1)),ha,E2.g.fh.free hD1,aN,⟨⟨rfl,rfl⟩,List.nodup_nil,fun a ha=>by cases ha⟩,aI.refl _,bO hD1,fun a o z=>.inl z,Nat.zero_le _,rfl,e3⟩
   obtain ⟨o,e,_⟩:=Tn.obj 0 _ st2 b hb
   rw [aE (Nat.ne_of_lt (Heap.lt_size e))]
   exact (f2 b hb).1
 have fin:∀ {C:Addr} {cs:List (Str × Addr)},C=s2.heap.objs.size + 1 -> cs=cellsFrom (s2.heap.objs.size + 2) scope.names (lQ X.env scope.names []) ->
   codeAny (model X.prog X.w) X.A (.compStart (.ListComp elt [⟨tg,iter,ifs,0⟩] scope pos) 0 (.ref it) (.ref s2.heap.objs.size) (gT X scope C cs)) (post (.ref s2.heap.objs.size) C) { s2 with heap:=h0 s2.heap scope }:=fun {C cs} h1 h2=>by
  subst h1 h2
  exact codeAny_compStart_list loop (Tn.self _ 0 _ _ _ (Tn.keep _ _ _ st2 fun b hb o e=>fY e) loop)
 exact fin hz (by rw [<- hz2])
def eu (no:Nat) (cap:List Nat) (fi:FA) (fg:FG) (ft:FT) (fe:lH):lH:=fun τ=>(fi τ).bind fun p =>
 if bM (bT no cap (frzAll cap p.2))=true then (gU fg ft fe p.1 (bT no cap (frzAll cap p.2)) []).bind fun us=>some (.lst us,frzAll cap p.2) else none
theorem nO.fin {pins:List (Addr × Obj)} {σ:L2.St} {F₀ H₀ F:Hp} {τ:aA} {rs:List O} {D C:Addr} {s:Shared} (Z:nO X pins σ F₀ H₀ F τ rs D C s) :
  ∃ (H F3:Hp) (As:List Addr),Inv X pins σ H s /\ az X.K F₀ H₀ F3 H σ τ /\ aI F F3 /\ bW X.K F3 H (.lst rs) (.ref D) As /\ As.Nodup /\ (∀ a ∈ As,H₀ a=none) /\ Apart σ τ As /\ H C=none:=by
 obtain ⟨H,F3,vs,As,IX,E3,sF,fD,hD,h0D,rv,nd,h0,ap,hC⟩:=Z.ex
 refine ⟨H,F3,D :: As,IX,E3,sF,⟨D,vs,As,rfl,rfl,hD,fD,rv⟩,List.nodup_cons.mpr ⟨fun m=>(h0 D m).2 rfl,nd⟩,fun a ha=>?_,fun j us p e1 e2 m=>?_,hC⟩
 ·rcases List.mem_cons.mp ha with rfl | ha
  ·exact h0D
  ·exact (h0 a ha).1
 ·rcases List.mem_cons.mp m with rfl | m
  ·exact Z.ow j us _ e1 e2 rfl
  ·exact ap j us p e1 e2 m
theorem jw {elt tg iter:Expr} {ifs:List Expr} {scope:Scope} {pos:Pos} {N':List Str} {no:Nat} {cap:List Nat} {fi:FA} {fg:FG} {ft:FT} {fe:lH} (hx:X.xe=fun _ _=>False) (hc:X.calm=true) (B:gi X scope) (hN:N'.length=no + cap.length)
  (hcap:∀ (k j:Nat),cap[k]? = some j -> ∃ x,N'[no + k]? = some x /\ X.N[j]? = some x /\ (x,NameKind.free) ∈ scope.names) (hi:SI X tg iter fi)
  (hg:∀ C cs s₀ H₀ fp pins,SG (qX X scope N' C cs s₀ H₀ fp pins) tg fg) (ht:∀ C cs s₀ H₀ fp pins,E5 (qX X scope N' C cs s₀ H₀ fp pins) ifs ft) (he:∀ C cs s₀ H₀ fp pins,wj (qX X scope N' C cs s₀ H₀ fp pins) elt fe)
  (hs:∀ x,foldedSetIterable iter X.env x=pure x:=by intro _; rfl):wj X (.ListComp elt [⟨tg,iter,ifs,0⟩] scope pos) (eu no cap fi fg ft fe):=by
 intro F₀ H₀ pins s σ H Q I ⟨F,τ,t,τ',E,e1,q⟩
 obtain ⟨⟨ts,τ1⟩,e2,e1⟩:=bind_some e1
 dsimp only at e1
 split at e1
 ·next ha =>
  obtain ⟨rs,e3,e1⟩:=bind_some e1
  cases e1
  have hfree:∀ y ∈ scope.names,y.2=.free -> ∃ c,X.env.cells.lookup y.1=some c:=fun y hy hk=>I.ok.has y.1 (B.free y hy hk).1
  rw [eval_ListComp]
  refine wpAny_comprehension_free (use:=none) rfl hs (jS hfree) B.kind B.names (wB hx hc B hN hcap hi hg ht he I E e2 ha e3 fun D C s' Z=>?_)
  obtain ⟨H3,F3,As,IX,E3,sF,ro,nd,h0,ap,hC⟩:=Z.fin
  obtain ⟨m,hm⟩:=Z.ns
  refine ⟨m,hm,fun h' sb=>⟨.ref D,H3,IX.turned (t':=s'.toks) (it:=C) (fun b o hb e=>(sb.2 b hb).trans e) hC Z.cl (.inr Z.c0) Z.cc Z.cp,rfl,?_⟩⟩
  exact q F3 H3 (.ref D) As E3 sF ro nd h0 ap
 ·cases e1
end
open PySem PySem.Spec PyProof.Rows L2
def jd (H:Hp) (A:List Addr):Hp:=fun a=>if a ∈ A then none else H a
theorem jB {H:Hp} {A:List Addr} {a:Addr} (h:a ∈ A):jd H A a=none:=if_pos h
theorem bY {H:Hp} {A:List Addr} {a:Addr} (h:a ∉ A):jd H A a=H a:=if_neg h
theorem zT {H:Hp} {A:List Addr}:aI (jd H A) H:=fun a o e=>by
 by_cases m:a ∈ A
 ·rw [jB m] at e; cases e
 ·rw [bY m] at e; exact e
def Mb (K:PySem.W.Frag) (n:Nat) (d:O -> List T -> Option T):Sp:=fun vs H Q _=>vs.length=n /\ ∃ F o v ws ts A t,aI F H /\ vs=v :: ws /\ bW K F H o v A /\ A.Nodup /\ aP K F ts ws /\ d o ts=some t /\
 ∀ F' H' v',aX F (jd H A) F' H' -> Rep K F' t v' -> Q v' H'
structure zI (P:Program) (w:World) (K:PySem.W.Frag) (mg:Str -> Option Value) (base:Heap) (k:Nat) (x:Str) (n:Nat) (d:O -> List T -> Option T):Prop where
 ex:∃ f fd ps,eU P w K mg base nN k f fd ps (Mb K n d) /\ Binds K fd ps [] /\ PySem.W.keepIn K (.ref f)=true /\ mg x=some (.ref f) /\ ps.length=n
theorem zI.imp {P:Program} {w:World} {K:PySem.W.Frag} {mg:Str -> Option Value} {base:Heap} {k n:Nat} {x:Str} {d d':O -> List T -> Option T} (D:zI P w K mg base k x n d) (h:∀ o ts t,d' o ts=some t -> d o ts=some t):zI P w K mg base k x n d':=by
 obtain ⟨f,fd,ps,F,r⟩:=D.ex
 exact ⟨f,fd,ps,F.imp fun vs H Q E ⟨l,F,o,v,ws,ts,A,t,a,b,c,nd,r,e,q⟩=>⟨l,F,o,v,ws,ts,A,t,a,b,c,nd,r,h _ _ _ e,q⟩,r⟩
theorem zI.mono {P:Program} {w:World} {K:PySem.W.Frag} {mg:Str -> Option Value} {base:Heap} {j k n:Nat} {x:Str} {d:O -> List T -> Option T} (D:zI P w K mg base j x n d) (h:j ≤ k):zI P w K mg base k x n d:=by
 obtain ⟨f,fd,ps,F,r⟩:=D.ex
 exact ⟨f,fd,ps,F.mono h,r⟩
section
variable {K:PySem.W.Frag} {F₀ H₀ F₁ H₁ F H F' H':Hp} {σ:L2.St} {τ:aA}
theorem az.back (E:az K F₁ H₁ F H σ τ) (ha:bM τ=true) (g:aX F₀ H₀ F₁ H₁):az K F₀ H₀ F H σ τ:=by
 refine ⟨g.trans E.g,E.len,fun i sl e=>?_,fun i j ts us p _ e1=>absurd e1 (df ha)⟩
 obtain ⟨v,h1,h2⟩:=E.sl i sl e
 cases sl with
 | sh t=>exact ⟨v,h1,h2⟩
 | own ts=>exact absurd e (df ha)
theorem az.to (E:az K F₁ H₁ F H σ τ) (ha:bM τ=true) (sF:aI F F') (g:aX F₀ H₀ F' H'):az K F₀ H₀ F' H' σ τ:=by
 refine ⟨g,E.len,fun i sl e=>?_,fun i j ts us p _ e1=>absurd e1 (df ha)⟩
 obtain ⟨v,h1,h2⟩:=E.sl i sl e
 cases sl with
 | sh t=>exact ⟨v,h1,Rep.mono sF h2⟩
 | own ts=>exact absurd e (df ha)
theorem bW.over {o:O} {v:V} {A:List Addr} (g:aX F H F' H') (h:bW K F H o v A):bW K F' H' o v A:=by
 refine bW.move g.sF (fun a ha=>?_) h
 obtain ⟨f1,ws,f2⟩:=h.at a ha
 refine ⟨by rw [g.sH _ _ f2,f2],?_⟩
 cases eF:F' a with
 | none=>rfl
 | some o =>
  rcases g.nw _ o eF with z | z
  ·rw [f1] at z; cases z
  ·rw [f2] at z; cases z
end
section
variable {X:Cx} {e:Expr} {f:FE} {ft:FT} {es:List Expr} {g:FA}
theorem SE.any (h:SE X e f):PE X e (fun σ H Q=>∃ F₀ H₀,tE X.K F₀ H₀ f σ H Q):=fun pins s σ H Q I ⟨F₀,H₀,q⟩=>h F₀ H₀ pins s σ H Q I q
theorem ST.any (h:ST X e ft):PT X e (fun σ H Q=>∃ F₀ H₀,tT X.K F₀ H₀ ft σ H Q):=fun pins s σ H Q I ⟨F₀,H₀,q⟩=>h F₀ H₀ pins s σ H Q I q
theorem SA.any (h:SA X es g):PA X es (fun σ H Q=>∃ F₀ H₀,tA X.K F₀ H₀ g σ H Q):=fun p pins s σ H Q I ⟨F₀,H₀,q⟩=>h F₀ H₀ p pins s σ H Q I q
theorem qS.any {ss:List Stmt} {fs:FS} (h:qS X ss fs):iX X ss (fun D σ H=>∃ F₀ H₀,tS X.K F₀ H₀ fs D σ H):=fun pins s σ H D I ⟨F₀,H₀,q⟩=>h F₀ H₀ pins s σ H D I q
end
open PySem PySem.Spec PyProof.Rows L2
section
variable {X:Cx}
def boolsOf:List T -> Option (List Bool)
 | []=>some []
 | .bl b :: r=>(boolsOf r).bind fun bs=>some (b :: bs)
 | _=>none
def pM:List T -> Option T
 | [.lst ts]=>(boolsOf ts).bind fun bs=>some (.bl (bs.all id))
 | _=>none
theorem qm {K:PySem.W.Frag} {F:Hp}:∀ {ts:List T} {bs:List Bool} {vs:List V} {its:List Value},boolsOf ts=some bs -> aP K F ts vs -> Vals vs its -> its=bs.map Value.bool
 | [],bs,vs,its,e,r,z=>by
  cases e; cases r; cases z; rfl
 | t :: ts,bs,vs,its,e,r,z=>by
  obtain ⟨v,rr,rfl,h1,h2⟩:=r
  unfold boolsOf at e
  split at e
  ·next he=>cases he
  ·next b r0 he =>
   cases he
   obtain ⟨bs',e1,e2⟩:=bind_some e
   cases e2
   cases h1
   cases z with
   | cons rz zz =>
    cases rz
    rw [qm e1 h2 zz]
    rfl
  ·cases e
theorem DM {s:Shared} {h':Heap} {o:Obj} (hk:∀ b x,b ∉ [s.heap.objs.size] -> (s.heap.push o).get? b=some x -> h'.get? b=some x):∀ b x,s.heap.get? b=some x -> h'.get? b=some x:=
 fun b x e=>hk b x (fun hm=>by rw [List.mem_singleton.mp hm] at e; exact Nat.lt_irrefl _ (Heap.lt_size e)) (Heap.get?_push_of_some _ e)
theorem range_all (bs:List Bool):((List.range bs.length).all fun i=>(bs[i]?).getD true)=bs.all id:=by
 induction bs with
 | nil=>rfl
 | cons b bs ih =>
  rw [List.length_cons,List.range_succ_eq_map,List.all_cons,List.all_map]
  simp only [List.all_cons,List.getElem?_cons_zero,Option.getD_some,id]
  rw [<- ih]
  congr 1
theorem AZ (hc:X.calm=true):hU X (.builtin "all") pM:=by
 intro pins s σ H xs us Q I rx ⟨F,ts,t,sm,r,e,q⟩
 unfold pM at e
 split at e
 ·next ts =>
  obtain ⟨bs,e1,e2⟩:=bind_some e
  cases e2
  obtain ⟨v,rr,rfl,⟨p,vs,rfl,h1,h2⟩,rfl⟩:=r
  obtain ⟨u,rfl,ru⟩:=Vals.one rx
  cases ru
  obtain ⟨its,rv,pl,hz⟩:=I.list (gE.of (sm _ _ h1))
  have hb:=qm e1 h2 rv
  subst hb
  have hl:=pl.isList
  have hlt:@LT.lt Nat _ p s.heap.objs.size:=by obtain ⟨_,e,_⟩:=hl; exact Heap.lt_size e
  refine call_all_walk (wpAny_pyIter_list hl ?_)
  refine ⟨s.heap.objs.size,[s.heap.objs.size,p],[s.heap.objs.size],(bs.map Value.bool).toArray.size,_,_,fun i=>(bs[i]?).getD true,rfl,PySem.Walks.list (A:=X.A.in1) (I.ok.hd hc) _ p (Nat.ne_of_lt hlt) (bs.map Value.bool).toArray,
   ⟨⟨_,Heap.get?_push_size _ rfl,rfl,rfl⟩,hl.push _⟩,fun i v s' Q' E' hP hQ=>?_,fun h' tk hk=>?_⟩
  ·have hP':(bs.map Value.bool)[i]? = some v:=by simpa using hP
   rw [List.getElem?_map] at hP'
   cases eb:bs[i]? with
   | none=>rw [eb] at hP'; cases hP'
   | some b =>
    rw [eb] at hP'
    have:v=.bool b:=(Option.some.inj hP').symm
    subst this
    simp only [eb,Option.getD_some] at hQ
    exact wpAny_truthy_bool hQ
  ·have e:((List.range (bs.map Value.bool).toArray.size).all fun i=>(bs[i]?).getD true)=bs.all id:=by
    rw [List.size_toArray,List.length_map]
    exact range_all bs
   rw [e]
   exact ⟨.bl _,H,I.kept (t':=tk) (DM hk),rfl,q F H _ (aX.refl sm) rfl⟩
 ·cases e
def dt:List T -> Option T
 | [.lst ts]=>some (.tup ts)
 | [.tup ts]=>some (.tup ts)
 | _=>none
theorem gq:hU X (.type "tuple") dt:=gk pL fun vs H Q hq__=>by
 obtain ⟨F,ts,t,sm,r,e,q⟩:=hq__
 unfold dt at e
 split at e
 ·obtain ⟨v,rr,rfl,⟨p,xs,rfl,h1,h2⟩,rfl⟩:=r
  cases e
  refine ⟨p,xs,rfl,.inl ⟨gE.of (sm _ _ h1),fun l hl=>?_⟩⟩
  have gr:=aX.new (.tup xs) sm hl
  exact q _ _ _ gr ⟨l,xs,rfl,jP.of aN,aP.mono gr.sF h2⟩
 ·obtain ⟨v,rr,rfl,⟨p,xs,rfl,h1,h2⟩,rfl⟩:=r
  cases e
  exact ⟨p,xs,rfl,.inr ⟨bI sm h1,q F H _ (aX.refl sm) ⟨p,xs,rfl,h1,h2⟩⟩⟩
 ·cases e
theorem DV:EY X "int.bit_length" (fun x vs H Q=>∃ i,x=.int i /\ vs=[] /\ Q (.int (Builtin.Int.intBits i)) H):=by
 intro pins s σ H x vs v us Q I rx rv ⟨i,hx,hvs,q⟩
 subst hx; subst hvs
 obtain ⟨t,rfl⟩:=rx
 have:=rv.zero
 subst this
 exact PyProof.Rows.call_int_bit_length ⟨.int _,H,I.tok _,⟨_,rfl⟩,q⟩
def iO:T -> Option T
 | .int i=>some (.int (Builtin.Int.intBits i))
 | _=>none
theorem jF {e:Expr} {f:FE} {p2 p3:Pos} (he:SE X e f) (hbase:attributeBase e "bit_length" X.env (eval e X.env)=eval e X.env:=by rfl) (hline:(p2.endLine == p3.line)=true:=by rfl) :
  SE X (.Call (.Attribute e "bit_length" p2) [] [] p3) (mT iO f):=fun F₀ H₀ =>
 PE.weak (G6 PySem.F.plainAttrs_int PySem.F.slot_int_bit_length PySem.F.type_int_bit_length DV (he F₀ H₀) hbase hline) fun σ H Q hq__=>by
  obtain ⟨F,τ,t,τ',E,e1,q⟩:=hq__
  obtain ⟨⟨x,τ1⟩,e2,e1⟩:=bind_some e1
  obtain ⟨z,e4,e1⟩:=bind_some e1
  cases e1
  refine ⟨F,τ,x,_,E,e2,fun F1 H1 v1 E1 s1 r1=>?_⟩
  dsimp only at e4
  unfold iO at e4
  split at e4
  ·cases e4; cases r1
   exact ⟨rfl,_,rfl,rfl,q F1 H1 _ E1 s1 rfl⟩
  ·cases e4
theorem ie {x:Str} {i:Int} {t:Tok} {pos:Pos} (hg:Gl X x) (hm:X.mg x=some (.int i t)) (hd:(x == ("__debug__" : Str))=false:=by decide):SE X (.Name x pos) (fC (.int i)):=gD (tx (v:=.int i) hg hm ⟨_,rfl⟩ hd) fun _=>rfl
def bf (f:FE):FA:=fun τ=>(f τ).bind fun p=>match p.1 with | .lst ts=>some (ts,p.2) | .scr ts=>some (ts,p.2) | .tup ts=>some (ts,p.2) | _=>none
theorem cM {tg l:Expr} {f:FE} (h:SE X l f):SI X tg l (bf f):=by
 intro F₀ H₀ pins s σ H R I ⟨F,τ,ts,τ',E,e1,q⟩
 obtain ⟨⟨x,τ1⟩,e2,e1⟩:=bind_some e1
 dsimp only at e1
 split at e1
 ·exact zp h F₀ H₀ pins s σ H R I ⟨F,τ,ts,τ',E,by unfold wN; rw [e2]; exact e1,q⟩
 ·exact zp h F₀ H₀ pins s σ H R I ⟨F,τ,ts,τ',E,by unfold wN; rw [e2]; exact e1,q⟩
 ·exact Hu h F₀ H₀ pins s σ H R I ⟨F,τ,ts,τ',E,by unfold Bn; rw [e2]; exact e1,q⟩
 ·cases e1
end
theorem Dx {P:Program} {w:World} {K:PySem.W.Frag} {mg:Str -> Option Value} {base:Heap} {x qual:Str} {st:Stmt} {f:Addr} {fd:FuncData} {N ps:List Str} {k:Nat} {fb:FS} (F:eR K x qual st f fd) (S:aL N ps (av st))
  (h:∀ (cdv:Value) (A:Around) (outer:List Env) (s:Shared) (H:Hp) (E:XK),cY k (A.deeper (envOfC qual (av st) s.heap.objs.size f cdv)) -> qS (lS nN P w K mg base N qual (av st) f cdv A outer s H E).nox (cQ st) fb) :
  eU P w K mg base nN (k + 1) f fd ps (spT K ps.length (bX N.length ps.length fb)):=by
 refine F.ok S (fun vs H Q E z=>z.1) (fun cdv A outer s H vs Q E hr z=>?_)
 obtain ⟨hl,F1,ts,t,sm,r,e,q⟩:=z
 unfold bX at e
 split at e
 ·next hn =>
  obtain ⟨r',e1,e⟩:=bind_some e
  refine ⟨_,h cdv A outer s H E hr F1 H,F1,_,r',?_,e1,?_⟩
  ·have:=gf (N:=N) sm r
   rw [hn] at this
   exact this
  ·cases r' with
   | rt u=>cases e; exact fun F' H' v g r'=>q F' H' v g r'
   | nx τ=>cases e; exact fun F' H' σ' E' s'=>q F' H' .non E'.g rfl
   | bk τ=>cases e
   | ct τ=>cases e
 ·cases e
open PySem PySem.Spec PyProof.Rows L2
theorem SS.any {X:Cx} {st:Stmt} {fs:FS} (h:SS X st fs):PS X st (fun D σ H=>∃ F₀ H₀,tS X.K F₀ H₀ fs D σ H):=fun pins s σ H D I ⟨F₀,H₀,q⟩=>h F₀ H₀ pins s σ H D I q
structure dE (K:PySem.W.Frag) (F0 H0 F H:Hp) (p:Addr) (os:List O) (A:List Addr):Prop where
 g:aX F0 H0 F H
 r:bW K F H (.lst os) (.ref p) A
 nd:A.Nodup
 h0:∀ a ∈ A,H0 a=none
section
variable {K:PySem.W.Frag} {F0 H0 F H F1 H1:Hp} {p:Addr} {os:List O} {A:List Addr}
theorem dE.hp (S:dE K F0 H0 F H p os A) (s:aI H H1):dE K F0 H0 F H1 p os A:=
 ⟨⟨S.g.sF,S.g.sH.trans s,S.g.fh.trans s,S.g.nw⟩,bW.move (aI.refl _) (fun a ha=>by obtain ⟨f1,ws,f2⟩:=S.r.at a ha; exact ⟨by rw [s _ _ f2,f2],f1⟩) S.r,S.nd,S.h0⟩
theorem dE.over (S:dE K F0 H0 F H p os A) (g:aX F H F1 H1):dE K F0 H0 F1 H1 p os A:=⟨S.g.trans g,S.r.over g,S.nd,S.h0⟩
theorem dE.root (S:dE K F0 H0 F H p os A):∃ vs B,A=p :: B /\ H p=some (.lst vs) /\ F p=none /\ aR K F H os vs B:=by
 obtain ⟨p',vs,B,e,rfl,h1,h2,h3⟩:=S.r
 cases e
 exact ⟨vs,B,rfl,h1,h2,h3⟩
theorem dE.fin (S:dE K F0 H0 F H p os A):∃ F',aX F0 H0 F' H /\ Rep K F' (.lst (O.trs os)) (.ref p):=
 ⟨frzO F H A,S.g.frzO (fun a ha=>(S.r.at a ha).1) S.h0,S.r.frz⟩
theorem EA {α:Type} (a:List α) (x y:α) (b:List α):(a ++ x :: b).set a.length y=a ++ y :: b:=by
 rw [List.set_append_right _ _ (Nat.le_refl _),Nat.sub_self,List.set_cons_zero]
theorem zl {os:List O} {j:Nat} {o:O} (o':O) (e:os[j]? = some o):os.set j o'=os.take j ++ ([o'] ++ os.drop (j + 1)):=by
 rw [List.set_eq_take_append_cons_drop,if_pos (List.getElem?_eq_some_iff.mp e).1]
 rfl
theorem dE.put (S:dE K F0 H0 F H p os A) {j:Nat} {o:O} {vs:List V} {t:T} {v:V} (e:os[j]? = some o) (hp:H p=some (.lst vs)) (r:Rep K F t v):∃ A',dE K F0 H0 F (upd H p (.lst (vs.set j v))) p (os.set j (.val t)) A':=by
 obtain ⟨vs',B,rfl,h1,h2,h3⟩:=S.root
 rw [hp] at h1; cases h1
 obtain ⟨ws,v0,xs,B1,C,D,rfl,rfl,rfl,g1,g2,g3⟩:=h3.split e
 have nd:=List.nodup_cons.mp S.nd
 have mv:∀ {us:List O} {zs:List V} {E:List Addr},(∀ a ∈ E,a ∈ B1 ++ (C ++ D)) -> aR K F H us zs E -> aR K F (upd H p (.lst ((ws ++ v0 :: xs).set ws.length v))) us zs E:=fun sub h=>aR.move (aI.refl _) (fun a ha=>⟨aE (fun z=>nd.1 (z ▸ sub a ha)),(h.at a ha).1⟩) h
 have s1:∀ a ∈ B1,a ∈ B1 ++ (C ++ D):=fun a ha=>List.mem_append_left _ ha
 have s2:∀ a ∈ D,a ∈ B1 ++ (C ++ D):=fun a ha=>List.mem_append_right _ (List.mem_append_right _ ha)
 have p0:H0 p=none:=S.h0 p List.mem_cons_self
 refine ⟨p :: (B1 ++ ([] ++ D)),⟨⟨S.g.sF,fun a o' ha=>?_,fun a o' ha=>?_,S.g.nw⟩,⟨p,_,_,rfl,rfl,aN,h2,?_⟩,?_,fun a ha=>?_⟩⟩
 ·rw [aE (fun z=>by subst z; rw [p0] at ha; cases ha)]; exact S.g.sH _ _ ha
 ·rw [aE (fun z=>by subst z; rw [h2] at ha; cases ha)]; exact S.g.fh _ _ ha
 ·rw [zl (.val t) e]
  have all:=(mv s1 g1).app ((aR.one (K:=K) (F:=F) (H:=upd H p (.lst ((ws ++ v0 :: xs).set ws.length v))) (o:=.val t) ⟨rfl,r⟩).app (mv s2 g3))
  have e2:(ws ++ v0 :: xs).set ws.length v=ws ++ ([v] ++ xs):=EA ws v0 v xs
  rw [<- e2] at all
  exact all
 ·refine List.nodup_cons.mpr ⟨fun m=>nd.1 ?_,?_⟩
  ·rcases List.mem_append.mp m with m | m
   ·exact s1 _ m
   ·exact s2 _ m
  ·rw [List.nil_append]
   obtain ⟨n1,n2,n3⟩:=List.nodup_append.mp nd.2
   obtain ⟨n4,n5,n6⟩:=List.nodup_append.mp n2
   exact List.nodup_append.mpr ⟨n1,n5,fun a ha b hb=>n3 a ha b (List.mem_append_right _ hb)⟩
 ·rcases List.mem_cons.mp ha with rfl | ha
  ·exact p0
  ·refine S.h0 a (List.mem_cons_of_mem _ ?_)
   rcases List.mem_append.mp ha with m | m
   ·exact s1 _ m
   ·exact s2 _ m
theorem dE.more (S:dE K F0 H0 F H p os A) {vs:List V} {t:T} {v:V} (hp:H p=some (.lst vs)) (r:Rep K F t v):dE K F0 H0 F (upd H p (.lst (vs ++ [v]))) p (os ++ [.val t]) A:=by
 obtain ⟨vs',B,rfl,h1,h2,h3⟩:=S.root
 rw [hp] at h1; cases h1
 have nd:=List.nodup_cons.mp S.nd
 have p0:H0 p=none:=S.h0 p List.mem_cons_self
 refine ⟨⟨S.g.sF,fun a o' ha=>?_,fun a o' ha=>?_,S.g.nw⟩,⟨p,_,_,rfl,rfl,aN,h2,?_⟩,S.nd,S.h0⟩
 ·rw [aE (fun z=>by subst z; rw [p0] at ha; cases ha)]; exact S.g.sH _ _ ha
 ·rw [aE (fun z=>by subst z; rw [h2] at ha; cases ha)]; exact S.g.fh _ _ ha
 ·have m1:aR K F (upd H p (.lst (vs ++ [v]))) os vs B:=aR.move (aI.refl _) (fun a ha=>⟨aE (fun z=>nd.1 (z ▸ ha)),(h3.at a ha).1⟩) h3
  have all:=m1.app (aR.one (K:=K) (F:=F) (H:=upd H p (.lst (vs ++ [v]))) (o:=.val t) ⟨rfl,r⟩)
  rw [List.append_nil] at all
  exact all
def nW:List O -> Bool
 | []=>true
 | .val _ :: r=>nW r
 | _ :: _=>false
theorem aR.plain:∀ {ro:List O} {ws:List V} {C:List Addr},nW ro=true -> aR K F H ro ws C -> C=[] /\ aP K F (O.trs ro) ws
 | [],ws,C,_,h=>⟨h.2,h.1⟩
 | .val t :: r,ws,C,ha,h=>by
  obtain ⟨v,q,B,D,rfl,rfl,⟨rfl,h1⟩,h2⟩:=h
  obtain ⟨rfl,h3⟩:=aR.plain (ro:=r) ha h2
  exact ⟨rfl,v,q,rfl,h1,h3⟩
 | .lst _ :: r,ws,C,ha,h=>by cases ha
theorem dE.row (S:dE K F0 H0 F H p os A) {j:Nat} {ro:List O} (e:os[j]? = some (.lst ro)) (ha:nW ro=true):∃ vs q ws,H p=some (.lst vs) /\ vs[j]? = some (.ref q) /\ H q=some (.lst ws) /\ aP K F (O.trs ro) ws /\ vs.length=os.length:=by
 obtain ⟨vs,B,rfl,h1,h2,h3⟩:=S.root
 have hl:=h3.length
 obtain ⟨ws,v0,xs,B1,C,D,rfl,rfl,rfl,g1,⟨q,zs,C',rfl,rfl,k1,k2,k3⟩,g3⟩:=h3.split e
 obtain ⟨rfl,k4⟩:=k3.plain ha
 exact ⟨_,q,zs,h1,by rw [List.getElem?_append_right (Nat.le_refl _),Nat.sub_self,List.getElem?_cons_zero],k1,k4,hl⟩
theorem dE.turn (S:dE K F0 H0 F H p os A) {j:Nat} {ro:List O} {vs:List V} {q:Addr} {ts:List T} {ws:List V} (e:os[j]? = some (.lst ro)) (ha:nW ro=true) (hp:H p=some (.lst vs)) (hq:vs[j]? = some (.ref q)) (r:aP K F ts ws) :
  dE K F0 H0 F (upd H q (.lst ws)) p (os.set j (.lst (ts.map O.val))) A:=by
 obtain ⟨vs',B,rfl,h1,h2,h3⟩:=S.root
 rw [hp] at h1; cases h1
 obtain ⟨us,v0,xs,B1,C,D,rfl,rfl,rfl,g1,⟨q',zs,C',rfl,rfl,k1,k2,k3⟩,g3⟩:=h3.split e
 rw [List.getElem?_append_right (Nat.le_refl _),Nat.sub_self,List.getElem?_cons_zero] at hq
 cases hq
 obtain ⟨rfl,k4⟩:=k3.plain ha
 have nd:=List.nodup_cons.mp S.nd
 obtain ⟨n1,n2,n3⟩:=List.nodup_append.mp nd.2
 obtain ⟨n4,n5,n6⟩:=List.nodup_append.mp n2
 have q0:H0 q=none:=S.h0 q (List.mem_cons_of_mem _ (List.mem_append_right _ (List.mem_append_left _ List.mem_cons_self)))
 have qp:p ≠ q:=fun z=>nd.1 (z ▸ (List.mem_append_right _ (List.mem_append_left _ List.mem_cons_self)))
 have mv:∀ {us:List O} {zs:List V} {E:List Addr},(∀ a ∈ E,a ≠ q) -> aR K F H us zs E -> aR K F (upd H q (.lst ws)) us zs E:=fun sub h=>aR.move (aI.refl _) (fun a ha=>⟨aE (sub a ha),(h.at a ha).1⟩) h
 have s1:∀ a ∈ B1,a ≠ q:=fun a ha=>n3 a ha q (List.mem_append_left _ List.mem_cons_self)
 have s2:∀ a ∈ D,a ≠ q:=fun a ha z=>n6 q List.mem_cons_self a ha z.symm
 refine ⟨⟨S.g.sF,fun a o' ha=>?_,fun a o' ha=>?_,S.g.nw⟩,⟨p,_,_,rfl,rfl,(aE qp).trans hp,h2,?_⟩,S.nd,S.h0⟩
 ·rw [aE (fun z=>by subst z; rw [q0] at ha; cases ha)]; exact S.g.sH _ _ ha
 ·rw [aE (fun z=>by subst z; rw [k2] at ha; cases ha)]; exact S.g.fh _ _ ha
 ·rw [zl _ e]
  exact (mv s1 g1).app ((aR.one (K:=K) (F:=F) (H:=upd H q (.lst ws)) (o:=.lst (ts.map O.val)) ⟨q,ws,[],rfl,rfl,aN,k2,.vals r⟩).app (mv s2 g3))
theorem iq:∀ (ts:List T),O.trs (ts.map O.val)=ts
 | []=>rfl
 | t :: ts=>by rw [List.map_cons,O.trs,iq ts]; rfl
end
open PySem PySem.Spec PyProof.Rows L2
def Md (K:PySem.W.Frag) (n:Nat) (d:List T -> Option O):Sp:=fun vs H Q _=>vs.length=n /\ ∃ F ts o,aI F H /\ aP K F ts vs /\ d ts=some o /\
 ∀ F' H' v A,aX F H F' H' -> bW K F' H' o v A -> A.Nodup -> (∀ a ∈ A,H a=none) -> Q v H'
structure hW (P:Program) (w:World) (K:PySem.W.Frag) (mg:Str -> Option Value) (base:Heap) (k:Nat) (x:Str) (n:Nat) (d:List T -> Option O):Prop where
 ex:∃ f fd ps,eU P w K mg base nN k f fd ps (Md K n d) /\ Binds K fd ps [] /\ PySem.W.keepIn K (.ref f)=true /\ mg x=some (.ref f) /\ ps.length=n
section
variable {P:Program} {w:World} {K:PySem.W.Frag} {mg:Str -> Option Value} {base:Heap} {j k n:Nat} {x:Str}
theorem hW.imp {d d':List T -> Option O} (D:hW P w K mg base k x n d) (h:∀ ts o,d' ts=some o -> d ts=some o):hW P w K mg base k x n d':=by
 obtain ⟨f,fd,ps,F,r⟩:=D.ex
 exact ⟨f,fd,ps,F.imp fun vs H Q E ⟨l,F,ts,o,a,b,c,q⟩=>⟨l,F,ts,o,a,b,h _ _ c,q⟩,r⟩
theorem hW.mono {d:List T -> Option O} (D:hW P w K mg base j x n d) (h:j ≤ k):hW P w K mg base k x n d:=by
 obtain ⟨f,fd,ps,F,r⟩:=D.ex
 exact ⟨f,fd,ps,F.mono h,r⟩
theorem hW.plain {d:List T -> Option O} (D:hW P w K mg base k x n d):Def P w K mg base k x n (fun ts=>(d ts).bind fun o=>some o.tr):=by
 obtain ⟨f,fd,ps,F,r⟩:=D.ex
 refine ⟨f,fd,ps,F.imp fun vs H Q E ⟨l,F,ts,t,a,b,c,q⟩=>?_,r⟩
 obtain ⟨o,e1,e2⟩:=bind_some c
 cases e2
 exact ⟨l,F,ts,o,a,b,e1,fun F' H' v A g ro nd h0=>q _ H' v (g.frzO (fun a ha=>(ro.at a ha).1) h0) ro.frz⟩
end
section
variable {X:Cx} {e:Expr} {es:List Expr} {pos:Pos} {g:FA}
def fO (d:List T -> Option O) (g:FA):lH:=fun τ=>(g τ).bind fun p=>(d p.1).bind fun o=>some (o,p.2)
theorem AU {K:PySem.W.Frag} {F₀ H₀ F H:Hp} {σ:L2.St} {τ:aA} {A:List Addr} (E:az K F₀ H₀ F H σ τ) (n:∀ a ∈ A,H a=none):Apart σ τ A:=fun j us q e1 e2 m=>by
 obtain ⟨v,k1,p',vs',rfl,k2,_⟩:=E.sl j _ e1
 rw [e2] at k1; cases k1
 rw [n _ m] at k2; cases k2
theorem vQ {k n:Nat} {x:Str} {p:Pos} {d:List T -> Option O} (D:hW X.prog X.w X.K X.mg X.base k x n d) (hr:cY k X.A) (hg:Gl X x) (ha:SA X (e :: es) g) (hl:∀ τ ts τ',g τ=some (ts,τ') -> ts.length=n) (hdb:(x == ("__debug__" : Str))=false:=by decide)
  (he:starEach (e :: es) X.env=(false,eval e X.env) :: starEach es X.env:=by rfl) (hpl:(backTo pos (starEach es X.env)).any (·.1)=false:=by rfl):wj X (.Call (.Name x p) (e :: es) [] pos) (fO d g):=by
 obtain ⟨f,fd,ps,F,hb,hk,hm,hn⟩:=D.ex
 intro F₀ H₀
 refine PE.weak (yY (E:=E0) (CX:=nN) F hr hg hm hk hb .nil yX (ha F₀ H₀) hdb he hpl) fun σ H Q h=>?_
 obtain ⟨F,τ,c,τ',E,e1,q⟩:=h
 obtain ⟨⟨z,τ1⟩,e2,e1⟩:=bind_some e1
 have hz:=hl _ _ _ e2
 obtain ⟨u,e4,e1⟩:=bind_some e1
 cases e1
 refine ⟨F,τ,z,_,E,e2,fun F1 H1 vs E1 s1 r1=>⟨by rw [List.append_nil,r1.length]; exact hz,F1,z,c,E1.g.fh,by rw [List.append_nil]; exact r1,e4,fun F3 H3 v3 A g3 r3 nd h0=>?_⟩⟩
 exact q F3 H3 v3 A (E1.grow g3) (s1.trans g3.sF) r3 nd (fun a ha=>E1.g.sH.free (h0 a ha)) (AU E1 h0)
abbrev wa:=aA -> Option O
def Ml (K:PySem.W.Frag) (F₀ H₀:Hp) (f:wa):TS:=fun D σ H=>∃ F τ o,az K F₀ H₀ F H σ τ /\ f τ=some o /\ ∀ F' H' v A,aX F₀ H₀ F' H' -> bW K F' H' o v A -> A.Nodup -> (∀ a ∈ A,H₀ a=none) -> D.rt v H'
def Im (X:Cx) (ss:List Stmt) (f:wa):Prop:=∀ F₀ H₀,iX X ss (Ml X.K F₀ H₀ f)
def jN (f:lH):wa:=fun τ=>(f τ).bind fun p=>some p.1
theorem ua {f:lH} (h:wj X e f):Im X [.Return (some e) pos] (jN f):=fun F₀ H₀=>iX.weak (nI (xJ (h F₀ H₀))) fun D σ H hq__=>by
 obtain ⟨F,τ,o,E,e1,q⟩:=hq__
 obtain ⟨⟨x,τ1⟩,e2,e1⟩:=bind_some e1
 cases e1
 exact ⟨F,τ,_,τ1,E,e2,fun F' H' v A E' _ r nd h0 _=>q F' H' v A E'.g r nd h0⟩
def iN (t:FS) (u:wa):wa:=fun τ=>(t τ).bind fun r=>match r with | .nx τ'=>u τ' | _=>none
theorem jx {st:Stmt} {rest:List Stmt} {t:FS} {u:wa} (h1:SS X st t) (h2:Im X rest u):Im X (st :: rest) (iN t u):=fun F₀ H₀=>iX.weak (eK (h1 F₀ H₀) (h2 F₀ H₀)) fun D σ H hq__=>by
 obtain ⟨F,τ,o,E,e1,q⟩:=hq__
 obtain ⟨x,e2,e1⟩:=bind_some e1
 refine ⟨F,τ,x,E,e2,?_⟩
 cases x with
 | nx τ1=>exact fun F1 H1 σ1 E1 s1=>⟨F1,τ1,o,E1,e1,q⟩
 | rt t=>cases e1
 | bk t=>cases e1
 | ct t=>cases e1
end
def jc (m n:Nat) (fb:wa):List T -> Option O:=fun ts=>if ts.length=n then fb (ts.map (fun t=>some (Sl.sh t)) ++ List.replicate (m - n) none) else none
section
variable {P:Program} {w:World} {K:PySem.W.Frag} {mg:Str -> Option Value} {base:Heap}
theorem nj {x qual:Str} {st:Stmt} {f:Addr} {fd:FuncData} {N ps:List Str} {k:Nat} {fb:wa} (F:eR K x qual st f fd) (S:aL N ps (av st)) (hb:Binds K fd ps []) (hm:mg x=some (.ref f))
  (h:∀ (cdv:Value) (A:Around) (outer:List Env) (s:Shared) (H:Hp) (E:XK),cY k (A.deeper (envOfC qual (av st) s.heap.objs.size f cdv)) -> Im (lS nN P w K mg base N qual (av st) f cdv A outer s H E).nox (cQ st) fb) :
  hW P w K mg base (k + 1) x ps.length (jc N.length ps.length fb):=by
 refine ⟨f,fd,ps,F.ok S (fun vs H Q E z=>z.1) (fun cdv A outer s H vs Q E hr z=>?_),hb,F.kp,hm,rfl⟩
 obtain ⟨hl,F1,ts,o,sm,r,e,q⟩:=z
 unfold jc at e
 split at e
 ·next hn =>
  refine ⟨_,h cdv A outer s H E hr F1 H,F1,_,o,?_,e,fun F' H' v A g ro nd h0=>q F' H' v A g ro nd h0⟩
  have:=gf (N:=N) sm r
  rw [hn] at this
  exact this
 ·cases e
end
section
variable {X:Cx} {e:Expr} {es:List Expr} {pos:Pos} {g:FA}
def Gp (fo:lH) (g:FA) (d:O -> List T -> Option T):FE:=fun τ=>(fo τ).bind fun p=>if bM p.2=true then (g p.2).bind fun r=>if bM r.2=true then (d p.1 r.1).bind fun t=>some (t,r.2) else none else none
def Bj (fo:lH) (f:FE):FS:=fun τ=>(fo τ).bind fun p=>match p.1 with
 | .lst os=>if bM p.2=true /\ os.length < sizeLine then (f p.2).bind fun r=>if bM r.2=true then some (.nx r.2) else none else none
 | _=>none
theorem Cz {x:Str} {a:Addr} {i j:Int} {t t':Tok} {od:Option Addr} {n:Nat} {sl:Array (Option Value)} {pos:Pos} (hg:Gl X x) (hm:X.mg x=some (.ref a)) (hK:X.K.lookup a=some ⟨.type "tuple", od,.seq #[.int i t,.int j t'] n,sl⟩) (hd:(x == ("__debug__" : Str))=false:=by decide) :
  SE X (.Name x pos) (fC (.tup [.int i,.int j])):=
 gD (tx (v:=.ref a) hg hm rfl hd) fun F=>⟨a,[.int i,.int j],rfl,.inr ⟨_,_,n,hK,rfl,rfl,bR (n:=2) (by decide),.cons ⟨_,rfl⟩ (.cons ⟨_,rfl⟩ .nil)⟩,⟨_,_,rfl,rfl,_,_,rfl,rfl,rfl⟩⟩
end
open PySem PySem.Spec PyProof.Rows L2
section
variable {X:Cx}
def Ds:List T -> Option T
 | [.lst ts]=>(intsOf ts).bind fun ns=>some (.int ns.sum)
 | _=>none
theorem ints_get {K:PySem.W.Frag} {F:Hp}:∀ {ns:List Int} {vs:List V} {its:List Value},aP K F (ns.map T.int) vs -> Vals vs its -> ∃ xs:List (Int × Tok),its=xs.map (fun p=>Value.int p.1 p.2) /\ xs.map (·.1)=ns
 | [],vs,its,r,z=>by
  cases r; cases z; exact ⟨[],rfl,rfl⟩
 | n :: ns,vs,its,r,z=>by
  obtain ⟨v,rr,rfl,h1,h2⟩:=r
  cases h1
  cases z with
  | cons rz zz =>
   obtain ⟨t,rfl⟩:=rz
   obtain ⟨xs,e1,e2⟩:=ints_get h2 zz
   exact ⟨(n,t) :: xs,by rw [e1]; rfl,by rw [List.map_cons,e2]⟩
theorem Gf (hc:X.calm=true):hU X (.builtin "sum") Ds:=by
 intro pins s σ H xs us Q I rx ⟨F,ts,t,sm,r,e,q⟩
 unfold Ds at e
 split at e
 ·next ts =>
  obtain ⟨ns,e1,e2⟩:=bind_some e
  cases e2
  have et:=jW e1
  subst et
  obtain ⟨v,rr,rfl,⟨p,vs,rfl,h1,h2⟩,rfl⟩:=r
  obtain ⟨u,rfl,ru⟩:=Vals.one rx
  cases ru
  obtain ⟨its,rv,pl,hz⟩:=I.list (gE.of (sm _ _ h1))
  obtain ⟨xs,ex,en⟩:=ints_get h2 rv
  have hl:s.heap.IsList p (intItems xs.toArray):=by
   have:=pl.isList
   rw [ex] at this
   simpa [intItems] using this
  refine sum_intListG (I.ok.hd hc) hl fun h' tk t' hk=>?_
  have e2:preSum (numAt xs.toArray) xs.toArray.size=ns.sum:=by
   rw [preSum_eq,List.take_of_length_le (by simp),<- en]
  rw [e2]
  exact ⟨.int _,H,I.kept (t':=tk) hk,⟨t',rfl⟩,q F H _ (aX.refl sm) rfl⟩
 ·cases e
end
open PySem PySem.Spec PyProof.Rows L2
section
variable {prog:Program} {w:World} {A:Around} {E:Value -> Shared -> Prop} {s:Shared}
end
section
variable {X:Cx}
end
open PySem PySem.Spec PyProof.Rows L2
section
variable {prog:Program} {w:World} {A:Around} {R:Result -> Shared -> Prop} {I:Addr} {fp wr:List Addr} {n:Nat} {P:Nat -> Value -> Prop} {St:Nat -> Heap -> Prop} {kw:List (Str × Value)}
abbrev lO (a:Array Value) (c:Nat):Obj:={ cls:=.type "list", dict:=none,data:=.seq a c,slots:=#[] }
theorem nC:(toString "max" ++ toString ".loop" : String) = "max.loop" := by decide
theorem DY (W:PySem.Walks prog w A.in1 I fp wr n P St) (bt:Nat -> Nat -> Bool) (hcmp:CmpOf prog w A.in1 .Gt P bt) (S:Addr) (hSf:S ∉ fp) (k:Nat) :
  ∀ (j:Nat) (s:Shared) (vb:Value) (c:Nat),n - (j + 1)=k -> j + 1 ≤ n -> St (j + 1) s.heap -> P (argBest bt j) vb -> s.heap.get? S=some (lO #[vb,vb] c) ->
  (∀ v h' tk,P (argBest bt (n - 1)) v -> (∀ b o,b ∉ wr -> b ≠ S -> s.heap.get? b=some o -> h'.get? b=some o) -> R (.ok (.ret v)) { s with heap:=h',toks:=tk }) -> codeAny (model prog w) A (.builtin "max.loop" ⟨[.ref I,.none,.ref S],kw⟩) R s:=by
 have hSw:S ∉ wr:=fun h=>hSf (W.sub _ h)
 induction k with
 | zero =>
  intro j s vb c hk hj hst hPb hS hR
  have hin:j + 1=n:=by omega
  refine codeAny_builtin F.entry_max_loop (?_:_); rw [Around.under_plainId F.plain_max_loop _]
  show wpAny _ A.in1 (seqItems? (.ref S) >>= _) _ _ s; refine wpAny_bind (wpAny_seqItems hS rfl ?_)
  show wpAny _ A.in1 (tryCatch (pyNext (.ref I)) _ >>= _) _ _ s; refine wpAny_bind (wpAny_tryCatch (W.done s _ _ (hin ▸ hst) fun h' tk hk'=>?_))
  show wpAny _ A.in1 (updateSeq S (fun _=>#[]) >>= _) _ _ _; refine wpAny_bind (wpAny_updateSeq (hk' S _ hSw hS) rfl (wpAny_bind (wpAny_letGo (wpAny_pure ?_))))
  exact hR vb _ tk (by rw [<- hin]; exact hPb) fun b o hbw hbS e=>(Heap.get?_update_other _ _ (Ne.symm hbS)).trans (hk' b o hbw e)
 | succ k ih =>
  intro j s vb c hk hj hst hPb hS hR
  have hlt:j + 1 < n:=by omega
  refine codeAny_builtin F.entry_max_loop (?_:_); rw [Around.under_plainId F.plain_max_loop _]
  show wpAny _ A.in1 (seqItems? (.ref S) >>= _) _ _ s; refine wpAny_bind (wpAny_seqItems hS rfl ?_)
  show wpAny _ A.in1 (tryCatch (pyNext (.ref I)) _ >>= _) _ _ s; refine wpAny_bind (wpAny_tryCatch (W.item (j + 1) s _ _ hlt hst fun v h' tk hP hst' hk'=>?_))
  have hS':=hk' S _ hSw hS
  show wpAny _ A.in1 (tryCatch (holding [v,v] (richCompare .Gt v vb >>= _)) _ >>= _) _ _ _; refine wpAny_bind (wpAny_tryCatch (wpAny_holding (wpAny_bind (hcmp (j + 1) (argBest bt j) v vb _ _ _ hP hPb (wpAny_bind (wpAny_holding (wpAny_truthy_bool (wpAny_bind (wpAny_letGo (wpAny_pure ?_))))))))))
  cases hb:bt (j + 1) (argBest bt j) with
  | true =>
   simp only [if_true]
   refine wpAny_bind (wpAny_updateSeq hS' rfl (wpAny_bind (wpAny_letGo (?_:_)))); rw [nC]
   refine wpAny_pure ⟨plainId_quiet F.plain_max_loop _,ih (j + 1) _ v _ (by omega) hlt (W.frame _ _ _ hst' fun b hbf o e=>(Heap.get?_update_other _ _ (fun h:S=b=>hSf (by rw [h]; exact hbf))).trans e) (by simp only [argBest,hb,if_true]; exact hP) (Heap.get?_update_self _ hS' rfl) fun v' h'' tk'' hP' hk''=>?_⟩
   exact hR v' h'' tk'' hP' fun b o hbw hbS e=>hk'' b o hbw hbS ((Heap.get?_update_other _ _ (Ne.symm hbS)).trans (hk' b o hbw e))
  | false =>
   simp only [Bool.false_eq_true,if_false]
   refine wpAny_bind (wpAny_letGo (?_:_)); rw [nC]
   refine wpAny_pure ⟨plainId_quiet F.plain_max_loop _,ih (j + 1) _ vb c (by omega) hlt hst' (by simp only [argBest,hb,Bool.false_eq_true,if_false]; exact hPb) hS' fun v' h'' tk'' hP' hk''=>?_⟩
   exact hR v' h'' tk'' hP' fun b o hbw hbS e=>hk'' b o hbw hbS (hk' b o hbw e)
theorem BY (W:PySem.Walks prog w A.in1 I fp wr n P St) (bt:Nat -> Nat -> Bool) (hcmp:CmpOf prog w A.in1 .Gt P bt) (S:Addr) (hSf:S ∉ fp) (hn:0 < n) {s:Shared} {c:Nat} (hst:St 0 s.heap) (hS:s.heap.get? S=some (lO #[] c))
  (hR:∀ v h' tk,P (argBest bt (n - 1)) v -> (∀ b o,b ∉ wr -> b ≠ S -> s.heap.get? b=some o -> h'.get? b=some o) -> R (.ok (.ret v)) { s with heap:=h',toks:=tk }):codeAny (model prog w) A (.builtin "max.loop" ⟨[.ref I,.none,.ref S],kw⟩) R s:=by
 have hSw:S ∉ wr:=fun h=>hSf (W.sub _ h)
 refine codeAny_builtin F.entry_max_loop (?_:_); rw [Around.under_plainId F.plain_max_loop _]
 show wpAny _ A.in1 (seqItems? (.ref S) >>= _) _ _ s; refine wpAny_bind (wpAny_seqItems hS rfl ?_)
 show wpAny _ A.in1 (tryCatch (pyNext (.ref I)) _ >>= _) _ _ s; refine wpAny_bind (wpAny_tryCatch (W.item 0 s _ _ hn hst fun v h' tk hP hst' hk'=>?_))
 have hS':=hk' S _ hSw hS
 show wpAny _ A.in1 (updateSeq S (fun _=>#[v,v]) >>= _) _ _ _; refine wpAny_bind (wpAny_updateSeq hS' rfl (?_:_)); rw [nC]
 refine wpAny_pure ⟨plainId_quiet F.plain_max_loop _,DY W bt hcmp S hSf _ 0 _ v _ rfl hn (W.frame _ _ _ hst' fun b hbf o e=>(Heap.get?_update_other _ _ (fun h:S=b=>hSf (by rw [h]; exact hbf))).trans e) hP (Heap.get?_update_self _ hS' rfl) fun v' h'' tk'' hP' hk''=>?_⟩
 exact hR v' h'' tk'' hP' fun b o hbw hbS e=>hk'' b o hbw hbS ((Heap.get?_update_other _ _ (Ne.symm hbS)).trans (hk' b o hbw e))
theorem DX (W:PySem.Walks prog w A.in1 I fp wr n P St) (hn:n=0) (S:Addr) (hSf:S ∉ fp) {d:Value} {s:Shared} {c:Nat} (hst:St 0 s.heap) (hS:s.heap.get? S=some (lO #[] c))
  (hR:∀ h' tk,(∀ b o,b ∉ wr -> b ≠ S -> s.heap.get? b=some o -> h'.get? b=some o) -> R (.ok (.ret d)) { s with heap:=h',toks:=tk }):codeAny (model prog w) A (.builtin "max.loop" ⟨[.ref I,.none,.ref S],[("default", d)]⟩) R s:=by
 refine codeAny_builtin F.entry_max_loop (?_:_); rw [Around.under_plainId F.plain_max_loop _]
 show wpAny _ A.in1 (seqItems? (.ref S) >>= _) _ _ s; refine wpAny_bind (wpAny_seqItems hS rfl ?_)
 show wpAny _ A.in1 (tryCatch (pyNext (.ref I)) _ >>= _) _ _ s; refine wpAny_bind (wpAny_tryCatch (W.done s _ _ (hn.symm ▸ hst) fun h' tk hk'=>?_))
 exact wpAny_bind (wpAny_rule (wpAny_pure (hR h' tk fun b o hbw _ e=>hk' b o hbw e)))
end
def bestOf (ns:List Int):Int:=ns.getD (argBest (fun i j=>decide (ns.getD i 0 > ns.getD j 0)) (ns.length - 1)) 0
theorem zK (a v:Value):argsOk "max" ⟨[a],[(Str.ofString "default", v)]⟩:=by unfold argsOk; kernel_rfl
theorem oI (xs:List (Int × Tok)) (i:Nat):numAt xs.toArray i=(xs.map (·.1)).getD i 0:=by
 unfold numAt
 rw [List.getElem?_toArray,List.getD_eq_getElem?_getD,List.getElem?_map]
section
variable {prog:Program} {w:World} {A:Around} {E:Value -> Shared -> Prop} {s:Shared}
theorem DW {l:Addr} {xs:List (Int × Tok)} {d:Value} {Q:Value -> Shared -> Prop} (hh:A.handled=none) (hl:s.heap.IsList l (intItems xs.toArray))
  (h:∀ v h' tk,(∀ b o,s.heap.get? b=some o -> h'.get? b=some o) -> (xs=[] /\ v=d \/ xs ≠ [] /\ ∃ t,v=Value.int (bestOf (xs.map (·.1))) t) -> Q v { s with heap:=h',toks:=tk }) :
  wpAny (model prog w) A (call (.builtin "max") [.ref l] [(Str.ofString "default", d)]) Q E s:=by
 obtain ⟨ol,hol,_⟩:=id hl
 have hll:@LT.lt Nat _ l s.heap.objs.size:=Heap.lt_size hol
 refine kmk_tree PySem.F.kind_max PySem.F.plain_max PySem.F.entry_max (zK _ _) ?_
 show wpAny _ A.in1 (Builtin.Builtins.bindParams "max" ["key", "default"] 0 ⟨[],[(Str.ofString "default", d)]⟩ >>= _) _ _ s
 refine wpAny_bind (wpAny_of_eq (show Builtin.Builtins.bindParams "max" ["key", "default"] 0 ⟨[],[(Str.ofString "default", d)]⟩=pure [none,some d] from rfl) ?_)
 refine wpAny_bind (wpAny_pure (wpAny_bind (wpAny_pyIter_list hl (wpAny_bind (wpAny_newObj_type ?_)))))
 rw [nC]
 have hz:(s.heap.push { cls:=.type "list_iterator", data:=.fields #[.ref l,.int 0 0] }).objs.size=s.heap.objs.size + 1:=Heap.size_push ..
 have W:=PySem.Walks.list (prog:=prog) (w:=w) (A:=A.in1) hh s.heap.objs.size l (Nat.ne_of_lt hll) (intItems xs.toArray)
 have st0:((s.heap.push { cls:=.type "list_iterator", data:=.fields #[.ref l,.int 0 0] }).push (lO #[] 0)).IsListIter s.heap.objs.size l 0 /\ ((s.heap.push { cls:=.type "list_iterator", data:=.fields #[.ref l,.int 0 0] }).push (lO #[] 0)).IsList l (intItems xs.toArray):=
  ⟨⟨_,Heap.get?_push_of_some _ (Heap.get?_push_size _ rfl),rfl,rfl⟩,(hl.push _).push _⟩
 have hSf:(s.heap.push { cls:=.type "list_iterator", data:=.fields #[.ref l,.int 0 0] }).objs.size ∉ [s.heap.objs.size,l]:=fun m=>by
  rw [hz] at m
  rcases List.mem_cons.mp m with m | m
  ·exact absurd m (Nat.succ_ne_self _)
  ·rw [List.mem_singleton] at m; rw [<- m] at hll; exact absurd hll (by omega)
 have keep:∀ {h':Heap},(∀ b o,b ∉ [s.heap.objs.size] -> b ≠ (s.heap.push { cls:=.type "list_iterator", data:=.fields #[.ref l,.int 0 0] }).objs.size -> ((s.heap.push { cls:=.type "list_iterator", data:=.fields #[.ref l,.int 0 0] }).push (lO #[] 0)).get? b=some o -> h'.get? b=some o) -> ∀ b o,s.heap.get? b=some o -> h'.get? b=some o:=fun k b o e=>by
  have hb:@LT.lt Nat _ b s.heap.objs.size:=Heap.lt_size e
  exact k b o (fun m=>by rw [List.mem_singleton.mp m] at hb; exact Nat.lt_irrefl _ hb) (fun m=>by rw [m,hz] at hb; omega) (Heap.get?_push_of_some _ (Heap.get?_push_of_some _ e))
 cases xs with
 | nil=>exact wpAny_pure ⟨plainId_quiet F.plain_max_loop _,DX W (by simp [intItems]) _ hSf st0 (Heap.get?_push_size _ rfl) fun h' tk hk=>h d h' tk (keep hk) (.inl ⟨rfl,rfl⟩)⟩
 | cons x xs =>
  have val:∀ i v,(intItems (x :: xs).toArray)[i]? = some v -> ∃ t,v=Value.int (numAt (x :: xs).toArray i) t:=fun i v e=>intItems_at e
  refine wpAny_pure ⟨plainId_quiet F.plain_max_loop _,BY W _ (CmpOf.ints_gt (numAt (x :: xs).toArray) val) _ hSf (by simp [intItems]) st0 (Heap.get?_push_size _ rfl) fun v h' tk hP hk=>h v h' tk (keep hk) (.inr ⟨by simp,?_⟩)⟩
  obtain ⟨t,e⟩:=val _ _ hP
  refine ⟨t,e.trans ?_⟩
  congr 1
  rw [oI]
  unfold bestOf
  simp only [oI]
  congr 2
  simp [intItems]
end
section
variable {X:Cx}
def yy:T -> T -> Option T
 | .lst ts,.int d=>(intsOf ts).bind fun ns=>some (.int (if ns=[] then d else bestOf ns))
 | _,_=>none
theorem Ey {e d:Expr} {f fd:FE} {p pos kp:Pos} (hc:X.calm=true) (hg:Gl X "max") (hm:X.mg "max" = none) (he:SE X e f) (hd:SE X d fd) (hs:starEach [e] X.env=[(false,eval e X.env)]:=by rfl) :
  SE X (.Call (.Name "max" p) [e] [⟨some "default", d,kp⟩] pos) (aH yy f fd):=by
 intro F₀ H₀ pins s σ H Q I h
 obtain ⟨F,τ,t,τ',E,e1,q⟩:=h
 obtain ⟨⟨x,τ1⟩,e2,e1⟩:=bind_some e1
 obtain ⟨⟨y,τ2⟩,e3,e1⟩:=bind_some e1
 obtain ⟨z,e4,e1⟩:=bind_some e1
 cases e1
 refine wpAny_Call_Name_kw (jY I hg hm PyProof.Rows.boot_max (PyProof.Rows.callWith_kw ?_ (by rw [hs]; rfl) (by rw [hs]; rfl)))
 rw [hs]
 refine Calls.spliced_cons (cI (he F₀ H₀ pins s σ H (fun v H1=>∃ F1,az X.K F₀ H₀ F1 H1 σ τ1 /\ aI F F1 /\ Rep X.K F1 x v) I ⟨F,τ,x,τ1,E,e2,fun F1 H1 v E1 s1 r1=>⟨F1,E1,s1,r1⟩⟩) fun u s1 ⟨v1,H1,I1,ru,F1,E1,sF1,r1⟩=>Calls.spliced_nil ?_)
 refine PyProof.Rows.kws_cons (cI (hd F₀ H₀ pins s1 σ H1 (fun v H2=>∃ F2,az X.K F₀ H₀ F2 H2 σ _ /\ aI F1 F2 /\ Rep X.K F2 y v) I1 ⟨F1,τ1,y,_,E1,e3,fun F2 H2 v E2 s2 r2=>⟨F2,E2,s2,r2⟩⟩) fun u2 s2 ⟨v2,H2,I2,ru2,F2,E2,sF2,r2⟩=>PyProof.Rows.kws_nil ?_)
 dsimp only at e4
 unfold yy at e4
 split at e4
 ·next ts dd =>
  obtain ⟨ns,e5,e6⟩:=bind_some e4
  cases e6
  have et:=jW e5
  subst et
  obtain ⟨pl,vs,rfl,h1,h2⟩:=Rep.mono sF2 r1
  cases ru
  cases r2
  obtain ⟨its,rv,pl',hz⟩:=I2.list (gE.of (E2.g.fh _ _ h1))
  obtain ⟨xs,ex,en⟩:=ints_get h2 rv
  have hl:s2.heap.IsList pl (intItems xs.toArray):=by
   have:=pl'.isList
   rw [ex] at this
   simpa [intItems] using this
  obtain ⟨td,rfl⟩:=ru2
  refine DW (I2.ok.hd hc) hl fun v h' tk hk hv=>?_
  have I3:=I2.kept (t':=tk) hk
  rcases hv with ⟨hx,rfl⟩ | ⟨hx,t,rfl⟩
  ·subst hx
   subst en
   exact ⟨V.int _,H2,I3,⟨_,rfl⟩,q F2 H2 _ E2 (sF1.trans sF2) rfl⟩
  ·refine ⟨.int (bestOf (xs.map (·.1))),H2,I3,⟨_,rfl⟩,q F2 H2 _ E2 (sF1.trans sF2) ?_⟩
   have hne:ns ≠ []:=fun z=>hx (by rw [z] at en; simpa using en)
   rw [if_neg hne,<- en]
   rfl
 ·cases e4
end
open PySem PySem.Spec PyProof.Rows L2
section
variable {X:Cx}
end
open PySem PySem.Spec PyProof.Rows L2
def Fits (K:PySem.W.Frag) (F:Hp):L2.St -> aA -> Prop
 | [],[]=>True
 | _ :: σ,none :: τ=>Fits K F σ τ
 | some v :: σ,some (.sh t) :: τ=>Rep K F t v /\ Fits K F σ τ
 | _,_=>False
theorem Fits.len {K:PySem.W.Frag} {F:Hp}:∀ {σ:L2.St} {τ:aA},Fits K F σ τ -> σ.length=τ.length
 | [],[],_=>rfl
 | [],_ :: _,h=>by cases h
 | _ :: _,[],h=>by cases h
 | _ :: σ,none :: τ,h=>by have:Fits K F σ τ:=h; simp [this.len]
 | some v :: σ,some (.sh t) :: τ,h=>by simp [(h.2:Fits K F σ τ).len]
 | none :: σ,some (.sh t) :: τ,h=>by cases h
 | none :: σ,some (.own t) :: τ,h=>by cases h
 | some v :: σ,some (.own t) :: τ,h=>by cases h
theorem Fits.get {K:PySem.W.Frag} {F:Hp}:∀ {σ:L2.St} {τ:aA} {i:Nat} {s:Sl},Fits K F σ τ -> τ[i]? = some (some s) -> ∃ t v,s=.sh t /\ σ[i]? = some (some v) /\ Rep K F t v
 | [],[],i,s,_,e=>by simp at e
 | [],_ :: _,_,_,h,_=>by cases h
 | _ :: _,[],_,_,h,_=>by cases h
 | _ :: σ,none :: τ,0,s,h,e=>by simp at e
 | _ :: σ,none :: τ,i + 1,s,h,e=>Fits.get (σ:=σ) (τ:=τ) (i:=i) h (by simpa using e)
 | some v :: σ,some (.sh t) :: τ,0,s,h,e=>by simp at e; exact ⟨t,v,e.symm,rfl,h.1⟩
 | some v :: σ,some (.sh t) :: τ,i + 1,s,h,e=>Fits.get (σ:=σ) (τ:=τ) (i:=i) h.2 (by simpa using e)
 | none :: σ,some (.sh t) :: τ,_,_,h,_=>by cases h
 | none :: σ,some (.own t) :: τ,_,_,h,_=>by cases h
 | some v :: σ,some (.own t) :: τ,_,_,h,_=>by cases h
abbrev p9 (ts:List T):O:=.lst (ts.map O.val)
theorem vV:∀ tss:List (List T),O.trs (tss.map p9)=tss.map T.lst
 | []=>rfl
 | ts :: tss=>by
  rw [List.map_cons,List.map_cons,O.trs,vV tss]
  show T.lst (O.trs (ts.map O.val)) :: _=_
  rw [iq]
theorem jQ:∀ ts:List T,nW (ts.map O.val)=true
 | []=>rfl
 | _ :: ts=>jQ ts
theorem ui {K:PySem.W.Frag} {F:Hp} {t:T} {v:V} (h:Rep K F t v):∀ {ts:List T} {vs:List V} (m:Nat),aP K F ts vs -> aP K F (ts.set m t) (vs.set m v)
 | [],_,_,r=>by cases r; rfl
 | a :: ts,_,0,r=>by obtain ⟨w,q,rfl,h1,h2⟩:=r; exact ⟨v,q,rfl,h,h2⟩
 | a :: ts,_,m + 1,r=>by obtain ⟨w,q,rfl,h1,h2⟩:=r; exact ⟨w,_,rfl,h1,ui h m h2⟩
theorem wj.any {X:Cx} {e:Expr} {f:lH} (h:wj X e f):PE X e (fun σ H Q=>∃ F₀ H₀,LK X.K F₀ H₀ f σ H Q):=fun pins s σ H Q I ⟨F₀,H₀,q⟩=>h F₀ H₀ pins s σ H Q I q
theorem SI.any {X:Cx} {tg e:Expr} {f:FA} (h:SI X tg e f):PI X tg e (fun σ H R=>∃ F₀ H₀,tI X.K F₀ H₀ f σ H R):=fun pins s σ H R I ⟨F₀,H₀,q⟩=>h F₀ H₀ pins s σ H R I q
theorem dE.at {K:PySem.W.Frag} {F0 H0 F H:Hp} {p:Addr} {A:List Addr} {tss:List (List T)} (S:dE K F0 H0 F H p (tss.map p9) A) {j:Nat} {ts:List T} (e:tss[j]? = some ts) :
  ∃ vs q ws,H p=some (.lst vs) /\ vs[j]? = some (.ref q) /\ H q=some (.lst ws) /\ aP K F ts ws /\ vs.length=tss.length:=by
 obtain ⟨vs,q,ws,h1,h2,h3,h4,h5⟩:=S.row (j:=j) (ro:=ts.map O.val) (by rw [List.getElem?_map,e]; rfl) (jQ ts)
 exact ⟨vs,q,ws,h1,h2,h3,by rw [iq] at h4; exact h4,by rw [h5,List.length_map]⟩
theorem dE.turnRow {K:PySem.W.Frag} {F0 H0 F H:Hp} {p:Addr} {A:List Addr} {tss:List (List T)} (S:dE K F0 H0 F H p (tss.map p9) A) {j:Nat} {ts us:List T} {vs ws:List V} {q:Addr} (e:tss[j]? = some ts) (hp:H p=some (.lst vs)) (hq:vs[j]? = some (.ref q)) (r:aP K F us ws) :
  dE K F0 H0 F (upd H q (.lst ws)) p ((tss.set j us).map p9) A:=by
 have:=S.turn (j:=j) (ro:=ts.map O.val) (ts:=us) (ws:=ws) (by rw [List.getElem?_map,e]; rfl) (jQ ts) hp hq r
 rw [List.map_set]
 exact this
theorem dE.len {K:PySem.W.Frag} {F0 H0 F H:Hp} {p:Addr} {A:List Addr} {os:List O} (S:dE K F0 H0 F H p os A):∃ vs,H p=some (.lst vs) /\ vs.length=os.length:=by
 obtain ⟨vs,B,_,h1,_,h3⟩:=S.root
 exact ⟨vs,h1,h3.length⟩
theorem dE.gone {K:PySem.W.Frag} {F0 H0 F H:Hp} {p:Addr} {A:List Addr} {os:List O} {x:HO} (S:dE K F0 H0 F H p os A):aX F0 H0 F (upd H p x):=by
 obtain ⟨vs,B,rfl,h1,h2,h3⟩:=S.root
 have p0:H0 p=none:=S.h0 p List.mem_cons_self
 refine ⟨S.g.sF,fun a o' z=>?_,fun a o' z=>?_,S.g.nw⟩
 ·rw [aE (fun y=>by subst y; rw [p0] at z; cases z)]; exact S.g.sH _ _ z
 ·rw [aE (fun y=>by subst y; rw [h2] at z; cases z)]; exact S.g.fh _ _ z
open PySem PySem.Spec PyProof.Rows L2
def kd:T -> Nat
 | .non=>1 | .bl _=>2 | .int _=>0 | .str _=>3 | .ty _=>4 | .tup _=>5 | .lst _=>5 | .scr _=>5 | .dic=>5 | .obj _ _ _=>5 | .ptr _=>5 | .exc _=>5
def Kc (us ts:List T):Bool:=us.length != ts.length || (List.zip us ts).any fun p=>kd p.1 != kd p.2
mutual
def apart (us:List T):T -> Bool
 | .tup ts=>iY us ts
 | .lst ts=>Kc us ts && iY us ts
 | .scr _=>false
 | .obj _ _ ts=>iY us ts
 | _=>true
def iY (us:List T):List T -> Bool
 | []=>true
 | t :: ts=>apart us t && iY us ts
end
def L7:V -> Nat
 | .non=>1 | .bl _=>2 | .int _=>0 | .str _=>3 | .ty _=>4 | .ref _=>5 | _=>6
theorem Jf {K:PySem.W.Frag} {F:Hp} {t:T} {v:V} (h:Rep K F t v):kd t=L7 v:=by
 cases t with
 | non=>rw [show v=_ from h]; rfl
 | bl b=>rw [show v=_ from h]; rfl
 | int b=>rw [show v=_ from h]; rfl
 | str b=>rw [show v=_ from h]; rfl
 | ty b=>rw [show v=_ from h]; rfl
 | tup ts=>obtain ⟨a,xs,e,_⟩:=h; rw [e]; rfl
 | lst ts=>obtain ⟨a,xs,e,_⟩:=h; rw [e]; rfl
 | scr ts=>obtain ⟨a,xs,e,_⟩:=h; rw [e]; rfl
 | dic=>obtain ⟨a,e,_⟩:=h; rw [e]; rfl
 | obj _ _ _=>obtain ⟨a,_,_,e,_⟩:=h; rw [e]; rfl
 | ptr _=>rw [show v=_ from h]; rfl
 | exc _=>obtain ⟨a,e,_⟩:=h; rw [e]; rfl
theorem GN {K:PySem.W.Frag} {F:Hp} {t u:T} {v:V} (h:Rep K F t v) (h':Rep K F u v):kd t=kd u:=(Jf h).trans (Jf h').symm
theorem yo {K:PySem.W.Frag} {F:Hp}:∀ {us ts:List T} {vs:List V},aP K F us vs -> aP K F ts vs -> Kc us ts=false
 | [],[],_,_,_=>rfl
 | [],t :: ts,_,h,h'=>by
  obtain ⟨v,r,e,_⟩:=h'
  rw [show _=[] from h] at e; cases e
 | u :: us,[],_,h,h'=>by
  obtain ⟨v,r,e,_⟩:=h
  rw [show _=[] from h'] at e; cases e
 | u :: us,t :: ts,_,h,h'=>by
  obtain ⟨v,r,rfl,h1,h2⟩:=h
  obtain ⟨v',r',e,h3,h4⟩:=h'
  cases e
  have ih:=yo h2 h4
  unfold Kc at ih ⊢
  simp only [List.length_cons,List.zip_cons_cons,List.any_cons,GN h1 h3,bne_self_eq_false,Bool.false_or] at ih ⊢
  simpa using ih
mutual
theorem Rep.drop {K:PySem.W.Frag} {F:Hp} {a:Addr} {us:List T} {vs:List V} (ha:F a=some (.lst vs)) (hu:aP K F us vs):∀ {t:T} {v:V},apart us t=true -> Rep K F t v -> Rep K (jd F [a]) t v
 | .non,_,_,h=>h
 | .bl _,_,_,h=>h
 | .int _,_,_,h=>h
 | .str _,_,_,h=>h
 | .ty _,_,_,h=>h
 | .tup ts,_,k,h=>by
  obtain ⟨b,xs,h1,h2,h3⟩:=h
  refine ⟨b,xs,h1,?_,aP.drop' ha hu (by simpa [apart] using k) h3⟩
  rcases h2 with (h2 | ⟨o,h2⟩) | h2
  ·refine .inl (.inl ?_)
   rw [bY (fun m=>by rw [List.mem_singleton.mp m,ha] at h2; cases h2)]; exact h2
  ·refine .inl (.inr ⟨o,?_⟩)
   rw [bY (fun m=>by rw [List.mem_singleton.mp m,ha] at h2; cases h2)]; exact h2
  ·exact .inr h2
 | .lst ts,_,k,h=>by
  obtain ⟨b,xs,h1,h2,h3⟩:=h
  have k':Kc us ts=true /\ iY us ts=true:=by simpa [apart] using k
  refine ⟨b,xs,h1,?_,aP.drop' ha hu k'.2 h3⟩
  rw [bY (fun m=>by
   rw [List.mem_singleton.mp m,ha] at h2
   cases h2
   rw [yo hu h3] at k'
   exact absurd k'.1 (by decide))]
  exact h2
 | .scr _,_,k,_=>by simp [apart] at k
 | .dic,_,_,h=>by
  obtain ⟨b,h1,h2⟩:=h
  refine ⟨b,h1,?_⟩
  rw [bY (fun m=>by rw [List.mem_singleton.mp m,ha] at h2; cases h2)]
  exact h2
 | .obj C ns ts,_,k,h=>by
  obtain ⟨b,dx,xs,h1,h2,h3,h4⟩:=h
  refine ⟨b,dx,xs,h1,?_,h3,aP.drop' ha hu (by simpa [apart] using k) h4⟩
  rw [bY (fun m=>by rw [List.mem_singleton.mp m,ha] at h2; cases h2)]
  exact h2
 | .ptr _,_,_,h=>h
 | .exc _,_,_,h=>by
  obtain ⟨b,h1,h2⟩:=h
  refine ⟨b,h1,?_⟩
  rw [bY (fun m=>by rw [List.mem_singleton.mp m,ha] at h2; cases h2)]
  exact h2
theorem aP.drop' {K:PySem.W.Frag} {F:Hp} {a:Addr} {us:List T} {vs:List V} (ha:F a=some (.lst vs)) (hu:aP K F us vs):∀ {ts:List T} {ws:List V},iY us ts=true -> aP K F ts ws -> aP K (jd F [a]) ts ws
 | [],_,_,h=>h
 | t :: ts,_,k,h=>by
  obtain ⟨v,r,h1,h2,h3⟩:=h
  have k':apart us t=true /\ iY us ts=true:=by simpa [iY] using k
  exact ⟨v,r,h1,Rep.drop ha hu k'.1 h2,aP.drop' ha hu k'.2 h3⟩
end
section
variable {X:Cx} {e:Expr} {pos:Pos}
end
open PySem PySem.Spec PyProof.Rows L2
structure Mq (e it l:Addr) (i:Nat) (h:Heap):Prop where
 he:∃ old,IsEnum h e it (i:Int) old
 hi:h.IsListIter it l i
open PySem PySem.Spec PyProof.Rows L2
def hide:aA -> aA
 | []=>[]
 | some (.own _) :: τ=>none :: hide τ
 | some (.sh t) :: τ=>some (.sh t) :: hide τ
 | none :: τ=>none :: hide τ
theorem dQ:∀ τ:aA,(hide τ).length=τ.length
 | []=>rfl
 | some (.own _) :: τ=>by simp [hide,dQ τ]
 | some (.sh t) :: τ=>by simp [hide,dQ τ]
 | none :: τ=>by simp [hide,dQ τ]
theorem ib:∀ {τ:aA} {j:Nat} {s:Sl},(hide τ)[j]? = some (some s) -> τ[j]? = some (some s) /\ ∃ t,s=.sh t
 | [],j,s,h=>by simp [hide] at h
 | some (.own _) :: τ,0,s,h=>by simp [hide] at h
 | some (.sh t) :: τ,0,s,h=>by simp [hide] at h; subst h; exact ⟨rfl,t,rfl⟩
 | none :: τ,0,s,h=>by simp [hide] at h
 | some (.own _) :: τ,j + 1,s,h=>by simpa using ib (τ:=τ) (j:=j) (by simpa [hide] using h)
 | some (.sh t) :: τ,j + 1,s,h=>by simpa using ib (τ:=τ) (j:=j) (by simpa [hide] using h)
 | none :: τ,j + 1,s,h=>by simpa using ib (τ:=τ) (j:=j) (by simpa [hide] using h)
section
variable {K:PySem.W.Frag} {F₀ H₀ F H F' H':Hp} {σ:L2.St} {τ:aA}
theorem az.look {i:Nat} {us:List T} {vs:List V} {a:Addr} (E:az K F₀ H₀ F H σ τ) (hs:σ[i]? = some (some (.ref a))) (h2:H a=some (.lst vs)) (h3:F a=none) (h5:aP K F us vs) :
  az K (upd F a (.lst vs)) H (upd F a (.lst vs)) H σ ((hide τ).set i (some (.sh (.lst us)))):=by
 have sF:aI F (upd F a (.lst vs)):=bO h3
 have sH:aI (upd F a (.lst vs)) H:=fun b o eb=>by
  by_cases hb:b=a
  ·rw [hb,aN] at eb; cases eb; rw [hb]; exact h2
  ·rw [aE hb] at eb; exact E.g.fh b o eb
 have rp:Rep K (upd F a (.lst vs)) (.lst us) (.ref a):=⟨a,vs,rfl,aN,aP.mono sF h5⟩
 have all:∀ {j:Nat} {s:Sl},((hide τ).set i (some (.sh (.lst us))))[j]? = some (some s) -> (∃ t,s=.sh t) /\ ∃ v,σ[j]? = some (some v) /\ uj K H (upd F a (.lst vs)) H s v:=fun {j s} e=>by
  by_cases hj:i=j
  ·subst hj
   by_cases hl:i < (hide τ).length
   ·rw [List.getElem?_set_self hl] at e; cases e
    exact ⟨⟨_,rfl⟩,_,hs,rp⟩
   ·rw [List.getElem?_eq_none (by simp; omega)] at e; cases e
  ·rw [List.getElem?_set_ne hj] at e
   obtain ⟨e1,t,rfl⟩:=ib e
   obtain ⟨v,k1,k2⟩:=E.sl j _ e1
   exact ⟨⟨t,rfl⟩,v,k1,Rep.mono sF k2⟩
 refine ⟨aX.refl sH,by simp [dQ,E.len],fun j s e=>(all e).2,fun j k ts ws p _ e1=>?_⟩
 obtain ⟨t,z⟩:=(all e1).1
 cases z
theorem az.drop {i:Nat} (E:az K F₀ H₀ F H σ τ):az K F₀ H₀ F H σ (τ.set i none):=by
 have key:∀ {j:Nat} {s:Sl},(τ.set i none)[j]? = some (some s) -> τ[j]? = some (some s):=fun {j s} e=>by
  by_cases hj:i=j
  ·subst hj
   by_cases hl:i < τ.length
   ·rw [List.getElem?_set_self hl] at e; cases e
   ·rw [List.getElem?_eq_none (by simp; omega)] at e; cases e
  ·rw [List.getElem?_set_ne hj] at e; exact e
 exact ⟨E.g,by simp [E.len],fun j s e=>E.sl j s (key e),fun j k ts us p hjk e1 e2=>E.dj j k ts us p hjk (key e1) (key e2)⟩
end
section
variable {X:Cx} {e:Expr} {pos:Pos}
def jV (i:Nat) (f:FE):FE:=fun τ=>match τ[i]? with
 | some (some _)=>(f τ).bind fun p=>match p.2[i]? with
  | some (some (.own us))=>(bB (.lst us) p.1).bind fun t=>some (t,p.2)
  | some (some (.sh (.lst us)))=>(bB (.lst us) p.1).bind fun t=>some (t,p.2)
  | _=>none
 | _=>none
theorem CA (i:Nat) {x:Str} {p1:Pos} {f:FE} (hv:PE X (.Name x p1) (qd i)) (he:SE X e f) (hs:nc e):SE X (.Subscript (.Name x p1) e pos) (jV i f):=fun F₀ H₀=>PE.weak (Cc nz hv (he F₀ H₀) hs) fun σ H Q hq__=>by
 obtain ⟨F,τ,t,τ',E,e1,q⟩:=hq__
 unfold jV at e1
 split at e1
 ·next s e3 =>
  obtain ⟨⟨x,τ1⟩,e2,e1⟩:=bind_some e1
  obtain ⟨v0,h1,_⟩:=E.sl i _ e3
  dsimp only at e1
  refine ⟨v0,h1,F,τ,x,τ1,E,e2,fun F1 H1 v E1 s1 r1=>?_⟩
  split at e1
  ·next us e4 =>
   obtain ⟨u,e5,e1⟩:=bind_some e1
   cases e1
   obtain ⟨v',k1,p,vs,rfl,k2,k3,k4,k5⟩:=E1.sl i _ e4
   rw [h1] at k1; cases k1
   unfold bB at e5
   cases x with
   | int k =>
    cases r1
    obtain ⟨w,g1,g2⟩:=ko k5 e5
    exact ⟨p,vs,k,w,rfl,rfl,gE.of k2,g1,q F1 H1 w E1 s1 g2⟩
   | _=>cases e5
  ·next us e4 =>
   obtain ⟨u,e5,e1⟩:=bind_some e1
   cases e1
   obtain ⟨v',k1,p,vs,rfl,k2,k5⟩:=E1.sl i _ e4
   rw [h1] at k1; cases k1
   unfold bB at e5
   cases x with
   | int k =>
    cases r1
    obtain ⟨w,g1,g2⟩:=ko k5 e5
    exact ⟨p,vs,k,w,rfl,rfl,gE.of (E1.g.fh _ _ k2),g1,q F1 H1 w E1 s1 g2⟩
   | _=>cases e5
  ·cases e1
 ·cases e1
theorem aP.put {K:PySem.W.Frag} {F:Hp}:∀ {ts:List T} {vs:List V} {t:T} {v:V} (j:Nat),aP K F ts vs -> Rep K F t v -> aP K F (ts.set j t) (vs.set j v)
 | [],_,_,_,_,h,_=>by cases h; rfl
 | t :: ts,_,_,_,0,h,r=>by
  obtain ⟨v,rr,rfl,h2,h3⟩:=h
  exact ⟨_,rr,rfl,r,h3⟩
 | t :: ts,_,_,_,j + 1,h,r=>by
  obtain ⟨v,rr,rfl,h2,h3⟩:=h
  exact ⟨v,_,rfl,h2,aP.put j h3 r⟩
def om (i:Nat) (f g:FE):FS:=fun τ=>(f τ).bind fun p=>match p.2[i]? with
 | some (some _)=>(g p.2).bind fun r=>match r.2[i]?,r.1 with
  | some (some (.own us)),.int k=>(yF us.length k).bind fun j=>some (.nx (r.2.set i (some (.own (us.set j p.1)))))
  | _,_=>none
 | _=>none
theorem CJ (i:Nat) {x:Str} {p1 p2:Pos} {v:Expr} {f g:FE} (hv:PE X (.Name x p1) (qd i)) (hf:SE X v f) (hg:SE X e g)
  (ha:∀ u,assign (.Subscript (.Name x p1) e p2) X.env u=(do
   let ov <- holding [u] (eval (.Name x p1) X.env)
   let iv <- holding [u,ov] (eval e X.env)
   standAt p2
   holding [u,ov,iv] (setItem ov iv u)
   release [u,ov,iv] []):=by intro _; rfl)
  (hs:swapsWithSole [.Subscript (.Name x p1) e p2] v pos.line X.env=pure false:=by rfl) (hw:swappedStores [.Subscript (.Name x p1) e p2] v X.env=pure none:=by rfl)
  (h1:(assignEach [.Subscript (.Name x p1) e p2] X.env).map (·.2)=[assign (.Subscript (.Name x p1) e p2) X.env]:=by rfl) :
  SS X (.Assign [.Subscript (.Name x p1) e p2] v pos) (om i f g):=fun F₀ H₀=>PS.weak (Ck (hf F₀ H₀) (Hf hv (hg F₀ H₀) set_list ha) hs hw h1) fun D σ H hq__=>by
 obtain ⟨F,τ,r,E,e1,q⟩:=hq__
 obtain ⟨⟨t,τ1⟩,e2,e1⟩:=bind_some e1
 refine ⟨F,τ,t,τ1,E,e2,fun F1 H1 w E1 s1 r1=>?_⟩
 dsimp only at e1
 split at e1
 ·next s e3 =>
  obtain ⟨⟨y,τ2⟩,e4,e1⟩:=bind_some e1
  obtain ⟨v0,g1,_⟩:=E1.sl i _ e3
  refine ⟨v0,g1,F1,τ1,y,τ2,E1,e4,fun F2 H2 w2 E2 s2 r2=>?_⟩
  dsimp only at e1
  split at e1
  ·next _ us k e5 =>
   obtain ⟨j,e7,e1⟩:=bind_some e1
   cases e1
   cases r2
   obtain ⟨v',k1,p,vs,rfl,k2,k3,k4,k5⟩:=E2.sl i _ e5
   rw [g1] at k1; cases k1
   exact ⟨p,vs,k,j,rfl,rfl,k2,by rw [k5.length]; exact e7,q F2 _ σ (E2.turnOwn e5 g1 (k5.put j (Rep.mono s2 r1))) (s1.trans s2)⟩
  ·cases e1
 ·cases e1
end
section
variable {P:Program} {w:World} {K:PySem.W.Frag} {mg:Str -> Option Value} {base:Heap}
end
open PySem PySem.Spec PyProof.Rows L2
section
variable {prog:Program} {w:World} {A:Around} {E:Value -> Shared -> Prop} {s:Shared}
end
section
variable {X:Cx}
end
open PySem PySem.Spec PyProof.Rows L2
section
variable {X:Cx}
def rD (g:FA):FA:=fun τ=>(g τ).bind fun p=>match p.1 with
 | [.int i,.int j]=>if (-(2 ^ 62) ≤ i /\ i < 2 ^ 62) /\ (-(2 ^ 62) ≤ j /\ j < 2 ^ 62) then some (upTo i (j - i).toNat,p.2) else none
 | _=>none
theorem EB {tg a b:Expr} {p pos:Pos} {ga:FA} (hg:Gl X "range") (hm:X.mg "range" = none) (ha:SA X [a,b] ga) (hs:starEach [a,b] X.env=[(false,eval a X.env),(false,eval b X.env)]:=by rfl)
  (hs2:starEach [b] X.env=[(false,eval b X.env)]:=by rfl):SI X tg (.Call (.Name "range" p) [a,b] [] pos) (rD ga):=
 fun F₀ H₀=>PI.weak (Am hg hm (ha F₀ H₀) hs hs2) fun σ H R hh=>by
  obtain ⟨F,τ,ts,τ',E,e1,q⟩:=hh
  obtain ⟨⟨x,τ1⟩,e2,e1⟩:=bind_some e1
  dsimp only at e1
  split at e1
  ·split at e1
   ·next hb =>
    cases e1
    refine ⟨F,τ,_,τ',E,e2,fun F' H' vs E' s' r'=>?_⟩
    obtain ⟨v,r,rfl,q1,v2,r2,rfl,q2,rfl⟩:=r'
    cases q1; cases q2
    exact ⟨_,_,rfl,⟨hb.1.1,hb.1.2,hb.2.1,hb.2.2⟩,q F' H' _ E' s' (qK _ _)⟩
   ·cases e1
  ·cases e1
end
open PySem PySem.Spec PyProof.Rows L2
def Dw (f:Str):List Str -> List T -> Option T
 | n :: ns,t :: ts=>if f=n then some t else Dw f ns ts
 | _,_=>none
theorem yw {K:PySem.W.Frag} {F:Hp} {f:Str}:∀ {ns:List Str} {ts:List T} {vs:List V} {t:T},aP K F ts vs -> Dw f ns ts=some t -> ∃ v,(ns.zip vs).lookup f=some v /\ Rep K F t v
 | [],_,_,_,_,e=>by cases e
 | n :: ns,[],_,_,_,e=>by cases e
 | n :: ns,t :: ts,_,u,r,e=>by
  obtain ⟨v,rr,rfl,h1,h2⟩:=r
  unfold Dw at e
  rw [List.zip_cons_cons,List.lookup_cons]
  by_cases h:f=n
  ·rw [if_pos h] at e
   cases e
   rw [beq_iff_eq.mpr h]
   exact ⟨v,rfl,h1⟩
  ·rw [if_neg h] at e
   rw [beq_eq_false_iff_ne.mpr h]
   exact yw h2 e
theorem oz {f:Str}:∀ {ns:List Str} {vs:List V},f ∉ ns -> (ns.zip vs).lookup f=none
 | [],_,_=>by simp
 | n :: ns,[],_=>by simp
 | n :: ns,v :: vs,h=>by
  rw [List.zip_cons_cons,List.lookup_cons,beq_eq_false_iff_ne.mpr (show f ≠ n from fun z=>h (by rw [z]; exact List.mem_cons_self))]
  exact oz fun m=>h (List.mem_cons_of_mem _ m)
theorem vG {f:Str} {y:V}:∀ {ns:List Str} {vs:List V},f ∉ ns -> vs.length=ns.length -> iF f y (ns.zip vs)=(ns ++ [f]).zip (vs ++ [y])
 | [],[],_,_=>rfl
 | [],_ :: _,_,h=>by cases h
 | _ :: _,[],_,h=>by cases h
 | n :: ns,v :: vs,h,hl=>by
  rw [List.zip_cons_cons,show iF f y ((n,v) :: ns.zip vs)=(if n=f then (n,y) :: ns.zip vs else (n,v) :: iF f y (ns.zip vs)) from rfl,if_neg (show ¬ n=f from fun z=>h (by rw [z]; exact List.mem_cons_self)),vG (fun m=>h (List.mem_cons_of_mem _ m)) (by simpa using hl)]
  rfl
section
variable {X:Cx} {e:Expr} {es:List Expr} {pos:Pos}
def Bk (Cs:List Addr) (f:Str) (fe:FE):FE:=fun τ=>(fe τ).bind fun p=>match p.1 with
 | .obj C ns ts=>if C ∈ Cs then (Dw f ns ts).bind fun t=>some (t,p.2) else none
 | _=>none
theorem xR {Cs:List Addr} {f:Str} {fe:FE} (hC:∀ C ∈ Cs,m7 X.K C /\ ff X.K C f) (he:SE X e fe) (hb:attributeBase e f X.env (eval e X.env)=eval e X.env:=by rfl):SE X (.Attribute e f pos) (Bk Cs f fe):=
 fun F₀ H₀=>PE.weak (G7 (he F₀ H₀) hb) fun σ H Q h=>by
  obtain ⟨F,τ,t,τ',E,e1,q⟩:=h
  obtain ⟨⟨x,τ1⟩,e2,e1⟩:=bind_some e1
  dsimp only at e1
  split at e1
  ·next C ns ts =>
   split at e1
   ·next hm =>
    obtain ⟨u,e3,e1⟩:=bind_some e1
    cases e1
    refine ⟨F,τ,_,_,E,e2,fun F1 H1 v E1 s1 r1=>?_⟩
    obtain ⟨a,dx,vs,rfl,h1,h2,h3⟩:=r1
    obtain ⟨w,l1,l2⟩:=yw h3 e3
    exact ⟨a,C,dx,_,w,rfl,E1.g.fh _ _ h1,(hC C hm).1,(hC C hm).2,l1,q F1 H1 w E1 s1 l2⟩
   ·cases e1
  ·cases e1
end
structure gR (P:Program) (w:World) (K:PySem.W.Frag) (mg:Str -> Option Value) (base:Heap) (k:Nat) (C:Addr) (m:Str) (n:Nat) (d:List T -> Option T):Prop where
 cl:m7 K C
 ex:∃ f fd ps,eU P w K mg base nN k f fd ps (spT K n d) /\ Binds K fd ps [] /\ Meth K C m f /\ ps.length=n
section
variable {P:Program} {w:World} {K:PySem.W.Frag} {mg:Str -> Option Value} {base:Heap} {j k n:Nat} {C:Addr} {m:Str}
theorem gR.imp {d d':List T -> Option T} (D:gR P w K mg base k C m n d) (h:∀ ts t,d' ts=some t -> d ts=some t):gR P w K mg base k C m n d':=by
 obtain ⟨f,fd,ps,F,r⟩:=D.ex
 exact ⟨D.cl,f,fd,ps,F.imp fun vs H Q E z=>by
  obtain ⟨l,F,ts,t,a,b,c,q⟩:=z
  exact ⟨l,F,ts,t,a,b,h _ _ c,q⟩,r⟩
theorem gR.mono {d:List T -> Option T} (D:gR P w K mg base j C m n d) (h:j ≤ k):gR P w K mg base k C m n d:=by
 obtain ⟨f,fd,ps,F,r⟩:=D.ex
 exact ⟨D.cl,f,fd,ps,F.mono h,r⟩
theorem sJ {x qual:Str} {st:Stmt} {f:Addr} {fd:FuncData} {N ps:List Str} {fb:FS} (F:eR K x qual st f fd) (S:aL N ps (av st)) (hb:Binds K fd ps []) (cl:m7 K C) (hm:Meth K C m f)
  (h:∀ (cdv:Value) (A:Around) (outer:List Env) (s:Shared) (H:Hp) (E:XK),cY k (A.deeper (envOfC qual (av st) s.heap.objs.size f cdv)) -> qS (lS nN P w K mg base N qual (av st) f cdv A outer s H E).nox (cQ st) fb) :
  gR P w K mg base (k + 1) C m ps.length (bX N.length ps.length fb):=by
 refine ⟨cl,f,fd,ps,F.ok S (fun vs H Q E z=>z.1) (fun cdv A outer s H vs Q E hr z=>?_),hb,hm,rfl⟩
 obtain ⟨hl,F1,ts,t,sm,r,e,q⟩:=z
 unfold bX at e
 split at e
 ·next hn =>
  obtain ⟨r',e1,e⟩:=bind_some e
  refine ⟨_,h cdv A outer s H E hr F1 H,F1,_,r',?_,e1,?_⟩
  ·have:=gf (N:=N) sm r
   rw [hn] at this
   exact this
  ·cases r' with
   | rt u=>cases e; exact fun F' H' v g r'=>q F' H' v g r'
   | nx τ=>cases e; exact fun F' H' σ' E' s'=>q F' H' .non E'.g rfl
   | bk τ=>cases e
   | ct τ=>cases e
 ·cases e
end
section
variable {X:Cx} {o e:Expr} {es:List Expr} {pos apos:Pos} {g:FA} {fo:FE} {k n:Nat} {m:Str}
def uI (C:Addr):List (Addr × (List T -> Option T)) -> Option (List T -> Option T)
 | []=>none
 | a :: r=>if C=a.1 then some a.2 else uI C r
theorem qy {C:Addr} {d:List T -> Option T}:∀ {l:List (Addr × (List T -> Option T))},uI C l=some d -> (C,d) ∈ l
 | [],h=>by cases h
 | a :: r,h=>by
  unfold uI at h
  split at h
  ·next e=>cases h; subst e; exact List.mem_cons_self
  ·exact List.mem_cons_of_mem _ (qy h)
def gu (alts:List (Addr × (List T -> Option T))) (m:Str) (fo:FE) (g:FA):FE:=fun τ=>(fo τ).bind fun p=>match p.1 with
 | .obj C ns ts=>if m ∈ ns then none else (uI C alts).bind fun d=>(g p.2).bind fun q=>(d (.obj C ns ts :: q.1)).bind fun t=>some (t,q.2)
 | _=>none
theorem Af {alts:List (Addr × (List T -> Option T))} {F₀ H₀:Hp} {σ:L2.St} {H:Hp} {Q:VK} (h:tE X.K F₀ H₀ (gu alts m fo g) σ H Q) (hl:∀ τ ts τ',g τ=some (ts,τ') -> ts.length + 1=n) :
  ∃ C d,(C,d) ∈ alts /\ FF C m (spT X.K n d) [] E0 (tE X.K F₀ H₀ fo) (tA X.K F₀ H₀ g) σ H Q:=by
 obtain ⟨F,τ,t,τ',E,e1,q⟩:=h
 obtain ⟨⟨x,τ1⟩,e2,e1⟩:=bind_some e1
 dsimp only at e1
 split at e1
 ·next C ns ts =>
  split at e1
  ·cases e1
  ·next hm =>
   obtain ⟨d,e3,e1⟩:=bind_some e1
   obtain ⟨⟨us,τ2⟩,e4,e1⟩:=bind_some e1
   obtain ⟨u,e5,e1⟩:=bind_some e1
   cases e1
   refine ⟨C,d,qy e3,F,τ,_,τ1,E,e2,fun F1 H1 v E1 s1 r1=>?_⟩
   obtain ⟨a,dx,vs,rfl,h1,h2,h3⟩:=id r1
   refine ⟨a,dx,_,rfl,E1.g.fh _ _ h1,oz hm,F1,τ1,us,_,E1,e4,fun F2 H2 ws E2 s2 r2=>?_⟩
   refine ⟨by rw [List.append_nil,List.length_cons,r2.length]; exact hl _ _ _ e4,F2,.obj C ns ts :: us,_,E2.g.fh,⟨_,_,rfl,Rep.mono s2 r1,by rw [List.append_nil]; exact r2⟩,e5,fun F3 H3 v3 g3 r3=>?_⟩
   exact q F3 H3 v3 (E2.grow g3) ((s1.trans s2).trans g3.sF) r3
 ·cases e1
theorem ig {pl:Sem Bool} {alts:List (Addr × (List T -> Option T))} (hD:∀ a ∈ alts,gR X.prog X.w X.K X.mg X.base k a.1 m 1 a.2) (hr:cY k X.A) (he:SE X o fo)
  (ht:eval (.Call (.Attribute o m apos) [] [] pos) X.env=(do
   let ov <- eval o X.env
   standAt apos.atName
   let (f,first) <- holding [ov] (getMethod ov m pl)
   callWith pos f first (backTo pos (starEach [] X.env)) (backToKw pos (keywordEach [] X.env))):=by rfl) :
  SE X (.Call (.Attribute o m apos) [] [] pos) (gu alts m fo ai):=by
 intro F₀ H₀ pins s σ H Q I h
 obtain ⟨C,d,hm,h'⟩:=Af (n:=1) h (fun τ ts τ' e=>by cases e; rfl)
 have D:=hD _ hm
 obtain ⟨f,fd,ps,Fk,hb,hme,hn⟩:=D.ex
 refine Cd (E:=E0) (CX:=nN) (he F₀ H₀) D.cl hme Fk hr hb .nil yX ht pins s σ H Q I ?_
 obtain ⟨F,τ,t,τ',E,e1,q⟩:=h'
 refine ⟨F,τ,t,τ',E,e1,fun F1 H1 v E1 s1 r1=>?_⟩
 obtain ⟨a,dx,fs,h1,h2,h3,F2,τ2,us,τ3,E2,e2,q2⟩:=q F1 H1 v E1 s1 r1
 cases e2
 exact ⟨a,dx,fs,h1,h2,h3,q2 F2 H1 [] E2 (aI.refl _) rfl⟩
end
abbrev wb:=List Str × List T
def Mc (K:PySem.W.Frag) (C:Addr) (n:Nat) (d:List T -> Option wb):Sp:=fun vs H Q _=>vs.length=n + 1 /\ ∃ F x dx ws ts r,vs=.ref x :: ws /\ H x=some (.ins C dx []) /\ F x=none /\ aI F H /\ aP K F ts ws /\ d ts=some r /\
 ∀ F' H' us,aX F (jd H [x]) F' H' -> H' x=some (.ins C dx (r.1.zip us)) -> F' x=none -> us.length=r.1.length -> aP K F' r.2 us -> Q .non H'
structure nT (P:Program) (w:World) (K:PySem.W.Frag) (mg:Str -> Option Value) (base:Heap) (k:Nat) (x:Str) (C:Addr) (n:Nat) (d:List T -> Option wb):Prop where
 ex:∃ j f fd ps,k=j + 1 /\ Mk K C f /\ eU P w K mg base nN j f fd ps (Mc K C n d) /\ Binds K fd ps [] /\ mg x=some (.ref C) /\ ps.length=n + 1
theorem nT.mono {P:Program} {w:World} {K:PySem.W.Frag} {mg:Str -> Option Value} {base:Heap} {j k n:Nat} {x:Str} {C:Addr} {d:List T -> Option wb} (D:nT P w K mg base j x C n d) (h:j ≤ k):nT P w K mg base k x C n d:=by
 obtain ⟨i,f,fd,ps,hj,M,F,r⟩:=D.ex
 exact ⟨k - 1,f,fd,ps,by omega,M,F.mono (by omega),r⟩
theorem nT.imp {P:Program} {w:World} {K:PySem.W.Frag} {mg:Str -> Option Value} {base:Heap} {k n:Nat} {x:Str} {C:Addr} {d d':List T -> Option wb} (D:nT P w K mg base k x C n d) (h:∀ ts r,d' ts=some r -> d ts=some r):nT P w K mg base k x C n d':=by
 obtain ⟨i,f,fd,ps,hj,M,F,r⟩:=D.ex
 exact ⟨i,f,fd,ps,hj,M,F.imp fun vs H Q E z=>by
  obtain ⟨l,F,x,dx,ws,ts,r,a,b,c,dd,e,g,q⟩:=z
  exact ⟨l,F,x,dx,ws,ts,r,a,b,c,dd,e,h _ _ g,q⟩,r⟩
section
variable {X:Cx} {e:Expr} {es:List Expr} {pos:Pos} {g:FA}
def uF (C:Addr) (d:List T -> Option wb) (g:FA):FE:=fun τ=>(g τ).bind fun p=>(d p.1).bind fun r=>some (.obj C r.1 r.2,p.2)
theorem Ex {k n:Nat} {x:Str} {p:Pos} {C:Addr} {d:List T -> Option wb} (D:nT X.prog X.w X.K X.mg X.base k x C n d) (hr:cY k X.A) (hg:Gl X x) (ha:SA X (e :: es) g) (hl:∀ τ ts τ',g τ=some (ts,τ') -> ts.length=n) (hdb:(x == ("__debug__" : Str))=false:=by decide)
  (he:starEach (e :: es) X.env=(false,eval e X.env) :: starEach es X.env:=by rfl) (hpl:(backTo pos (starEach es X.env)).any (·.1)=false:=by rfl):SE X (.Call (.Name x p) (e :: es) [] pos) (uF C d g):=by
 obtain ⟨j,f,fd,ps,hj,M,Fk,hb,hm,hn⟩:=D.ex
 subst hj
 intro F₀ H₀
 refine PE.weak (Eg (E:=E0) (CX:=nN) M Fk hr hg hm hb .nil yX (ha F₀ H₀) hdb he hpl) fun σ H Q h=>?_
 obtain ⟨F,τ,t,τ',E,e1,q⟩:=h
 obtain ⟨⟨ts,τ1⟩,e2,e1⟩:=bind_some e1
 obtain ⟨r,e3,e1⟩:=bind_some e1
 cases e1
 refine ⟨F,τ,ts,_,E,e2,fun F1 H1 vs E1 s1 r1=>fun a dx na ndx ne=>?_⟩
 have fa:F1 a=none:=E1.g.fh.free na
 have fd':F1 dx=none:=E1.g.fh.free ndx
 have sm:aI F1 (upd (upd H1 dx (.own a)) a (.ins C dx [])):=fun b o z=>by
  rw [aE (bq z fa),aE (bq z fd')]
  exact E1.g.fh b o z
 have sm1:aI H1 (upd (upd H1 dx (.own a)) a (.ins C dx [])):=fun b o z=>by
  rw [aE (bq z na),aE (bq z ndx)]
  exact z
 refine ⟨by rw [List.append_nil,List.length_cons,r1.length,hl _ _ _ e2],F1,a,dx,vs,ts,r,by rw [List.append_nil],aN,fa,sm,r1,e3,fun F' H' us gr hx fx hlu ru=>⟨rfl,?_⟩⟩
 have sF:aI F' (upd F' a (.ins C dx (r.1.zip us))):=bO fx
 have g2:aX F1 H1 (upd F' a (.ins C dx (r.1.zip us))) H':=by
  refine ⟨gr.sF.trans sF,fun b o z=>gr.sH b o ?_,fun b o z=>?_,fun b o z=>?_⟩
  ·rw [bY (fun m=>by rw [List.mem_singleton.mp m,na] at z; cases z)]
   exact sm1 b o z
  ·by_cases hb:b=a
   ·rw [hb,aN] at z; cases z; rw [hb]; exact hx
   ·rw [aE hb] at z; exact gr.fh b o z
  ·by_cases hb:b=a
   ·exact .inr (by rw [hb]; exact na)
   ·rw [aE hb] at z
    rcases gr.nw b o z with y | y
    ·exact .inl y
    ·rw [bY (fun m=>hb (List.mem_singleton.mp m))] at y
     exact .inr (sm1.free y)
 exact q _ H' (.ref a) (E1.grow g2) (s1.trans g2.sF) ⟨a,dx,us,rfl,aN,hlu,aP.mono sF ru⟩
end
abbrev FI:=aA -> List Str -> List T -> Option wb
def Mg (K:PySem.W.Frag) (C x:Addr) (F₀ H₀:Hp) (f:FI):TS:=fun D σ H=>∃ F τ ns us vs dx r,az K F₀ H₀ F H σ τ /\ bM τ=true /\ τ[0]? = some (some (.sh (.ptr x))) /\ H x=some (.ins C dx (ns.zip vs)) /\ F x=none /\ H₀ x=none /\ vs.length=ns.length /\ ns.length < 1000 /\ aP K F us vs /\ f τ ns us=some r /\
 ∀ F' H' σ' us',aX F₀ H₀ F' H' -> H' x=some (.ins C dx (r.1.zip us')) -> F' x=none -> us'.length=r.1.length -> aP K F' r.2 us' -> D.nx σ' H'
def HL (X:Cx) (C:Addr) (ss:List Stmt) (f:Addr -> FI):Prop:=∀ x F₀ H₀,iX X ss (Mg X.K C x F₀ H₀ (f x))
section
variable {X:Cx} {C:Addr} {e:Expr} {rest:List Stmt} {pos:Pos}
def IY:Addr -> FI:=fun _ _ ns us=>some (ns,us)
theorem ED:HL X C [] IY:=fun x F₀ H₀=>iX.weak nG fun D σ H h=>by
 obtain ⟨F,τ,ns,us,vs,dx,r,E,ha,h0,hx,fx,h0x,hl,hk,ru,e1,q⟩:=h
 cases e1
 exact q F H σ vs E.g hx fx hl ru
def DF (f:Str) (fe:FE) (fr:Addr -> FI):Addr -> FI:=fun x τ ns us=>(fe τ).bind fun p=>if bM p.2=true /\ ¬ f ∈ ns /\ ns.length < 999 then match (p.2[0]? : Option (Option Sl)) with
 | some (some (.sh (.ptr y)))=>if y=x then fr x p.2 (ns ++ [f]) (us ++ [p.1]) else none
 | _=>none else none
theorem EC {f:Str} {fe:FE} {fr:Addr -> FI} {y:Str} {p1 p2:Pos} (hc:m7 X.K C) (hn:ff X.K C f) (hy:PE X (.Name y p1) (qd 0)) (he:SE X e fe) (hr:HL X C rest fr)
  (hs:swapsWith e (some (.Attribute (.Name y p1) f p2)) pos.line X.env=pure false:=by rfl):HL X C (.Assign [.Attribute (.Name y p1) f p2] e pos :: rest) (DF f fe fr):=fun x F₀ H₀=>iX.weak (eK (Hk hy he.any hs) (hr x F₀ H₀)) fun D σ H h=>by
 obtain ⟨F,τ,ns,us,vs,dx,r,E,ha,h0,hx,fx,h0x,hl,hk,ru,e1,q⟩:=h
 obtain ⟨⟨t,τ1⟩,e2,e1⟩:=bind_some e1
 dsimp only at e1
 split at e1
 ·next hc1 =>
  split at e1
  ·next y1 hp1 =>
   split at e1
   ·next hyx =>
    subst hyx
    refine ⟨F,H,F,τ,t,τ1,E.rebase ha E.g.fh,e2,fun F1 H1 w E1 s1 r1=>?_⟩
    have hx1:=E1.g.sH _ _ hx
    have fx1:F1 y1=none:=by
     cases eF:F1 y1 with
     | none=>rfl
     | some o =>
      rcases E1.g.nw _ o eF with z | z
      ·rw [fx] at z; cases z
      ·rw [hx] at z; cases z
    obtain ⟨v0,k1,k2⟩:=E.sl 0 _ h0
    cases (show v0=.ref y1 from k2)
    refine ⟨_,k1,y1,C,dx,_,rfl,hx1,hc,hn,by rw [List.length_zip]; omega,?_⟩
    rw [vG hc1.2.1 hl]
    have E2:az X.K F₀ H₀ F1 (upd H1 y1 (.ins C dx ((ns ++ [f]).zip (vs ++ [w])))) σ τ1:=by
     refine E1.to hc1.1 (aI.refl _) ⟨E.g.sF.trans E1.g.sF,fun b o z=>?_,fun b o z=>?_,fun b o z=>?_⟩
     ·rw [aE (fun y=>by rw [y,h0x] at z; cases z)]
      exact E1.g.sH _ _ (E.g.sH _ _ z)
     ·rw [aE (fun y=>by rw [y,fx1] at z; cases z)]
      exact E1.g.fh _ _ z
     ·rcases E1.g.nw b o z with y | y
      ·exact E.g.nw b o y
      ·exact .inr (E.g.sH.free y)
    refine ⟨F1,τ1,ns ++ [f],us ++ [t],vs ++ [w],dx,r,E2,hc1.1,hp1,aN,fx1,h0x,by simp [hl],by rw [List.length_append]; simp only [List.length_cons,List.length_nil]; omega,(aP.mono E1.g.sF ru).append (.one r1),e1,q⟩
   ·cases e1
  ·cases e1
 ·cases e1
def BC (t:FS) (fr:Addr -> FI):Addr -> FI:=fun x τ ns us=>(t τ).bind fun r=>match r with
 | .nx τ1=>if bM τ1=true then match (τ1[0]? : Option (Option Sl)) with
  | some (some (.sh (.ptr y)))=>if y=x then fr x τ1 ns us else none
  | _=>none else none
 | _=>none
theorem zq {st:Stmt} {t:FS} {fr:Addr -> FI} (hst:SS X st t) (hr:HL X C rest fr):HL X C (st :: rest) (BC t fr):=fun x F₀ H₀=>iX.weak (eK hst.any (hr x F₀ H₀)) fun D σ H h=>by
 obtain ⟨F,τ,ns,us,vs,dx,r,E,ha,h0,hx,fx,h0x,hl,hk,ru,e1,q⟩:=h
 obtain ⟨r1,e2,e1⟩:=bind_some e1
 refine ⟨F,H,F,τ,r1,E.rebase ha E.g.fh,e2,?_⟩
 cases r1 with
 | nx τ1 =>
  dsimp only at e1
  split at e1
  ·next hs =>
   split at e1
   ·next y1 hp1 =>
    split at e1
    ·next hyx =>
     subst hyx
     refine fun F1 H1 σ1 E1 s1=>?_
     have hx1:=E1.g.sH _ _ hx
     have fx1:F1 y1=none:=by
      cases eF:F1 y1 with
      | none=>rfl
      | some o =>
       rcases E1.g.nw _ o eF with z | z
       ·rw [fx] at z; cases z
       ·rw [hx] at z; cases z
     exact ⟨F1,τ1,ns,us,vs,dx,r,E1.back hs E.g,hs,hp1,hx1,fx1,h0x,hl,hk,aP.mono E1.g.sF ru,e1,q⟩
    ·cases e1
   ·cases e1
  ·cases e1
 | rt t=>cases e1
 | bk t=>cases e1
 | ct t=>cases e1
end
def Dp (m n:Nat) (fb:Addr -> FI) (ts:List T) (r:wb):Prop:=ts.length=n /\ ∀ x:Addr,fb x (some (.sh (.ptr x)) :: (ts.map (fun t=>some (Sl.sh t)) ++ List.replicate (m - (n + 1)) none)) [] []=some r
open Classical in
def dI (m n:Nat) (fb:Addr -> FI):List T -> Option wb:=fun ts=>if h:∃ r,Dp m n fb ts r then some h.choose else none
theorem Iw {m n:Nat} {fb:Addr -> FI} {ts:List T} {r:wb} (h:Dp m n fb ts r):dI m n fb ts=some r:=by
 unfold dI
 have hh:∃ r,Dp m n fb ts r:=⟨r,h⟩
 rw [dif_pos hh]
 have h1:=hh.choose_spec.2 0
 rw [h.2 0] at h1
 exact h1.symm
theorem Gg {m n:Nat} {fb:Addr -> FI} {ts:List T} {r:wb} (h:dI m n fb ts=some r):Dp m n fb ts r:=by
 unfold dI at h
 split at h
 ·next hh=>cases h; exact hh.choose_spec
 ·cases h
theorem lM:∀ (ts:List T) (j:Nat),bM (ts.map (fun t=>some (Sl.sh t)) ++ List.replicate j none)=true
 | [],0=>rfl
 | [],j + 1=>by rw [List.replicate_succ]; exact lM [] j
 | t :: ts,j=>lM ts j
theorem DG {P:Program} {w:World} {K:PySem.W.Frag} {mg:Str -> Option Value} {base:Heap} {k n:Nat} {x cx:Str} {C:Addr} {qual:Str} {st:Stmt} {f:Addr} {fd:FuncData} {N ps:List Str} {fb:Addr -> FI} (F:eR K x qual st f fd) (S:aL N ps (av st)) (hb:Binds K fd ps []) (M:Mk K C f) (hm:mg cx=some (.ref C)) (hn:ps.length=n + 1)
  (h:∀ (cdv:Value) (A:Around) (outer:List Env) (s:Shared) (H:Hp) (E:XK),cY k (A.deeper (envOfC qual (av st) s.heap.objs.size f cdv)) -> HL (lS nN P w K mg base N qual (av st) f cdv A outer s H E).nox C (cQ st) fb) :
  nT P w K mg base (k + 2) cx C n (dI N.length n fb):=by
 refine ⟨k + 1,f,fd,ps,rfl,M,F.ok S (fun vs H Q E z=>by rw [hn]; exact z.1) (fun cdv A outer s H vs Q E hr z=>?_),hb,hm,hn⟩
 obtain ⟨hl,F1,a,dx,ws,ts,r,rfl,hx,fx,sm,rw1,e,q⟩:=z
 obtain ⟨hlen,hf⟩:=Gg e
 refine ⟨_,h cdv A outer s H E hr a F1 (jd H [a]),?_⟩
 have r1:aP K F1 (.ptr a :: ts) (.ref a :: ws):=⟨_,_,rfl,rfl,rw1⟩
 have E0:=gf (N:=N) sm r1
 have hsh:bM ((T.ptr a :: ts).map (fun t=>some (Sl.sh t)) ++ List.replicate (N.length - (T.ptr a :: ts).length) none)=true:=lM _ _
 have g0:aX F1 (jd H [a]) F1 H:=⟨aI.refl _,zT,sm,fun _ _ z=>.inl z⟩
 have E1:=E0.to hsh (aI.refl _) g0
 refine ⟨F1,_,[],[],[],dx,r,E1,hsh,rfl,hx,fx,jB List.mem_cons_self,rfl,by decide,rfl,?_,fun F' H' σ' us' g' h1 h2 h3 h4=>q F' H' us' g' h1 h2 h3 h4⟩
 have:=hf a
 rw [<- hlen] at this
 exact this
open PySem PySem.Spec PyProof.Rows L2
structure Lx (K:PySem.W.Frag) (Ct C:Addr) (b:Bool):Prop where
 cl:m7 K C
 ha:PySem.W.findIn K (.ref C) "__class__" = some (some (.builtin "object.__class__"))
 hn:PySem.W.specialIn K (.builtin "object.__class__") "__get__" = some (some (.builtin "getset_descriptor.__get__"))
 htk:PySem.W.takesIn K (.builtin "object.__class__")=some true
 hm:PySem.W.mroIn K C (.type "object")=some true
 kit:PySem.W.kitOne K (.ref C) (.ref Ct)=some b
def findB (C:Addr):List (Addr × Bool) -> Option Bool
 | []=>none
 | a :: r=>if C=a.1 then some a.2 else findB C r
theorem qz {C:Addr} {d:Bool}:∀ {l:List (Addr × Bool)},findB C l=some d -> (C,d) ∈ l
 | [],h=>by cases h
 | a :: r,h=>by
  unfold findB at h
  split at h
  ·next e=>cases h; subst e; exact List.mem_cons_self
  ·exact List.mem_cons_of_mem _ (qz h)
section
variable {X:Cx} {e:Expr} {pos:Pos}
structure LR (K:PySem.W.Frag) (C:Addr):Prop where
 makes:PySem.W.makesIn K C=true
 init:PySem.W.findIn K (.ref C) "__init__" = some (some (.builtin "object.__init__"))
 kp:PySem.W.keepIn K (.ref C)=true
end
open PySem PySem.Spec PyProof.Rows L2
section
variable {X:Cx} {e:Expr} {pos:Pos} {f:FE}
end
open PySem PySem.Spec PyProof.Rows L2
structure nQ (K:PySem.W.Frag) (F₀ H₀ F H:Hp) (σ:L2.St) (τ:aA) (x:Nat) (p:Addr) (tss:List (List T)) (A:List Addr):Prop where
 E:az K F₀ H₀ F H σ τ
 hx:τ[x]? = some (some (.sh (.ptr p)))
 r:bW K F H (.lst (tss.map p9)) (.ref p) A
 nd:A.Nodup
 h0:∀ a ∈ A,H₀ a=none
 ap:Apart σ τ A
section
variable {K:PySem.W.Frag} {F₀ H₀ F H F' H':Hp} {σ σ':L2.St} {τ τ':aA} {x:Nat} {p:Addr} {tss:List (List T)} {A:List Addr}
theorem nQ.lies (D:nQ K F₀ H₀ F H σ τ x p tss A) {a:Addr} (ha:a ∈ A):F a=none /\ ∃ vs,H a=some (.lst vs):=D.r.at a ha
theorem nQ.lend (D:nQ K F₀ H₀ F H σ τ x p tss A):az K F₀ (frzO H₀ H A) F H σ τ:=by
 refine ⟨⟨D.E.g.sF,fun a o e=>?_,D.E.g.fh,fun a o e=>?_⟩,D.E.len,fun i s e=>?_,D.E.dj⟩
 ·by_cases m:a ∈ A
  ·rw [dz m] at e; exact e
  ·rw [bN m] at e; exact D.E.g.sH _ _ e
 ·have m:a ∉ A:=fun m=>by rw [(D.lies m).1] at e; cases e
  rcases D.E.g.nw a o e with z | z
  ·exact .inl z
  ·exact .inr (by rw [bN m]; exact z)
 ·obtain ⟨v,h1,h2⟩:=D.E.sl i s e
  refine ⟨v,h1,?_⟩
  cases s with
  | sh t=>exact h2
  | own ts =>
   obtain ⟨q,vs,rfl,k1,k2,k3,k4⟩:=h2
   exact ⟨q,vs,rfl,k1,k2,by rw [bN (D.ap i ts q e h1)]; exact k3,k4⟩
theorem nQ.back (D:nQ K F₀ H₀ F H σ τ x p tss A) (E':az K F₀ (frzO H₀ H A) F' H' σ' τ') (s:aI F F') (hx:τ'[x]? = some (some (.sh (.ptr p)))):nQ K F₀ H₀ F' H' σ' τ' x p tss A:=by
 have out:∀ {a:Addr},frzO H₀ H A a=none -> a ∉ A /\ H₀ a=none:=fun {a} e=>by
  have m:a ∉ A:=fun m=>by
   obtain ⟨vs,k⟩:=(D.lies m).2
   rw [dz m,k] at e; cases e
  exact ⟨m,by rw [bN m] at e; exact e⟩
 refine ⟨⟨⟨E'.g.sF,fun a o e=>?_,E'.g.fh,fun a o e=>?_⟩,E'.len,fun i s e=>?_,E'.dj⟩,hx,bW.move s (fun a ha=>?_) D.r,D.nd,D.h0,fun j us q e1 e2=>?_⟩
 ·have m:a ∉ A:=fun m=>by rw [D.h0 a m] at e; cases e
  exact E'.g.sH _ _ (by rw [bN m]; exact e)
 ·rcases E'.g.nw a o e with z | z
  ·exact .inl z
  ·exact .inr (out z).2
 ·obtain ⟨v,h1,h2⟩:=E'.sl i s e
  refine ⟨v,h1,?_⟩
  cases s with
  | sh t=>exact h2
  | own ts =>
   obtain ⟨q,vs,rfl,k1,k2,k3,k4⟩:=h2
   exact ⟨q,vs,rfl,k1,k2,(out k3).2,k4⟩
 ·obtain ⟨f1,vs,f2⟩:=D.lies ha
  refine ⟨by rw [f2]; exact E'.g.sH _ _ (by rw [dz ha]; exact f2),?_⟩
  cases eF:F' a with
  | none=>rfl
  | some o =>
   rcases E'.g.nw a o eF with z | z
   ·rw [D.E.g.sF _ _ z] at f1; cases f1
   ·exact absurd ha (out z).1
 ·obtain ⟨v,h1,q',vs,rfl,k1,k2,k3,k4⟩:=E'.sl j _ e1
  rw [e2] at h1; cases h1
  exact (out k3).1
theorem nQ.grow (D:nQ K F₀ H₀ F H σ τ x p tss A) (g:aX F H F' H'):nQ K F₀ H₀ F' H' σ τ x p tss A:=⟨D.E.grow g,D.hx,D.r.over g,D.nd,D.h0,D.ap⟩
theorem nQ.held (D:nQ K F₀ H₀ F H σ τ x p tss A):dE K F₀ H₀ F H p (tss.map p9) A:=⟨D.E.g,D.r,D.nd,D.h0⟩
theorem nQ.get (D:nQ K F₀ H₀ F H σ τ x p tss A):σ[x]? = Option.some (Option.some (.ref p)):=by
 obtain ⟨v,h1,h2⟩:=D.E.sl x _ D.hx
 have:v=.ref p:=h2
 rw [h1,this]
end
abbrev FD:=Addr -> List (List T) -> aA -> Option (List (List T) × aA)
def kM (x:Nat) (p:Addr) (τ:aA):Bool:=match τ[x]? with
 | some (some (.sh (.ptr q)))=>Nat.beq q p
 | _=>false
theorem uM {x:Nat} {p:Addr} {τ:aA} (h:kM x p τ=true):τ[x]? = some (some (.sh (.ptr p))):=by
 unfold kM at h
 split at h
 ·next q e=>rw [e,Nat.eq_of_beq_eq_true h]
 ·cases h
theorem oy {x:Nat} {p:Addr} {τ:aA} (h:τ[x]? = some (some (.sh (.ptr p)))):kM x p τ=true:=by
 unfold kM
 rw [h]
 exact Nat.beq_refl p
def tD (K:PySem.W.Frag) (F₀ H₀:Hp) (x:Nat) (f:FD):TS:=fun D σ H=>∃ F τ p tss A r,nQ K F₀ H₀ F H σ τ x p tss A /\ f p tss τ=some r /\ ∀ F' H' σ' A',nQ K F₀ H₀ F' H' σ' r.2 x p r.1 A' -> aI F F' -> D.nx σ' H'
theorem SG.any {X:Cx} {tg:Expr} {g:FG} (h:SG X tg g):PG X tg (fun v σ H Q=>∃ F₀ H₀,tG X.K F₀ H₀ g v σ H Q):=fun pins s σ H v u Q I r ⟨F₀,H₀,q⟩=>h F₀ H₀ pins s σ H v u Q I r q
section
variable {X:Cx} {e:Expr} {pos:Pos} {x:Nat}
def A5 (x:Nat) (c:FT) (f g:FD):FD:=fun p tss τ=>(c τ).bind fun q=>if kM x p q.2=true then (if q.1=true then f p tss q.2 else g p tss q.2) else none
end
theorem vL {K:PySem.W.Frag} {F H:Hp}:∀ {tss:List (List T)} {vs:List V} {B:List Addr} {k:Nat} {q:Addr} {row:List T},aR K F H (tss.map p9) vs B -> tss[k]? = some row -> vs[k]? = some (.ref q) -> q ∈ B
 | [],_,_,k,_,_,_,e,_=>by simp at e
 | r :: tss,vs,B,k,q,row,h,e,e'=>by
  obtain ⟨v,r',B1,C,rfl,rfl,h1,h2⟩:=h
  cases k with
  | zero =>
   cases e'
   obtain ⟨q',ws,B2,hq,rfl,_⟩:=h1
   cases hq
   exact List.mem_append_left _ List.mem_cons_self
  | succ k=>exact List.mem_append_right _ (vL h2 e e')
section
variable {K:PySem.W.Frag} {F₀ H₀ F H F' H':Hp} {σ σ':L2.St} {τ τ':aA} {x:Nat} {p:Addr} {tss:List (List T)} {A:List Addr}
theorem nQ.upd (D:nQ K F₀ H₀ F H σ τ x p tss A) {a:Addr} (ha:a ∈ A) (o:HO):az K F₀ H₀ F (L2.upd H a o) σ τ:=by
 refine ⟨⟨D.E.g.sF,fun b u e=>?_,fun b u e=>?_,D.E.g.nw⟩,D.E.len,fun i s e=>?_,D.E.dj⟩
 ·rw [aE (fun z=>by rw [z,D.h0 a ha] at e; cases e)]; exact D.E.g.sH _ _ e
 ·rw [aE (fun z=>by rw [z,(D.lies ha).1] at e; cases e)]; exact D.E.g.fh _ _ e
 ·obtain ⟨v,h1,h2⟩:=D.E.sl i s e
  refine ⟨v,h1,?_⟩
  cases s with
  | sh t=>exact h2
  | own ts =>
   obtain ⟨q,vs,rfl,k1,k2,k3,k4⟩:=h2
   exact ⟨q,vs,rfl,by rw [aE (show q ≠ a from fun z=>D.ap i ts q e h1 (by rw [z]; exact ha))]; exact k1,k2,k3,k4⟩
theorem nQ.put (D:nQ K F₀ H₀ F H σ τ x p tss A) {k l:Nat} {row:List T} {t:T} {w:V} (er:tss[k]? = some row) (r:Rep K F t w) :
  ∃ vs qa ws,H p=some (.lst vs) /\ vs[k]? = some (.ref qa) /\ H qa=some (.lst ws) /\ ws.length=row.length /\ vs.length=tss.length /\ nQ K F₀ H₀ F (L2.upd H qa (.lst (ws.set l w))) σ τ x p (tss.set k (row.set l t)) A:=by
 obtain ⟨vs,qa,ws,h1,h2,h3,h4,h5⟩:=D.held.at er
 have S:=D.held.turnRow (us:=row.set l t) (ws:=ws.set l w) er h1 h2 (ui r l h4)
 obtain ⟨vs',B,hA,g1,g2,g3⟩:=D.held.root
 rw [h1] at g1; cases g1
 have m:qa ∈ A:=by rw [hA]; exact List.mem_cons_of_mem _ (vL g3 er h2)
 exact ⟨vs,qa,ws,h1,h2,h3,h4.length,h5,D.upd m _,D.hx,S.r,S.nd,S.h0,D.ap⟩
theorem nQ.look (D:nQ K F₀ H₀ F H σ τ x p tss A):az K (frzO F H A) H (frzO F H A) H σ ((hide τ).set x (Option.some (.sh (.lst (tss.map T.lst))))):=by
 have sF:aI F (frzO F H A):=cK fun a ha=>(D.lies ha).1
 have sH:aI (frzO F H A) H:=fun b o eb=>by
  by_cases m:b ∈ A
  ·rw [dz m] at eb; exact eb
  ·rw [bN m] at eb; exact D.E.g.fh b o eb
 have rp:Rep K (frzO F H A) (.lst (tss.map T.lst)) (.ref p):=by
  have:=D.r.frz
  rw [O.tr,vV] at this
  exact this
 have all:∀ {j:Nat} {s:Sl},((hide τ).set x (Option.some (.sh (.lst (tss.map T.lst)))))[j]? = Option.some (Option.some s) -> (∃ t,s=.sh t) /\ ∃ v,σ[j]? = Option.some (Option.some v) /\ uj K H (frzO F H A) H s v:=fun {j s} e=>by
  by_cases hj:x=j
  ·subst hj
   by_cases hl:x < (hide τ).length
   ·rw [List.getElem?_set_self hl] at e; cases e
    exact ⟨⟨_,rfl⟩,_,D.get,rp⟩
   ·rw [List.getElem?_eq_none (by simp; omega)] at e; cases e
  ·rw [List.getElem?_set_ne hj] at e
   obtain ⟨e1,t,rfl⟩:=ib e
   obtain ⟨v,k1,k2⟩:=D.E.sl j _ e1
   exact ⟨⟨t,rfl⟩,v,k1,Rep.mono sF k2⟩
 refine ⟨aX.refl sH,by simp [dQ,D.E.len],fun j s e=>(all e).2,fun j k ts ws p _ e1=>?_⟩
 obtain ⟨t,z⟩:=(all e1).1
 cases z
theorem oq (hF:∀ a ∈ A,F a=none) (g:aX (frzO F H A) H F' H'):aX F H (jd F' A) H':=by
 refine ⟨fun b u e=>?_,g.sH,fun b u e=>?_,fun b u e=>?_⟩
 ·have m:b ∉ A:=fun m=>by rw [hF b m] at e; cases e
  rw [bY m]
  exact g.sF b u (by rw [bN m]; exact e)
 ·by_cases m:b ∈ A
  ·rw [jB m] at e; cases e
  ·rw [bY m] at e; exact g.fh b u e
 ·by_cases m:b ∈ A
  ·rw [jB m] at e; cases e
  ·rw [bY m] at e
   rcases g.nw b u e with z | z
   ·rw [bN m] at z; exact .inl z
   ·exact .inr z
end
section
variable {X:Cx} {e:Expr} {pos:Pos} {x:Nat}
end
open PySem PySem.Spec PyProof.Rows L2
section
variable {X:Cx} {e:Expr} {pos:Pos}
end
open PySem PySem.Spec PyProof.Rows L2
inductive R2 where
 | nx (τ:aA) | ro (o:O)
def Ky (K:PySem.W.Frag) (F₀ H₀ F:Hp) (D:Ends):R2 -> Prop
 | .nx τ'=>∀ F' H' σ',az K F₀ H₀ F' H' σ' τ' -> aI F F' -> D.nx σ' H'
 | .ro o=>∀ F' H' v A,aX F₀ H₀ F' H' -> bW K F' H' o v A -> A.Nodup -> (∀ a ∈ A,H₀ a=none) -> D.rt v H'
theorem Ky.mono {K:PySem.W.Frag} {F₀ H₀ F F':Hp} {D:Ends}:∀ {r:R2},aI F F' -> Ky K F₀ H₀ F D r -> Ky K F₀ H₀ F' D r
 | .nx _,s,h=>fun F1 H1 σ1 E1 s1=>h F1 H1 σ1 E1 (s.trans s1)
 | .ro _,_,h=>h
section
variable {X:Cx} {e:Expr} {pos:Pos}
end
open PySem PySem.Spec PyProof.Rows L2
section
variable {X:Cx} {e:Expr} {pos:Pos} {x:Nat}
end
section
variable {X:Cx} {i j:Nat}
end
open PySem PySem.Spec PyProof.Rows L2
section
variable {X:Cx}
end
open PySem PySem.Spec PyProof.Rows L2
section
variable {X:Cx} {a b c:Expr} {fa fb fc:FE} {pos:Pos}
def je (g g':T -> T -> Option T) (fa fb fc:FE):FE:=fun τ=>(fa τ).bind fun p=>(fb p.2).bind fun q=>(g p.1 q.1).bind fun z=>match z with
 | .bl true=>(fc q.2).bind fun r=>(g' q.1 r.1).bind fun t=>some (t,r.2)
 | .bl false=>some (.bl false,q.2)
 | _=>none
theorem wA {g g':T -> T -> Option T} {K:PySem.W.Frag} {F₀ H₀:Hp} {σ:L2.St} {H:Hp} {Q:VK} (h:tE K F₀ H₀ (je g g' fa fb fc) σ H Q):CO (HW K g) (HW K g') (tE K F₀ H₀ fa) (tE K F₀ H₀ fb) (tE K F₀ H₀ fc) σ H Q:=by
 obtain ⟨F,τ,t,τ',E,e1,q⟩:=h
 obtain ⟨⟨x,τ1⟩,e2,e1⟩:=bind_some e1
 obtain ⟨⟨y,τ2⟩,e3,e1⟩:=bind_some e1
 obtain ⟨z,e4,e1⟩:=bind_some e1
 refine ⟨F,τ,x,τ1,E,e2,fun F1 H1 v1 E1 s1 r1=>⟨F1,τ1,y,τ2,E1,e3,fun F2 H2 v2 E2 s2 r2=>⟨F2,x,y,z,E2.g.fh,r1.mono s2,r2,e4,fun F3 H3 v3 g3 r3=>?_⟩⟩⟩
 dsimp only at e1
 split at e1
 ·obtain ⟨⟨w,τ3⟩,e5,e1⟩:=bind_some e1
  obtain ⟨t',e6,e1⟩:=bind_some e1
  cases e1
  refine ⟨true,r3,?_⟩
  rw [if_pos rfl]
  exact ⟨F3,τ2,w,_,E2.grow g3,e5,fun F4 H4 v4 E4 s4 r4=>⟨F4,y,w,_,E4.g.fh,(r2.mono g3.sF).mono s4,r4,e6,fun F5 H5 v5 g5 r5=>q F5 H5 v5 (E4.grow g5) (((s1.trans s2).trans g3.sF).trans (s4.trans g5.sF)) r5⟩⟩
 ·cases e1
  refine ⟨false,r3,?_⟩
  rw [if_neg (by decide)]
  exact q F3 H3 _ (E2.grow g3) ((s1.trans s2).trans g3.sF) rfl
 ·cases e1
theorem vT {op op':CmpOp} {g g':T -> T -> Option T} (ho:m9 X (compareOp op) g) (ho':m9 X (compareOp op') g') (ha:SE X a fa) (hb:SE X b fb) (hc:SE X c fc) (hm:lastMarks [op,op'] [b,c]=false:=by with_unfolding_all rfl):ST X (.Compare a [op,op'] [b,c] pos) (eG (je g g' fa fb fc)):=
 fun F₀ H₀=>PT.weak (Cp ho ho' (ha F₀ H₀) (hb F₀ H₀) (hc F₀ H₀) hm) fun σ H Q hq__=>by
  obtain ⟨F,τ,k,τ',E,e1,q⟩:=hq__
  obtain ⟨⟨x,τ1⟩,e2,e1⟩:=bind_some e1
  dsimp only at e1
  split at e1
  ·cases e1
   refine wA (Q:=fun x H'=>∃ k,x=V.bl k /\ Q k H') ⟨F,τ,_,_,E,e2,fun F' H' v E' s' r'=>?_⟩
   exact ⟨k,r',q F' H' E' s'⟩
  ·cases e1
end
open PySem PySem.Spec PyProof.Rows L2
structure m8 (K:PySem.W.Frag) (F₀ H₀ F H:Hp) (σ:L2.St) (τ:aA) (A:List Addr):Prop where
 E:az K F₀ H₀ F H σ τ
 lies:∀ a ∈ A,F a=none /\ ∃ vs,H a=some (.lst vs)
 h0:∀ a ∈ A,H₀ a=none
 ap:Apart σ τ A
section
variable {K:PySem.W.Frag} {F₀ H₀ F H F' H':Hp} {σ σ':L2.St} {τ τ':aA} {A:List Addr}
theorem m8.upd (D:m8 K F₀ H₀ F H σ τ A) {a:Addr} (ha:a ∈ A) (ws:List V):m8 K F₀ H₀ F (L2.upd H a (.lst ws)) σ τ A:=by
 refine ⟨⟨⟨D.E.g.sF,fun b u e=>?_,fun b u e=>?_,D.E.g.nw⟩,D.E.len,fun i s e=>?_,D.E.dj⟩,fun b hb=>⟨(D.lies b hb).1,?_⟩,D.h0,D.ap⟩
 ·rw [aE (fun z=>by rw [z,D.h0 a ha] at e; cases e)]; exact D.E.g.sH _ _ e
 ·rw [aE (fun z=>by rw [z,(D.lies a ha).1] at e; cases e)]; exact D.E.g.fh _ _ e
 ·obtain ⟨v,h1,h2⟩:=D.E.sl i s e
  refine ⟨v,h1,?_⟩
  cases s with
  | sh t=>exact h2
  | own ts =>
   obtain ⟨q,vs,rfl,k1,k2,k3,k4⟩:=h2
   exact ⟨q,vs,rfl,by rw [aE (show q ≠ a from fun z=>D.ap i ts q e h1 (by rw [z]; exact ha))]; exact k1,k2,k3,k4⟩
 ·by_cases h:b=a
  ·subst h; exact ⟨ws,by simp [L2.upd]⟩
  ·rw [aE h]; exact (D.lies b hb).2
theorem m8.setv (D:m8 K F₀ H₀ F H σ τ A) {j:Nat} {v:V} (hj:τ[j]? = some none):m8 K F₀ H₀ F H (σ.set j (some v)) τ A:=by
 have ne:∀ {i:Nat} {s:Sl},τ[i]? = some (some s) -> j ≠ i:=fun {i s} e h=>by rw [<- h,hj] at e; cases e
 refine ⟨⟨D.E.g,by simp [D.E.len],fun i s e=>?_,fun i k ts us p h e1 e2 e3=>?_⟩,D.lies,D.h0,fun i us p e1 e2=>?_⟩
 ·rw [List.getElem?_set_ne (ne e)]; exact D.E.sl i s e
 ·rw [List.getElem?_set_ne (ne e1)] at e3
  rw [List.getElem?_set_ne (ne e2)]
  exact D.E.dj i k ts us p h e1 e2 e3
 ·rw [List.getElem?_set_ne (ne e1)] at e2
  exact D.ap i us p e1 e2
end
section
variable {X:Cx} {r t x:Nat} {rn tn xn:Str} {p1 p2 p3 p4 p5 p6 pos:Pos}
end
open PySem PySem.Spec PyProof.Rows L2
section
variable {K:PySem.W.Frag} {F₀ H₀ F H F' H':Hp} {σ σ':L2.St} {τ τ':aA} {A:List Addr} {x:Nat} {o:O} {v:V}
theorem BS (E:az K F₀ H₀ F H σ τ) (r:bW K F H o v A) (hv:σ[x]? = some (some v)):az K (frzO F H A) H (frzO F H A) H σ ((hide τ).set x (some (.sh o.tr))):=by
 have sF:aI F (frzO F H A):=cK fun a ha=>(r.at a ha).1
 have sH:aI (frzO F H A) H:=fun b u eb=>by
  by_cases m:b ∈ A
  ·rw [dz m] at eb; exact eb
  ·rw [bN m] at eb; exact E.g.fh b u eb
 have rp:Rep K (frzO F H A) o.tr v:=r.frz
 have all:∀ {j:Nat} {s:Sl},((hide τ).set x (some (.sh o.tr)))[j]? = some (some s) -> (∃ t,s=.sh t) /\ ∃ v,σ[j]? = some (some v) /\ uj K H (frzO F H A) H s v:=fun {j s} e=>by
  by_cases hj:x=j
  ·subst hj
   by_cases hl:x < (hide τ).length
   ·rw [List.getElem?_set_self hl] at e; cases e
    exact ⟨⟨_,rfl⟩,_,hv,rp⟩
   ·rw [List.getElem?_eq_none (by simp; omega)] at e; cases e
  ·rw [List.getElem?_set_ne hj] at e
   obtain ⟨e1,t,rfl⟩:=ib e
   obtain ⟨w,k1,k2⟩:=E.sl j _ e1
   exact ⟨⟨t,rfl⟩,w,k1,Rep.mono sF k2⟩
 refine ⟨aX.refl sH,by simp [dQ,E.len],fun j s e=>(all e).2,fun j k ts ws p _ e1=>?_⟩
 obtain ⟨t,z⟩:=(all e1).1
 cases z
theorem kK:∀ {τ:aA} {x:Nat} {s:Sl},(hide (τ.set x none)).set x (some s)=(hide τ).set x (some s)
 | [],_,_=>by simp [hide]
 | some (.own _) :: τ,0,s=>by simp [hide]
 | some (.sh _) :: τ,0,s=>by simp [hide]
 | none :: τ,0,s=>by simp [hide]
 | some (.own _) :: τ,x + 1,s=>by simp [hide,kK (τ:=τ) (x:=x) (s:=s)]
 | some (.sh _) :: τ,x + 1,s=>by simp [hide,kK (τ:=τ) (x:=x) (s:=s)]
 | none :: τ,x + 1,s=>by simp [hide,kK (τ:=τ) (x:=x) (s:=s)]
theorem m8.of (E:az K F₀ H₀ F H σ τ) (r:bW K F H o v A) (h0:∀ a ∈ A,H₀ a=none) (ap:Apart σ τ A):m8 K F₀ H₀ F H σ (τ.set x none) A:=by
 refine ⟨E.drop,r.at,h0,fun j us p e1 e2=>?_⟩
 refine ap j us p ?_ e2
 by_cases hj:x=j
 ·subst hj
  by_cases hl:x < τ.length
  ·rw [List.getElem?_set_self hl] at e1; cases e1
  ·rw [List.getElem?_eq_none (by simp; omega)] at e1; cases e1
 ·rw [List.getElem?_set_ne hj] at e1; exact e1
end
def GG (i:Nat) (τ:aA):Bool:=match τ[i]? with
 | some none=>true
 | _=>false
theorem DI {i:Nat} {τ:aA} (h:GG i τ=true):τ[i]? = some none:=by
 unfold GG at h
 split at h
 ·next e=>exact e
 ·cases h
section
variable {X:Cx} {r t x:Nat} {rn tn xn:Str} {p1 p2 p3 p4 p5 p6 pos q1 q2 q3 q4 q5 q6 pos':Pos}
end
open PySem PySem.Spec PyProof.Rows L2
structure qP (K:PySem.W.Frag) (F₀ H₀ F H:Hp) (σ:L2.St) (τ:aA) (x:Nat) (p:Addr) (os:List O) (A:List Addr):Prop where
 E:az K F₀ H₀ F H σ τ
 hx:τ[x]? = some (some (.sh (.ptr p)))
 r:bW K F H (.lst os) (.ref p) A
 nd:A.Nodup
 h0:∀ a ∈ A,H₀ a=none
 ap:Apart σ τ A
section
variable {K:PySem.W.Frag} {F₀ H₀ F H F' H':Hp} {σ σ':L2.St} {τ τ':aA} {x:Nat} {p:Addr} {os:List O} {A:List Addr}
theorem qP.lies (D:qP K F₀ H₀ F H σ τ x p os A) {a:Addr} (ha:a ∈ A):F a=none /\ ∃ vs,H a=some (.lst vs):=D.r.at a ha
theorem qP.lend (D:qP K F₀ H₀ F H σ τ x p os A):az K F₀ (frzO H₀ H A) F H σ τ:=by
 refine ⟨⟨D.E.g.sF,fun a o e=>?_,D.E.g.fh,fun a o e=>?_⟩,D.E.len,fun i s e=>?_,D.E.dj⟩
 ·by_cases m:a ∈ A
  ·rw [dz m] at e; exact e
  ·rw [bN m] at e; exact D.E.g.sH _ _ e
 ·have m:a ∉ A:=fun m=>by rw [(D.lies m).1] at e; cases e
  rcases D.E.g.nw a o e with z | z
  ·exact .inl z
  ·exact .inr (by rw [bN m]; exact z)
 ·obtain ⟨v,h1,h2⟩:=D.E.sl i s e
  refine ⟨v,h1,?_⟩
  cases s with
  | sh t=>exact h2
  | own ts =>
   obtain ⟨q,vs,rfl,k1,k2,k3,k4⟩:=h2
   exact ⟨q,vs,rfl,k1,k2,by rw [bN (D.ap i ts q e h1)]; exact k3,k4⟩
theorem qP.back (D:qP K F₀ H₀ F H σ τ x p os A) (E':az K F₀ (frzO H₀ H A) F' H' σ' τ') (s:aI F F') (hx:τ'[x]? = some (some (.sh (.ptr p)))):qP K F₀ H₀ F' H' σ' τ' x p os A:=by
 have out:∀ {a:Addr},frzO H₀ H A a=none -> a ∉ A /\ H₀ a=none:=fun {a} e=>by
  have m:a ∉ A:=fun m=>by
   obtain ⟨vs,k⟩:=(D.lies m).2
   rw [dz m,k] at e; cases e
  exact ⟨m,by rw [bN m] at e; exact e⟩
 refine ⟨⟨⟨E'.g.sF,fun a o e=>?_,E'.g.fh,fun a o e=>?_⟩,E'.len,fun i s e=>?_,E'.dj⟩,hx,bW.move s (fun a ha=>?_) D.r,D.nd,D.h0,fun j us q e1 e2=>?_⟩
 ·have m:a ∉ A:=fun m=>by rw [D.h0 a m] at e; cases e
  exact E'.g.sH _ _ (by rw [bN m]; exact e)
 ·rcases E'.g.nw a o e with z | z
  ·exact .inl z
  ·exact .inr (out z).2
 ·obtain ⟨v,h1,h2⟩:=E'.sl i s e
  refine ⟨v,h1,?_⟩
  cases s with
  | sh t=>exact h2
  | own ts =>
   obtain ⟨q,vs,rfl,k1,k2,k3,k4⟩:=h2
   exact ⟨q,vs,rfl,k1,k2,(out k3).2,k4⟩
 ·obtain ⟨f1,vs,f2⟩:=D.lies ha
  refine ⟨by rw [f2]; exact E'.g.sH _ _ (by rw [dz ha]; exact f2),?_⟩
  cases eF:F' a with
  | none=>rfl
  | some o =>
   rcases E'.g.nw a o eF with z | z
   ·rw [D.E.g.sF _ _ z] at f1; cases f1
   ·exact absurd ha (out z).1
 ·obtain ⟨v,h1,q',vs,rfl,k1,k2,k3,k4⟩:=E'.sl j _ e1
  rw [e2] at h1; cases h1
  exact (out k3).1
theorem qP.grow (D:qP K F₀ H₀ F H σ τ x p os A) (g:aX F H F' H'):qP K F₀ H₀ F' H' σ τ x p os A:=⟨D.E.grow g,D.hx,D.r.over g,D.nd,D.h0,D.ap⟩
theorem qP.held (D:qP K F₀ H₀ F H σ τ x p os A):dE K F₀ H₀ F H p os A:=⟨D.E.g,D.r,D.nd,D.h0⟩
theorem qP.get (D:qP K F₀ H₀ F H σ τ x p os A):σ[x]? = Option.some (Option.some (.ref p)):=by
 obtain ⟨v,h1,h2⟩:=D.E.sl x _ D.hx
 have:v=.ref p:=h2
 rw [h1,this]
end
abbrev FL:=Addr -> List O -> aA -> Option (List O × aA)
def tL (K:PySem.W.Frag) (F₀ H₀:Hp) (x:Nat) (f:FL):TS:=fun D σ H=>∃ F τ p os A r,qP K F₀ H₀ F H σ τ x p os A /\ f p os τ=some r /\ ∀ F' H' σ' A',qP K F₀ H₀ F' H' σ' r.2 x p r.1 A' -> aI F F' -> D.nx σ' H'
def SL (X:Cx) (x:Nat) (st:Stmt) (f:FL):Prop:=∀ F₀ H₀,PS X st (tL X.K F₀ H₀ x f)
def LA (X:Cx) (x:Nat) (ss:List Stmt) (f:FL):Prop:=∀ F₀ H₀,iX X ss (tL X.K F₀ H₀ x f)
section
variable {X:Cx} {e:Expr} {pos:Pos} {x:Nat}
theorem EH {st:Stmt} {f:FL} (h:SL X x st f):LA X x [st] f:=fun F₀ H₀=>nI (h F₀ H₀)
theorem aR.snoc {K:PySem.W.Frag} {F H:Hp} {o:O} {v:V} {C:List Addr} (h:bW K F H o v C):∀ {os:List O} {vs:List V} {B:List Addr},aR K F H os vs B -> aR K F H (os ++ [o]) (vs ++ [v]) (B ++ C)
 | [],vs,B,r=>by
  obtain ⟨rfl,rfl⟩:=r
  exact ⟨v,[],C,[],rfl,by simp,h,rfl,rfl⟩
 | o' :: os,vs,B,r=>by
  obtain ⟨w,rs,B1,B2,rfl,rfl,r1,r2⟩:=r
  exact ⟨w,rs ++ [v],B1,B2 ++ C,rfl,by simp,r1,aR.snoc h r2⟩
theorem aR.len {K:PySem.W.Frag} {F H:Hp}:∀ {os:List O} {vs:List V} {B:List Addr},aR K F H os vs B -> vs.length=os.length
 | [],vs,B,r=>by obtain ⟨rfl,rfl⟩:=r; rfl
 | o' :: os,vs,B,r=>by
  obtain ⟨w,rs,B1,B2,rfl,rfl,r1,r2⟩:=r
  simp [aR.len r2]
end
open PySem PySem.Spec PyProof.Rows L2
section
variable {X:Cx} {e:Expr} {pos:Pos}
def rA (f:FE):lH:=fun τ=>(f τ).bind fun p=>match p.1 with
 | .lst ts=>some (.lst (ts.map O.val),p.2)
 | .tup ts=>some (.lst (ts.map O.val),p.2)
 | _=>none
theorem CD {f:FE} {p:Pos} (hg:Gl X "list") (hm:X.mg "list" = none) (he:SE X e f) (hs:starEach [e] X.env=(false,eval e X.env) :: starEach [] X.env:=by rfl) (hpl:(backTo pos (starEach [] X.env)).any (·.1)=false:=by rfl) :
  wj X (.Call (.Name "list" p) [e] [] pos) (rA f):=fun F₀ H₀ =>
 PE.weak (qD ku hg hm (show bootBuiltins "list" = some (.type "list") from rfl) (fF (he F₀ H₀) jj hs) (by decide) (by decide) hs hpl) fun σ H Q hq__=>by
  obtain ⟨F,τ,o,τ',E,e1,q⟩:=hq__
  obtain ⟨⟨x,τ1⟩,e2,e1⟩:=bind_some e1
  dsimp only at e1
  split at e1
  ·cases e1
   refine ⟨F,τ,_,_,E,e2,fun F1 H1 v E1 s1 r1=>?_⟩
   obtain ⟨p,xs,rfl,h1,h2⟩:=r1
   refine ⟨p,xs,rfl,.inl (gE.of (E1.g.fh _ _ h1)),fun l hl=>?_⟩
   exact q F1 _ _ [l] (E1.hp (bO hl)) s1 (bW.new E1.g.fh hl h2) (by simp) (fun a ha=>by rw [List.mem_singleton.mp ha]; exact E1.g.sH.free hl) (apart_new E1 hl)
  ·cases e1
   refine ⟨F,τ,_,_,E,e2,fun F1 H1 v E1 s1 r1=>?_⟩
   obtain ⟨p,xs,rfl,h1,h2⟩:=r1
   refine ⟨p,xs,rfl,.inr (bI E1.g.fh h1),fun l hl=>?_⟩
   exact q F1 _ _ [l] (E1.hp (bO hl)) s1 (bW.new E1.g.fh hl h2) (by simp) (fun a ha=>by rw [List.mem_singleton.mp ha]; exact E1.g.sH.free hl) (apart_new E1 hl)
  ·cases e1
end
section
variable {X:Cx} {e:Expr} {pos:Pos}
end
def JL (K:PySem.W.Frag) (n:Nat) (d:List T -> Option (List O)):Sp:=fun vs H Q _=>vs.length=n /\ ∃ F ts os,aI F H /\ aP K F ts vs /\ d ts=some os /\
 ∀ F' H' a ws A,aX F H F' H' -> F' a=some (.tup ws) -> aR K F' H' os ws A -> A.Nodup -> (∀ b ∈ A,H b=none) -> Q (.ref a) H'
structure uh (P:Program) (w:World) (K:PySem.W.Frag) (mg:Str -> Option Value) (base:Heap) (k:Nat) (C:Addr) (m:Str) (n:Nat) (d:List T -> Option (List O)):Prop where
 cl:m7 K C
 ex:∃ f fd ps,eU P w K mg base nN k f fd ps (JL K n d) /\ Binds K fd ps [] /\ Meth K C m f /\ ps.length=n
section
variable {P:Program} {w:World} {K:PySem.W.Frag} {mg:Str -> Option Value} {base:Heap} {j k n:Nat} {C:Addr} {m:Str}
theorem uh.mono {d:List T -> Option (List O)} (D:uh P w K mg base j C m n d) (h:j ≤ k):uh P w K mg base k C m n d:=by
 obtain ⟨f,fd,ps,F,r⟩:=D.ex
 exact ⟨D.cl,f,fd,ps,F.mono h,r⟩
theorem uh.plain {d:List T -> Option (List O)} (D:uh P w K mg base k C m n d):gR P w K mg base k C m n (fun ts=>(d ts).bind fun os=>some (.tup (O.trs os))):=by
 obtain ⟨f,fd,ps,F,r⟩:=D.ex
 refine ⟨D.cl,f,fd,ps,F.imp fun vs H Q E ⟨l,F,ts,t,a,b,c,q⟩=>?_,r⟩
 obtain ⟨os,e1,e2⟩:=bind_some c
 cases e2
 refine ⟨l,F,ts,os,a,b,e1,fun F' H' x ws A g hF ro nd h0=>?_⟩
 have hn:∀ b ∈ A,F' b=none:=fun b hb=>(ro.at b hb).1
 exact q _ H' _ (g.frzO hn h0) ⟨x,ws,rfl,jP.of (cK hn _ _ hF),aR.rep (cK hn) (fun a ha=>dz ha) ro⟩
end
section
variable {X:Cx} {o e:Expr} {pos apos:Pos} {fo:FE} {k n:Nat} {m:Str}
end
abbrev C6:=Addr -> List O -> aA -> Option O
def Mh (K:PySem.W.Frag) (F₀ H₀:Hp) (x:Nat) (f:C6):TS:=fun D σ H=>∃ F τ p os A o,qP K F₀ H₀ F H σ τ x p os A /\ f p os τ=some o /\
 ∀ F' H' v A',aX F₀ H₀ F' H' -> bW K F' H' o v A' -> A'.Nodup -> (∀ a ∈ A',H₀ a=none) -> D.rt v H'
def J6 (X:Cx) (x:Nat) (ss:List Stmt) (f:C6):Prop:=∀ F₀ H₀,iX X ss (Mh X.K F₀ H₀ x f)
open Classical in
def vF (P:O -> Prop):Option O:=if h:∃ o,P o then some h.choose else none
theorem Ci {P:O -> Prop} {o:O} (h:P o) (u:∀ o',P o' -> o'=o):vF P=some o:=by
 have e:∃ o,P o:=⟨o,h⟩
 unfold vF
 rw [dif_pos e,u _ e.choose_spec]
theorem xH {P:O -> Prop} {o:O} (h:vF P=some o):P o:=by
 unfold vF at h
 split at h
 ·next e=>cases h; exact e.choose_spec
 ·cases h
theorem SO.any {X:Cx} {e:Option Expr} {f:FO} (h:SO X e f):PO X e (fun σ H Q=>∃ F₀ H₀,tO X.K F₀ H₀ f σ H Q):=fun pins s σ H Q I ⟨F₀,H₀,q⟩=>h F₀ H₀ pins s σ H Q I q
section
variable {X:Cx} {x y:Nat} {e:Expr} {pos:Pos}
def yL (f:FL) (g:C6):C6:=fun p os τ=>(f p os τ).bind fun r=>g p r.1 r.2
theorem CG {st:Stmt} {rest:List Stmt} {f:FL} {g:C6} (h1:SL X x st f) (h2:J6 X x rest g):J6 X x (st :: rest) (yL f g):=fun F₀ H₀=>iX.weak (eK (h1 F₀ H₀) (h2 F₀ H₀)) fun D σ H hq__=>by
 obtain ⟨F,τ,p,os,A,o,d,e1,q⟩:=hq__
 obtain ⟨r1,e2,e1⟩:=bind_some e1
 exact ⟨F,τ,p,os,A,r1,d,e2,fun F1 H1 σ1 A1 d1 s1=>⟨F1,r1.2,p,r1.1,A1,o,d1,e1,q⟩⟩
end
section
variable {K:PySem.W.Frag} {F₀ H₀ F H F' H':Hp} {σ σ':L2.St} {τ τ':aA} {A:List Addr} {o:O} {v:V}
end
section
variable {X:Cx} {x y:Nat} {e:Expr} {pos:Pos}
end
open PySem PySem.Spec PyProof.Rows L2
section
variable {X:Cx} {es:List Expr} {pos:Pos}
def JX (i j k:Nat) (ta:TA):TS:=fun D σ H=>ta σ H fun vs H1=>∃ v w z,vs=[v,w,z] /\ D.nx (((σ.set i (some v)).set j (some w)).set k (some z)) H1
theorem Em {i j k:Nat} {x y z:Str} {a b c:Expr} {ta:TA} {px py pz pt:Pos} {kt k2 pt2} (hc:X.calm=true) (hN:X.N.Nodup) (hi:X.N[i]? = some x) (hj:X.N[j]? = some y) (hk:X.N[k]? = some z) (hij:i ≠ j) (hik:i ≠ k) (hjk:j ≠ k)
  (hx:X.env.scope.names.lookup x=some .local) (hy:X.env.scope.names.lookup y=some .local) (hz:X.env.scope.names.lookup z=some .local) (ha:PA X [a,b,c] ta)
  (hw:swappedStores [.Tuple [.Name x px,.Name y py,.Name z pz] kt pt] (.Tuple [a,b,c] k2 pt2) X.env=pure (some [x,y,z]))
  (hs:swapsWithSole [.Tuple [.Name x px,.Name y py,.Name z pz] kt pt] (.Tuple [a,b,c] k2 pt2) pos.line X.env=pure false:=by rfl) :
  PS X (.Assign [.Tuple [.Name x px,.Name y py,.Name z pz] kt pt] (.Tuple [a,b,c] k2 pt2) pos) (JX i j k ta):=by
 intro pins s σ H D I h
 rw [exec_Assign_arm]
 refine wpAny_bind (wpAny_standAt ?_)
 rw [hs]
 refine wpAny_bind (wpAny_pure ?_)
 rw [if_neg (by decide)]
 refine wpAny_bind (Tuple_ (cI (ha _ pins s σ H _ I h) fun us s1 ⟨vs,H1,I1,r1,q1⟩=>?_))
 obtain ⟨v,w,q,e1,q1⟩:=q1
 subst e1
 obtain ⟨u1,u2,u3,rfl,rv,rw',rq⟩:∃ u1 u2 u3,us=[u1,u2,u3] /\ RelV v u1 /\ RelV w u2 /\ RelV q u3:=by
  cases r1 with
  | cons p q =>
   cases q with
   | cons p' q' =>
    cases q' with
    | cons p'' q'' =>
     cases q''
     exact ⟨_,_,_,rfl,p,p',p''⟩
 refine wpAny_newObj_type ?_ (by show 3 ≤ sizeLine; decide)
 have I2:Inv X pins σ H1 { s1 with heap:=s1.heap.push { cls:=.type "tuple", data:=.seq [u1,u2,u3].toArray } }:=I1.kept (t':=s1.toks) fun b o e=>Heap.get?_push_of_some _ e
 rw [hw]
 refine wpAny_bind (wpAny_pure ?_)
 show wpAny (model X.prog X.w) X.A (do rule "assign.swapped-stores"; let items <- unpackItems (.ref s1.heap.objs.size) 3 none; assignInOrder [fun v=>bindName X.env z v,fun v=>bindName X.env y v,fun v=>bindName X.env x v] items.reverse; pure Flow.next) _ _ _
 refine wpAny_bind (wpAny_rule (wpAny_bind (unpackItems_tuple (items:=#[u1,u2,u3]) (I.ok.hd hc) (IsTup.new s1.heap _) fun h' hx'=>?_)))
 have I3:=I2.kept (h':=h') (t':=s1.toks) fun b o e=>hx' b o (Nat.ne_of_lt (Heap.lt_size e)) e
 show wpAny _ _ (assignInOrder [fun v=>bindName X.env z v,fun v=>bindName X.env y v,fun v=>bindName X.env x v] [u3,u2,u1] >>= fun _=>pure Flow.next) _ _ _
 refine wpAny_bind (assignInOrder_cons (wpAny_bindName (fL I3 hN hk (.inl hz) rq (fun s2 I4=>?_) (.inr hz))))
 refine assignInOrder_cons (wpAny_bindName (fL I4 hN hj (.inl hy) rw' (fun s3 I5=>?_) (.inr hy)))
 refine assignInOrder_cons (wpAny_bindName (fL I5 hN hi (.inl hx) rv (fun s4 I6=>assignInOrder_nil (wpAny_pure ?_)) (.inr hx)))
 rw [List.set_comm _ _ (Ne.symm hjk),List.set_comm _ _ (Ne.symm hik),List.set_comm _ _ (Ne.symm hij)] at I6
 exact ⟨_,H1,I6,q1⟩
def yr (i j k:Nat) (g:FA):FS:=fun τ=>(g τ).bind fun p=>match p.1 with
 | [t,u,v]=>some (.nx (((p.2.set i (some (.sh t))).set j (some (.sh u))).set k (some (.sh v))))
 | _=>none
theorem EL {i j k:Nat} {x y z:Str} {a b c:Expr} {ga:FA} {px py pz pt:Pos} {kt k2 pt2} (hc:X.calm=true) (hN:X.N.Nodup) (hi:X.N[i]? = some x) (hj:X.N[j]? = some y) (hk:X.N[k]? = some z) (hij:i ≠ j) (hik:i ≠ k) (hjk:j ≠ k)
  (hx:X.env.scope.names.lookup x=some .local) (hy:X.env.scope.names.lookup y=some .local) (hz:X.env.scope.names.lookup z=some .local) (ha:SA X [a,b,c] ga)
  (hw:swappedStores [.Tuple [.Name x px,.Name y py,.Name z pz] kt pt] (.Tuple [a,b,c] k2 pt2) X.env=pure (some [x,y,z]))
  (hs:swapsWithSole [.Tuple [.Name x px,.Name y py,.Name z pz] kt pt] (.Tuple [a,b,c] k2 pt2) pos.line X.env=pure false:=by rfl) :
  SS X (.Assign [.Tuple [.Name x px,.Name y py,.Name z pz] kt pt] (.Tuple [a,b,c] k2 pt2) pos) (yr i j k ga):=fun F₀ H₀=>PS.weak (Em hc hN hi hj hk hij hik hjk hx hy hz (ha F₀ H₀) hw hs) fun D σ H hq__=>by
 obtain ⟨F,τ,r,E,e1,q⟩:=hq__
 obtain ⟨⟨ts,τ1⟩,e2,e1⟩:=bind_some e1
 dsimp only at e1
 split at e1
 ·next t u v =>
  cases e1
  refine ⟨F,τ,_,_,E,e2,fun F1 H1 vs E1 s1 r1=>?_⟩
  obtain ⟨v1,_,rfl,k1,v2,_,rfl,k2,v3,_,rfl,k3,rfl⟩:=r1
  exact ⟨v1,v2,v3,rfl,q F1 H1 _ (((E1.set k1).set k2).set k3) s1⟩
 ·cases e1
end
open PySem PySem.Spec PyProof.Rows L2
abbrev FX:=aA -> Option (Addr × aA)
def qR (b:Bool) (X:Cx) (pins:List (Addr × Obj)) (F₀ H₀ F:Hp) (C:Addr) (τ':aA) (e:Value) (s':Shared):Prop:=
 ∃ σ' F' H',((b=true /\ Made X pins σ' H' C e s') \/ FN X pins σ' H' C e s') /\ az X.K F₀ H₀ F' H' σ' τ' /\ aI F F'
def LB (b:Bool) (X:Cx) (e:Expr) (fx:FX):Prop:=∀ F₀ H₀ pins s σ H F τ C τ',Inv X pins σ H s -> az X.K F₀ H₀ F H σ τ -> fx τ=some (C,τ') -> wpAny (model X.prog X.w) X.A (eval e X.env) (fun _ _=>False) (qR b X pins F₀ H₀ F C τ') s
def SX (b:Bool) (X:Cx) (st:Stmt) (fx:FX):Prop:=∀ F₀ H₀ pins s σ H F τ C τ',Inv X pins σ H s -> az X.K F₀ H₀ F H σ τ -> fx τ=some (C,τ') -> wpAny (model X.prog X.w) X.A (exec st X.env) (fun _ _=>False) (qR b X pins F₀ H₀ F C τ') s
def AF (b:Bool) (X:Cx) (ss:List Stmt) (fx:FX):Prop:=∀ F₀ H₀ pins s σ H F τ C τ',Inv X pins σ H s -> az X.K F₀ H₀ F H σ τ -> fx τ=some (C,τ') -> wpAny (model X.prog X.w) X.A (execs ss X.env) (fun _ _=>False) (qR b X pins F₀ H₀ F C τ') s
theorem qR.of {b:Bool} {X:Cx} {pins:List (Addr × Obj)} {F₀ H₀ F F1:Hp} {C:Addr} {τ':aA} {e:Value} {s':Shared} (s:aI F F1) (p:qR b X pins F₀ H₀ F1 C τ' e s'):qR b X pins F₀ H₀ F C τ' e s':=by
 obtain ⟨σ',F',H',z,E,s2⟩:=p
 exact ⟨σ',F',H',z,E,s.trans s2⟩
theorem qR.any {X:Cx} {pins:List (Addr × Obj)} {F₀ H₀ F:Hp} {C:Addr} {τ':aA} {e:Value} {s':Shared} (p:qR false X pins F₀ H₀ F C τ' e s'):qR true X pins F₀ H₀ F C τ' e s':=by
 obtain ⟨σ',F',H',z,E,s2⟩:=p
 rcases z with ⟨z,_⟩ | z
 ·cases z
 ·exact ⟨σ',F',H',.inr z,E,s2⟩
def Lf (K:PySem.W.Frag) (n:Nat) (dx:List T -> Option Addr):Sp:=fun vs H _ E=>vs.length=n /\ ∃ F ts C,aI F H /\ aP K F ts vs /\ dx ts=some C /\ ∀ e F' H',aX F H F' H' -> E e (some C) H'
structure nR (P:Program) (w:World) (K:PySem.W.Frag) (mg:Str -> Option Value) (base:Heap) (k:Nat) (x:Str) (n:Nat) (dx:List T -> Option Addr):Prop where
 ex:∃ f fd ps,eU P w K mg base (Ie P w) k f fd ps (Lf K n dx) /\ Binds K fd ps [] /\ PySem.W.keepIn K (.ref f)=true /\ mg x=some (.ref f) /\ ps.length=n
def LX (dx:List T -> Option Addr):List T -> Option Addr
 | .ptr _ :: ts=>dx ts
 | _=>none
structure AM (P:Program) (w:World) (K:PySem.W.Frag) (mg:Str -> Option Value) (base:Heap) (k:Nat) (x:Str) (C:Addr) (n:Nat) (dx:List T -> Option Addr):Prop where
 ex:∃ j f fd ps,k=j + 1 /\ Mk K C f /\ eU P w K mg base (Ie P w) j f fd ps (Lf K (n + 1) (LX dx)) /\ Binds K fd ps [] /\ mg x=some (.ref C) /\ ps.length=n + 1
section
variable {P:Program} {w:World} {K:PySem.W.Frag} {mg:Str -> Option Value} {base:Heap} {j k n:Nat} {x:Str} {C:Addr} {dx:List T -> Option Addr}
theorem nR.mono (D:nR P w K mg base j x n dx) (h:j ≤ k):nR P w K mg base k x n dx:=by
 obtain ⟨f,fd,ps,F,r⟩:=D.ex
 exact ⟨f,fd,ps,F.mono h,r⟩
theorem AM.mono (D:AM P w K mg base j x C n dx) (h:j ≤ k):AM P w K mg base k x C n dx:=by
 obtain ⟨i,f,fd,ps,e,M,F,r⟩:=D.ex
 exact ⟨k - 1,f,fd,ps,by omega,M,F.mono (by omega),r⟩
end
section
variable {X:Cx} {e:Expr} {es:List Expr} {pos:Pos} {g:FA} {b:Bool}
def oj (dx:List T -> Option Addr) (g:FA):FX:=fun τ=>(g τ).bind fun p=>(dx p.1).bind fun C=>some (C,p.2)
theorem zy {k n:Nat} {x:Str} {p:Pos} {dx:List T -> Option Addr} (hx:∀ e s,X.xe e s -> False) (D:nR X.prog X.w X.K X.mg X.base k x n dx) (hr:cY k X.A) (hg:Gl X x) (ha:SA X (e :: es) g) (hl:∀ τ ts τ',g τ=some (ts,τ') -> ts.length=n) (hdb:(x == ("__debug__" : Str))=false:=by decide)
  (he:starEach (e :: es) X.env=(false,eval e X.env) :: starEach es X.env:=by rfl) (hpl:(backTo pos (starEach es X.env)).any (·.1)=false:=by rfl):LB b X (.Call (.Name x p) (e :: es) [] pos) (oj dx g):=by
 obtain ⟨f,fd,ps,Fk,hb,hk,hm,hn⟩:=D.ex
 intro F₀ H₀ pins s σ H F τ C τ' I E e1
 obtain ⟨⟨ts,τ1⟩,e2,e1⟩:=bind_some e1
 obtain ⟨C',e3,e1⟩:=bind_some e1
 cases e1
 have hlen:=hl _ _ _ e2
 refine wpAny_Call_Name_kw (jE I hg hm ?_ hdb)
 refine PySem.W.callWith_K (h₀:=X.base) I.ok.mod.kin hk (wpAny_mono (ha F₀ H₀ pos pins s σ H (fun vs H1=>∃ F1,az X.K F₀ H₀ F1 H1 σ τ1 /\ aI F F1 /\ aP X.K F1 ts vs) I ⟨F,τ,ts,τ1,E,e2,fun F1 H1 vs E1 s1 r1=>⟨F1,E1,s1,r1⟩⟩) (fun us s1 z=>?_) fun e s z=>False.elim (hx e s z)) he hpl
 obtain ⟨vs,H1,I1,r,F1,E1,sF,r1⟩:=z
 refine ⟨I1.kIn,?_⟩
 have hvl:vs.length=n:=by rw [r1.length]; exact hlen
 have hul:(us ++ []).length=ps.length:=by rw [List.append_nil,<- r.length,hvl,hn]
 refine wpAny_call (codeAny_mono (Fk.run X.A X.stack s1 H1 ⟨[] ++ us,[]⟩ (us ++ []) (vs ++ []) (fun _ _=>False) (fun _ oc H'=>oc=some C /\ ∃ F',az X.K F₀ H₀ F' H' σ τ1 /\ aI F F') hr I1.env0 (hb s1 us I1.kIn hul) (r.append .nil) ⟨by rw [List.append_nil]; exact hvl,F1,ts,C,E1.g.fh,by rw [List.append_nil]; exact r1,e3,fun e F' H' gr=>⟨rfl,F',E1.grow gr,sF.trans gr.sF⟩⟩) fun rr s' hq=>?_)
 cases rr with
 | error ev =>
  obtain ⟨a,C2,H',rfl,fl,ec,F',E2,s2⟩:=hq
  cases ec
  exact ⟨σ,F',H',.inr ⟨a,s1,H1,rfl,I1,fl⟩,E2,s2⟩
 | ok fl =>
  cases fl with
  | ret u=>obtain ⟨v,H',_,_,_,_,_,q⟩:=hq; exact q.elim
  | next=>exact False.elim hq
  | brk=>exact False.elim hq
  | cont=>exact False.elim hq
def wL (c:FT) (f1 f2:FX):FX:=fun τ=>(c τ).bind fun p=>if p.1=true then f1 p.2 else f2 p.2
def Gq:FX:=fun _=>none
theorem CN {ss:List Stmt}:AF b X ss Gq:=fun F₀ H₀ pins s σ H F τ C τ' I E e1=>by cases e1
theorem FC {c:Expr} {tc:FT} {as bs:List Stmt} {f1 f2:FX} (hx:∀ e s,X.xe e s -> False) (hc:ST X c tc) (h1:AF b X as f1) (h2:AF b X bs f2):SX b X (.If c as bs pos) (wL tc f1 f2):=fun F₀ H₀ pins s σ H F τ C τ' I E e1=>by
 obtain ⟨⟨c0,τ1⟩,e2,e1⟩:=bind_some e1
 refine wpAny_If (wpAny_mono (hc F₀ H₀ pins s σ H (fun d H1=>d=c0 /\ ∃ F1,az X.K F₀ H₀ F1 H1 σ τ1 /\ aI F F1) I ⟨F,τ,c0,τ1,E,e2,fun F1 H1 E1 s1=>⟨rfl,F1,E1,s1⟩⟩) (fun d s1 z=>?_) fun e s z=>False.elim (hx e s z))
 obtain ⟨H1,I1,rfl,F1,E1,sF⟩:=z
 dsimp only at e1
 cases d with
 | true =>
  rw [if_pos rfl] at e1
  exact wpAny_mono (h1 F₀ H₀ pins s1 σ H1 F1 τ1 C τ' I1 E1 e1) (fun _ _ z=>z.elim) fun _ _ z=>z.of sF
 | false =>
  rw [if_neg Bool.false_ne_true] at e1
  exact wpAny_mono (h2 F₀ H₀ pins s1 σ H1 F1 τ1 C τ' I1 E1 e1) (fun _ _ z=>z.elim) fun _ _ z=>z.of sF
theorem ip {st:Stmt} {rest:List Stmt} {fx:FX} (h:SX b X st fx):AF b X (st :: rest) fx:=fun F₀ H₀ pins s σ H F τ C τ' I E e1 =>
 wpAny_execs_cons (wpAny_mono (h F₀ H₀ pins s σ H F τ C τ' I E e1) (fun _ _ z=>z.elim) fun _ _ z=>z)
def yt (f:FS) (fx:FX):FX:=fun τ=>(f τ).bind fun r=>match r with
 | .nx τ1=>fx τ1
 | _=>none
theorem CM {st:Stmt} {rest:List Stmt} {f:FS} {fx:FX} (hx:∀ e s,X.xe e s -> False) (h1:SS X st f) (h2:AF b X rest fx):AF b X (st :: rest) (yt f fx):=fun F₀ H₀ pins s σ H F τ C τ' I E e1=>by
 obtain ⟨r,e2,e1⟩:=bind_some e1
 cases r with
 | nx τ1 =>
  refine wpAny_execs_cons (wpAny_mono (h1 F₀ H₀ pins s σ H { nx:=fun σ1 H1=>∃ F1,az X.K F₀ H₀ F1 H1 σ1 τ1 /\ aI F F1,rt:=fun _ _=>False } I ⟨F,τ,.nx τ1,E,e2,fun F1 H1 σ1 E1 s1=>⟨F1,E1,s1⟩⟩) (fun fl s1 z=>?_) fun e s z=>False.elim (hx e s z))
  cases fl with
  | next =>
   obtain ⟨σ1,H1,I1,F1,E1,sF⟩:=z
   exact wpAny_mono (h2 F₀ H₀ pins s1 σ1 H1 F1 τ1 C τ' I1 E1 e1) (fun _ _ z=>z.elim) fun _ _ z=>z.of sF
  | ret v=>obtain ⟨_,_,_,_,_,z⟩:=z; exact z.elim
  | brk=>obtain ⟨_,_,_,z⟩:=z; exact z.elim
  | cont=>obtain ⟨_,_,_,z⟩:=z; exact z.elim
 | rt t=>cases e1
 | bk t=>cases e1
 | ct t=>cases e1
def wM (f1 f2:FX):FX:=fun τ=>match f1 τ with
 | some z=>some z
 | none=>f2 τ
theorem HA {ss:List Stmt} {f1 f2:FX} (h1:AF b X ss f1) (h2:AF b X ss f2):AF b X ss (wM f1 f2):=fun F₀ H₀ pins s σ H F τ C τ' I E e1=>by
 unfold wM at e1
 split at e1
 ·next z e2=>cases e1; exact h1 F₀ H₀ pins s σ H F τ C τ' I E e2
 ·exact h2 F₀ H₀ pins s σ H F τ C τ' I E e1
def rC (C:Addr) (g:FA):FX:=fun τ=>(g τ).bind fun p=>if p.1.length ≤ 1000 then some (C,p.2) else none
theorem vU {C0:Addr} {up:List Addr} {x:Str} {np cpos:Pos} (hc:X.calm=true) (hx:∀ e s,X.xe e s -> False) (Er:nS X.K C0 up) (hg:Gl X x) (hm:X.mg x=some (.ref C0)) (ha:SA X [e] g) (hdb:(x == ("__debug__" : Str))=false:=by decide)
  (he:starEach [e] X.env=(false,eval e X.env) :: starEach [] X.env:=by rfl):SX true X (.Raise (some (.Call (.Name x np) [e] [] cpos)) none pos) (rC C0 g):=fun F₀ H₀ pins s σ H F τ C τ' I E e1=>by
 obtain ⟨⟨ts,τ1⟩,e2,e1⟩:=bind_some e1
 dsimp only at e1
 split at e1
 ·next hl =>
  cases e1
  exact Cr hc hx Er hg hm (ha F₀ H₀) I ⟨F,τ,ts,_,E,e2,fun F1 H1 vs E1 s1 r1=>⟨by rw [r1.length]; exact Nat.le_of_lt (L2.dR hl),fun h' a s2 args I2 hm'=>⟨σ,F1,H1,.inl ⟨rfl,a,s2.heap,args,rfl,I2,hm'⟩,E1,s1⟩⟩⟩ hdb he
 ·cases e1
end
open PySem PySem.Spec PyProof.Rows L2
def uC (m n:Nat) (fx:FX):List T -> Option Addr:=fun ts=>if ts.length=n then (fx (ts.map (fun t=>some (Sl.sh t)) ++ List.replicate (m - n) none)).bind fun p=>some p.1 else none
section
variable {P:Program} {w:World} {K:PySem.W.Frag} {mg:Str -> Option Value} {base:Heap}
theorem Gs {x qual:Str} {st:Stmt} {f:Addr} {fd:FuncData} {N ps:List Str} {k:Nat} {fx:FX} {dx:List T -> Option Addr} (F:eR K x qual st f fd) (S:aL N ps (av st))
  (hd:∀ ts C,dx ts=some C -> ts.length=ps.length -> ∃ τ',fx (ts.map (fun t=>some (Sl.sh t)) ++ List.replicate (N.length - ps.length) none)=some (C,τ'))
  (h:∀ (cdv:Value) (A:Around) (outer:List Env) (s:Shared) (H:Hp) (E:XK),cY k (A.deeper (envOfC qual (av st) s.heap.objs.size f cdv)) -> AF true (lS (Ie P w) P w K mg base N qual (av st) f cdv A outer s H E).nox (cQ st) fx) :
  eU P w K mg base (Ie P w) (k + 1) f fd ps (Lf K ps.length dx):=by
 obtain ⟨oc,od,kV,doc,pm,an,cdv,ct,osl,rfl,lk,hcd⟩:=F.ex
 refine Fj lk hcd S (fun vs H Q E z=>z.1) fun A outer s H vs Q E hr z=>?_
 obtain ⟨hl,F1,ts,C,sm,r,e,q⟩:=z
 obtain ⟨τ',e1⟩:=hd ts C e (by rw [<- r.length]; exact hl)
 refine ⟨fun _ σ1 H1=>∃ τ,az K F1 H F1 H1 σ1 τ /\ fx τ=some (C,τ'),?_,?_⟩
 ·intro pins s1 σ1 H1 D I z
  obtain ⟨τ,E1,e2⟩:=z
  refine wpAny_mono (h cdv A outer s H E hr F1 H pins s1 σ1 H1 F1 τ C τ' (I.wish _) E1 e2) (fun _ _ z=>z.elim) fun ev s2 z=>?_
  obtain ⟨σ2,F2,H2,z,E2,_⟩:=z
  rcases z with ⟨_,z⟩ | z
  ·refine wpAny_mono (xm (E:=fun _ _=>False) rfl rfl rfl z) (fun _ s3 z=>?_) fun _ _ z=>z.elim
   obtain ⟨a,rfl,fl⟩:=z
   exact ⟨a,C,H2,rfl,fl,q _ F2 H2 E2.g⟩
  ·refine wpAny_mono (xk (E:=fun _ _=>False) rfl rfl rfl z) (fun _ s3 z=>?_) fun _ _ z=>z.elim
   obtain ⟨a,rfl,fl⟩:=z
   exact ⟨a,C,H2,rfl,fl,q _ F2 H2 E2.g⟩
 ·refine ⟨_,?_,e1⟩
  have:=gf (N:=N) sm r
  rw [show ts.length=ps.length by rw [<- r.length]; exact hl] at this
  exact this
theorem yl {x qual:Str} {st:Stmt} {f:Addr} {fd:FuncData} {N ps:List Str} {k:Nat} {fx:FX} (F:eR K x qual st f fd) (S:aL N ps (av st)) (hb:Binds K fd ps []) (hm:mg x=some (.ref f))
  (h:∀ (cdv:Value) (A:Around) (outer:List Env) (s:Shared) (H:Hp) (E:XK),cY k (A.deeper (envOfC qual (av st) s.heap.objs.size f cdv)) -> AF true (lS (Ie P w) P w K mg base N qual (av st) f cdv A outer s H E).nox (cQ st) fx) :
  nR P w K mg base (k + 1) x ps.length (uC N.length ps.length fx):=by
 refine ⟨f,fd,ps,Gs F S (fun ts C e hl=>?_) h,hb,F.kp,hm,rfl⟩
 unfold uC at e
 rw [if_pos hl] at e
 obtain ⟨⟨C',τ'⟩,e1,e⟩:=bind_some e
 cases e
 exact ⟨τ',e1⟩
end
theorem az.del {K:PySem.W.Frag} {F₀ H₀ F H:Hp} {σ:L2.St} {τ:aA} {i:Nat} (E:az K F₀ H₀ F H σ τ):az K F₀ H₀ F H (σ.set i none) (τ.set i none):=by
 have key:∀ (j:Nat) (s:Sl),(τ.set i none)[j]? = some (some s) -> j ≠ i /\ τ[j]? = some (some s):=fun j s e=>by
  have hj:j ≠ i:=fun z=>by
   rw [z] at e
   by_cases hi:i < τ.length
   ·rw [List.getElem?_set_self hi] at e; cases e
   ·rw [List.getElem?_eq_none (by rw [List.length_set]; omega)] at e; cases e
  rw [List.getElem?_set_ne (Ne.symm hj)] at e
  exact ⟨hj,e⟩
 refine ⟨E.g,by rw [List.length_set,List.length_set]; exact E.len,fun j s e=>?_,fun j l ts us p hjl e1 e2 e3=>?_⟩
 ·obtain ⟨hj,e⟩:=key j s e
  obtain ⟨v,h1,h2⟩:=E.sl j s e
  exact ⟨v,by rw [List.getElem?_set_ne (Ne.symm hj)]; exact h1,h2⟩
 ·obtain ⟨hj,e1⟩:=key j _ e1
  obtain ⟨hl,e2⟩:=key l _ e2
  rw [List.getElem?_set_ne (Ne.symm hj)] at e3
  rw [List.getElem?_set_ne (Ne.symm hl)]
  exact E.dj j l ts us p hjl e1 e2 e3
def Bm (iE:Nat) (tbl:List Addr) (fb:FS) (fx:FX) (fh:FS):FS:=fun τ=>match fb τ with
 | some r=>some r
 | none=>(fx τ).bind fun p=>if p.1 ∈ tbl then (fh (p.2.set iE (some (.sh (.exc p.1))))).bind fun r=>match r with
  | .nx τ2=>some (.nx (τ2.set iE none))
  | .rt t=>some (.rt t)
  | _=>none else none
section
variable {X:Cx} {pos:Pos}
theorem Hz {body suite:List Stmt} {b₀:Stmt} {x n:Str} {np hpos:Pos} {D:Addr} {bD:List Value} {iE:Nat} {tbl:List Addr} {fb fh:FS} {fx:FX} (hx:∀ e s,X.xe e s -> False) (hst:X.stack=X.env :: X.outer) (hf:X.env.frame=some X.env.locals) (hN:X.N.Nodup) (hi:X.N[iE]? = some n)
  (hl:X.env.scope.names.lookup n=some .local) (hlo:X.env.kindOf n=some .local) (hg:Gl X x) (hm:X.mg x=some (.ref D)) (cD:iS X.K D bD) (hbD:bD.contains (.type "BaseException")=true) (ht:∀ C ∈ tbl,∃ up,nS X.K C up /\ (D=C \/ D ∈ up))
  (hb:qS X body fb) (hxb:AF false X body fx) (hh:∀ a,qS (X.inS (.ref a)) (b₀ :: suite) fh) (hdb:(x == ("__debug__" : Str))=false:=by decide) :
  SS X (.Try body [.ExceptHandler (some (.Name x np)) (some n) (b₀ :: suite) hpos] [] [] pos) (Bm iE tbl fb fx fh):=by
 intro F₀ H₀ pins s σ H Dn I z
 obtain ⟨F,τ,r,E,e1,q⟩:=z
 unfold Bm at e1
 split at e1
 ·next r' eb =>
  cases e1
  refine wpAny_Try_except (wpAny_mono (hb F₀ H₀ pins s σ H Dn I ⟨F,τ,_,E,eb,q⟩) (fun f s1 z=>?_) fun e s z=>False.elim (hx e s z))
  cases f with
  | next =>
   obtain ⟨σ',H',I',z⟩:=z
   exact nG pins s1 σ' H' Dn I' z
  | ret v=>exact z
  | brk=>exact z
  | cont=>exact z
 ·obtain ⟨⟨C,τ1⟩,ex,e1⟩:=bind_some e1
  dsimp only at e1
  split at e1
  ·next hC =>
   obtain ⟨r',eh,e1⟩:=bind_some e1
   obtain ⟨up,cC,hD⟩:=ht C hC
   refine wpAny_Try_except (wpAny_mono (hxb F₀ H₀ pins s σ H F τ C τ1 I E ex) (fun _ _ z=>z.elim) fun ev s1 z=>?_)
   obtain ⟨σ',F',H',z,E2,sF⟩:=z
   rcases z with ⟨z,_⟩ | z
   ·cases z
   refine wx hst hf z cC cD hbD hD hg hm hN hi hl hlo (fun a s2 na I2=>?_) hdb
   have nF:F' a=none:=E2.g.fh.free na
   have gr:aX F' H' (upd F' a (.ext (h9 a C))) (upd H' a (.ext (h9 a C))):=⟨fun c o e=>by rw [aE (bq e nF)]; exact e,fun c o e=>by rw [aE (bq e na)]; exact e,fun c o e=>by
    by_cases hc:c=a
    ·rw [hc] at e ⊢
     rw [aN] at e ⊢
     exact e
    ·rw [aE hc] at e ⊢
     exact E2.g.fh _ _ e,fun c o e=>by
    by_cases hc:c=a
    ·exact .inr (by rw [hc]; exact na)
    ·rw [aE hc] at e
     exact .inl e⟩
   have E3:az X.K F₀ H₀ (upd F' a (.ext (h9 a C))) (upd H' a (.ext (h9 a C))) (σ'.set iE (some (.ref a))) (τ1.set iE (some (.sh (.exc C)))):=(E2.grow gr).set (t:=.exc C) ⟨a,rfl,aN⟩
   refine hh a F₀ H₀ pins s2 _ _ (Dn.gone iE) I2 ⟨_,_,r',E3,eh,?_⟩
   cases r' with
   | nx τ2 =>
    cases e1
    exact fun F3 H3 σ3 E4 s4=>q F3 H3 (σ3.set iE none) E4.del (sF.trans (gr.sF.trans s4))
   | rt t =>
    cases e1
    exact q
   | bk τ2=>cases e1
   | ct τ2=>cases e1
  ·cases e1
end
structure zJ (K:PySem.W.Frag) (Ct C:Addr) (b:Bool):Prop where
 ex:∃ bm,we K C bm
 kit:PySem.W.kitOne K (.ref C) (.ref Ct)=some b
section
variable {X:Cx} {e:Expr} {pos:Pos}
theorem zO {Ct:Addr}:eW X (.builtin "isinstance") (fun xs H Q=>∃ a C b,xs=[.ref a,.ref Ct] /\ H a=some (.ext (h9 a C)) /\ zJ X.K Ct C b /\ Q (.bl b) H):=by
 intro pins s σ H xs us Q I r h
 obtain ⟨a,C,b,rfl,ea,ok,q⟩:=h
 obtain ⟨u1,u2,rfl,ra,rb⟩:=Vals.two r
 cases (show u2=Value.ref Ct from rb)
 cases (show u1=Value.ref a from ra)
 obtain ⟨bm,ax⟩:=ok.ex
 obtain ⟨ph,_⟩:=(show dY X.prog X.w H s.heap a (.ext (h9 a C)) from I.hok a _ ea)
 exact PySem.W.kia_one (BI ax) I.kIn ph ok.kit (fun z=>nomatch z) fun tk=>⟨.bl b,H,I.tok tk,rfl,q⟩
def kB (tbl:List (Addr × Bool)) (fe:FE):FE:=fun τ=>(fe τ).bind fun p=>match p.1 with
 | .exc C=>(findB C tbl).bind fun b=>some (.bl b,p.2)
 | _=>none
theorem zj {Ct:Addr} {x:Str} {p p':Pos} {fe:FE} {tbl:List (Addr × Bool)} (ht:∀ a ∈ tbl,zJ X.K Ct a.1 a.2) (hg:Gl X "isinstance") (hm:X.mg "isinstance" = none) (hgx:Gl X x) (hmx:X.mg x=some (.ref Ct)) (he:SE X e fe)
  (hs:starEach [e,.Name x p] X.env=(false,eval e X.env) :: starEach [.Name x p] X.env:=by rfl) (hs2:starEach [.Name x p] X.env=(false,eval (.Name x p) X.env) :: starEach [] X.env:=by rfl) (hpl:(backTo pos (starEach [.Name x p] X.env)).any (·.1)=false:=by rfl) (hdx:(x == ("__debug__" : Str))=false:=by decide) :
  SE X (.Call (.Name "isinstance" p') [e,.Name x p] [] pos) (kB tbl fe):=fun F₀ H₀ =>
 PE.weak (vD zO hg hm (show bootBuiltins "isinstance" = some (.builtin "isinstance") from rfl) (fF (he F₀ H₀) (fF (tx (v:=.ref Ct) hgx hmx rfl hdx) jj hs2) hs) (by decide) (by decide) hs hpl) fun σ H Q h=>by
  obtain ⟨F,τ,t,τ',E,e1,q⟩:=h
  obtain ⟨⟨y,τ1⟩,e2,e1⟩:=bind_some e1
  dsimp only at e1
  split at e1
  ·next C =>
   obtain ⟨b,e3,e1⟩:=bind_some e1
   cases e1
   refine ⟨F,τ,_,_,E,e2,fun F1 H1 v E1 s1 r1=>?_⟩
   obtain ⟨a,rfl,h1⟩:=r1
   exact ⟨a,C,b,rfl,E1.g.fh _ _ h1,ht _ (qz e3),q F1 H1 _ E1 s1 rfl⟩
  ·cases e1
end
open PySem PySem.Spec PyProof.Rows L2
section
variable {X:Cx} {es:List Expr} {pos:Pos}
end
def Fe (K:PySem.W.Frag) (C:Addr) (bm:List Value):Bool:=match K.lookup C with
 | some ⟨.type t,_,.cls ⟨_,_,mro,N,_,_,_,_,_,_,hd⟩,⟨[_,_,_,_,some (.builtin nid),_]⟩⟩=>t == "type" && decide (mro=.ref C :: bm) && !hd && nid == "ValueError.__new__" && (match K.lookup N with
  | some ⟨_,_,.dict es _,_⟩=>es.all (fun e=>match e.key with | .str _ _=>true | _=>false) && (nsFind es "__init__").isNone
  | _=>false)
 | _=>false
theorem iS.of {K:PySem.W.Frag} {C:Addr} {bm:List Value} (h:Fe K C bm=true):iS K C bm:=by
 unfold Fe at h
 split at h
 ·next t dd nm bs mro N q hdct sn sub ab col hd k0 k1 k2 k3 nid k5 e1 =>
  simp only [Bool.and_eq_true,beq_iff_eq,decide_eq_true_eq,Bool.not_eq_true'] at h
  obtain ⟨⟨⟨⟨rfl,rfl⟩,rfl⟩,rfl⟩,h⟩:=h
  split at h
  ·next c d es ep sl e2 =>
   simp only [Bool.and_eq_true,Option.isNone_iff_eq_none] at h
   exact ⟨N,nm,q,bs,hdct,sn,sub,ab,col,_,k0,k1,k2,k3,k5,_,es,ep,e1,e2,rfl,h.1,h.2⟩
  ·cases h
 ·cases h
open PySem PySem.Spec PyProof.Rows L2
section
variable {X:Cx} {r t:Nat} {rn tn:Str} {p1 p2 p3 p4 p5 p6 pos q1 q3 q4 q5 q6 pos':Pos}
end
open PySem PySem.Spec PyProof.Rows L2
section
variable {K:PySem.W.Frag} {F₀ H₀ F H:Hp} {σ:L2.St} {τ:aA} {A:List Addr}
theorem m8.new (D:m8 K F₀ H₀ F H σ τ A) {q:Addr} (hq:H q=none) (o:HO):m8 K F₀ H₀ F (L2.upd H q o) σ τ A:=
 ⟨D.E.hp (bO hq),fun a ha=>⟨(D.lies a ha).1,by
  obtain ⟨vs,h⟩:=(D.lies a ha).2
  exact ⟨vs,by rw [aE (fun z:a=q=>by rw [z,hq] at h; cases h)]; exact h⟩⟩,D.h0,D.ap⟩
theorem m8.add (D:m8 K F₀ H₀ F H σ τ A) {q:Addr} (hq:H q=none) (ws:List V):m8 K F₀ H₀ F (L2.upd H q (.lst ws)) σ τ (q :: A):=by
 have N:=D.new hq (.lst ws)
 refine ⟨N.E,fun a ha=>?_,fun a ha=>?_,fun j us p e1 e2 hp=>?_⟩
 ·rcases List.mem_cons.mp ha with rfl | ha
  ·exact ⟨D.E.g.fh.free hq,ws,aN⟩
  ·exact N.lies a ha
 ·rcases List.mem_cons.mp ha with rfl | ha
  ·exact D.E.g.sH.free hq
  ·exact D.h0 a ha
 ·rcases List.mem_cons.mp hp with rfl | hp
  ·obtain ⟨v,k1,k2⟩:=D.E.sl j _ e1
   rw [e2] at k1; cases k1
   obtain ⟨p',vs,z,k3,_⟩:=k2
   cases z
   rw [hq] at k3; cases k3
  ·exact D.ap j us p e1 e2 hp
end
section
variable {X:Cx} {t x:Nat} {tn xn:Str} {q1 q2 p1 p2 p3 p4 p5 r1 r2 r3 r4 r5 r6 r7 r8 r9 pos':Pos}
end
open PySem PySem.Spec PyProof.Rows L2
theorem m8.put {K:PySem.W.Frag} {F₀ H₀ F H:Hp} {σ:L2.St} {τ:aA} {A:List Addr} (D:m8 K F₀ H₀ F H σ τ A) {y:Nat} {t:T} {v:V} (r:Rep K F t v):m8 K F₀ H₀ F H (σ.set y (some v)) (τ.set y (some (.sh t))) A:=by
 refine ⟨D.E.set r,D.lies,D.h0,fun j us p e1 e2=>?_⟩
 by_cases hj:y=j
 ·subst hj
  by_cases hl:y < τ.length
  ·rw [List.getElem?_set_self hl] at e1; cases e1
  ·rw [List.getElem?_eq_none (by simp; omega)] at e1; cases e1
 ·rw [List.getElem?_set_ne hj] at e1 e2
  exact D.ap j us p e1 e2
section
variable {X:Cx} {t x y:Nat} {tn xn yn:Str} {q1 q2 p1 p2 p3 p4 p5 r1 r2 r3 r4 r5 r6 r7 r8 r9 pos' a1 a2 c1 c2:Pos}
end
open PySem PySem.Spec PyProof.Rows L2
structure AL (P:Program) (w:World) (K:PySem.W.Frag) (mg:Str -> Option Value) (base:Heap) (k:Nat) (x:Str) (n:Nat) (d:List T -> Option (List O)):Prop where
 ex:∃ f fd ps,eU P w K mg base nN k f fd ps (JL K n d) /\ Binds K fd ps [] /\ PySem.W.keepIn K (.ref f)=true /\ mg x=some (.ref f) /\ ps.length=n
section
variable {P:Program} {w:World} {K:PySem.W.Frag} {mg:Str -> Option Value} {base:Heap} {j k n:Nat} {x:Str}
theorem AL.mono {d:List T -> Option (List O)} (D:AL P w K mg base j x n d) (h:j ≤ k):AL P w K mg base k x n d:=by
 obtain ⟨f,fd,ps,F,r⟩:=D.ex
 exact ⟨f,fd,ps,F.mono h,r⟩
theorem AL.plain {d:List T -> Option (List O)} (D:AL P w K mg base k x n d):Def P w K mg base k x n (fun ts=>(d ts).bind fun os=>some (.tup (O.trs os))):=by
 obtain ⟨f,fd,ps,F,r⟩:=D.ex
 refine ⟨f,fd,ps,F.imp fun vs H Q E ⟨l,F,ts,t,a,b,c,q⟩=>?_,r⟩
 obtain ⟨os,e1,e2⟩:=bind_some c
 cases e2
 refine ⟨l,F,ts,os,a,b,e1,fun F' H' x ws A g hF ro nd h0=>?_⟩
 have hn:∀ b ∈ A,F' b=none:=fun b hb=>(ro.at b hb).1
 exact q _ H' _ (g.frzO hn h0) ⟨x,ws,rfl,jP.of (cK hn _ _ hF),aR.rep (cK hn) (fun a ha=>dz ha) ro⟩
end
section
variable {X:Cx} {e a b:Expr} {es:List Expr} {pos:Pos} {g:FA} {k n:Nat}
end
section
variable {X:Cx} {x:Nat} {xn:Str} {r1 r2 r3 r4 r5 r6 r7 r8 r9 a1 a2 a3:Pos}
end
open PySem PySem.Spec PyProof.Rows L2
def AR:List Nat -> List Addr -> aA -> Bool
 | [],[],_=>true
 | x :: hs,p :: ps,τ=>kM x p τ && AR hs ps τ
 | _,_,_=>false
section
variable {K:PySem.W.Frag} {F₀ H₀ F H F' H':Hp} {σ σ':L2.St} {τ τ':aA} {A:List Addr}
end
structure Mr (K:PySem.W.Frag) (F₀ H₀ F H:Hp) (σ:L2.St) (τ:aA) (hs:List Nat) (ps:List Addr) (os:List O) (A:List Addr):Prop where
 E:az K F₀ H₀ F H σ τ
 hp:AR hs ps τ=true
 r:aR K F H os (ps.map V.ref) A
 nd:A.Nodup
 h0:∀ a ∈ A,H₀ a=none
 ap:Apart σ τ A
section
variable {X:Cx} {x:Nat} {e:Expr} {pos:Pos} {hs:List Nat}
end
open PySem PySem.Spec PyProof.Rows L2
theorem m8.sub {K:PySem.W.Frag} {F₀ H₀ F H:Hp} {σ:L2.St} {τ:aA} {A B:List Addr} (D:m8 K F₀ H₀ F H σ τ A) (h:∀ a ∈ B,a ∈ A):m8 K F₀ H₀ F H σ τ B:=⟨D.E,fun a ha=>D.lies a (h a ha),fun a ha=>D.h0 a (h a ha),fun j us p e1 e2 m=>D.ap j us p e1 e2 (h p m)⟩
section
variable {X:Cx} {r pl nu:Nat} {rn pn nn:Str} {t1 t2 px e1 e2 e3 e4 e5 b1 b2 b3 b4 pos:Pos} {E:Expr} {fE:FE} {φ:T -> T}
end
open PySem PySem.Spec PyProof.Rows L2
def ye (K:PySem.W.Frag) (F H:Hp) (z:Addr × List T):Prop:=∃ vs,H z.1=some (.lst vs) /\ aP K F z.2 vs
theorem ye.keep {K:PySem.W.Frag} {F H F' H':Hp} {z:Addr × List T} (h:ye K F H z) (s:aI F F') (e:H' z.1=H z.1):ye K F' H' z:=by
 obtain ⟨vs,h1,h2⟩:=h
 exact ⟨vs,by rw [e]; exact h1,aP.mono s h2⟩
section
variable {X:Cx} {r t x pl nu:Nat} {rn tn xn pn nn:Str} {t1 t2 px e1 e2 e3 e4 e5 b1 b2 b3 b4 pos c1 c2 cpos:Pos} {E:Expr} {φ:T -> T} {kx:Nat}
def TabAt (K:PySem.W.Frag) (F H:Hp) (z:Addr × List (Addr × List T)):Prop:=H z.1=some (.lst (z.2.map fun w=>V.ref w.1)) /\ ∀ w ∈ z.2,ye K F H w
theorem TabAt.keep {K:PySem.W.Frag} {F H F' H':Hp} {z:Addr × List (Addr × List T)} (h:TabAt K F H z) (s:aI F F') (e1:H' z.1=H z.1) (e:∀ w ∈ z.2,H' w.1=H w.1):TabAt K F' H' z:=⟨by rw [e1]; exact h.1,fun w hw=>(h.2 w hw).keep s (e w hw)⟩
end
open PySem PySem.Spec PyProof.Rows L2
section
variable {K:PySem.W.Frag} {F H:Hp}
end
section
variable {X:Cx} {r t x pl nu:Nat} {xn:Str} {a1 a2 a3 f1 f2:Pos}
end
open PySem PySem.Spec PyProof.Rows L2
open PySem PySem.Spec PyProof.Rows L2
mutual
def jf:T -> Bool
 | .tup ts=>oo ts
 | .lst _=>false
 | .scr _=>false
 | .dic=>false
 | .obj _ _ _=>false
 | .exc _=>false
 | _=>true
def oo:List T -> Bool
 | []=>true
 | t :: ts=>jf t && oo ts
end
mutual
def kE:O -> Bool
 | .val t=>jf t
 | .lst os=>lU os
def lU:List O -> Bool
 | []=>true
 | o :: os=>kE o && lU os
end
section
variable {K:PySem.W.Frag} {F H:Hp} {A:List Addr}
mutual
theorem Rep.flat (hA:∀ a ∈ A,∃ vs,F a=some (.lst vs)):∀ {t:T} {v:V},jf t=true -> Rep K F t v -> Rep K (jd F A) t v
 | .non,_,_,h=>h
 | .bl _,_,_,h=>h
 | .int _,_,_,h=>h
 | .str _,_,_,h=>h
 | .ty _,_,_,h=>h
 | .tup ts,_,k,h=>by
  obtain ⟨b,xs,h1,h2,h3⟩:=h
  refine ⟨b,xs,h1,?_,aP.flat hA (by simpa [jf] using k) h3⟩
  rcases h2 with (h2 | ⟨o,h2⟩) | h2
  ·refine .inl (.inl ?_)
   rw [bY (fun m=>by obtain ⟨vs,e⟩:=hA b m; rw [e] at h2; cases h2)]; exact h2
  ·refine .inl (.inr ⟨o,?_⟩)
   rw [bY (fun m=>by obtain ⟨vs,e⟩:=hA b m; rw [e] at h2; cases h2)]; exact h2
  ·exact .inr h2
 | .lst ts,_,k,h=>by simp [jf] at k
 | .scr _,_,k,_=>by simp [jf] at k
 | .dic,_,k,h=>by simp [jf] at k
 | .obj C ns ts,_,k,h=>by simp [jf] at k
 | .ptr _,_,_,h=>h
 | .exc _,_,k,h=>by simp [jf] at k
theorem aP.flat (hA:∀ a ∈ A,∃ vs,F a=some (.lst vs)):∀ {ts:List T} {ws:List V},oo ts=true -> aP K F ts ws -> aP K (jd F A) ts ws
 | [],_,_,h=>h
 | t :: ts,_,k,h=>by
  obtain ⟨v,r,h1,h2,h3⟩:=h
  have k':jf t=true /\ oo ts=true:=by simpa [oo] using k
  exact ⟨v,r,h1,Rep.flat hA k'.1 h2,aP.flat hA k'.2 h3⟩
end
theorem zS {a:Addr} (h:F a=none):jd F A a=none:=by
 by_cases m:a ∈ A
 ·exact jB m
 ·rw [bY m]; exact h
mutual
theorem bW.flat (hA:∀ a ∈ A,∃ vs,F a=some (.lst vs)):∀ {o:O} {v:V} {B:List Addr},kE o=true -> bW K F H o v B -> bW K (jd F A) H o v B
 | .val t,v,B,k,h=>⟨h.1,Rep.flat hA (by simpa [kE] using k) h.2⟩
 | .lst os,v,B,k,h=>by
  obtain ⟨p,vs,C,rfl,rfl,h1,h2,h3⟩:=h
  exact ⟨p,vs,C,rfl,rfl,h1,zS h2,aR.flat hA (by simpa [kE] using k) h3⟩
theorem aR.flat (hA:∀ a ∈ A,∃ vs,F a=some (.lst vs)):∀ {os:List O} {vs:List V} {B:List Addr},lU os=true -> aR K F H os vs B -> aR K (jd F A) H os vs B
 | [],vs,B,_,h=>h
 | o :: os,vs,B,k,h=>by
  obtain ⟨v,r,B1,C,rfl,rfl,h1,h2⟩:=h
  have k':kE o=true /\ lU os=true:=by simpa [lU] using k
  exact ⟨v,r,B1,C,rfl,rfl,bW.flat hA k'.1 h1,aR.flat hA k'.2 h2⟩
end
end
section
variable {X:Cx} {e:Expr} {pos:Pos} {x:Nat}
def kc (x:Nat) (fg:FG) (fb:FL):List T -> FL
 | [],_,os,τ=>some (os,τ)
 | t :: ts,p,os,τ=>(fg t τ).bind fun τ1=>if kM x p τ1=true then (fb p os τ1).bind fun r=>kc x fg fb ts p r.1 r.2 else none
def BN (x:Nat) (fi:FA) (fg:FG) (fb:FL):FL:=fun p os τ=>(fi τ).bind fun q=>if kM x p q.2=true then kc x fg fb q.1 p os q.2 else none
theorem Hv {tg iter:Expr} {body:List Stmt} {fi:FA} {fg:FG} {fb:FL} (hp:PassesOwn (model X.prog X.w) X.A X.env X.xe) (hc:X.calm=true) (hi:SI X tg iter fi) (hg:SG X tg fg) (hb:LA X x body fb)
  (hs:∀ x,foldedSetIterable iter X.env x=pure x:=by intro _; rfl):SL X x (.For tg iter body [] pos) (BN x fi fg fb):=fun F₀ H₀=>PS.weak (Cm hp hc hi.any hg.any (hb F₀ H₀) hs) fun D σ H hq__=>by
 obtain ⟨F,τ,p,tss,A,r,d,e1,q⟩:=hq__
 obtain ⟨⟨ts,τ1⟩,e2,e1⟩:=bind_some e1
 dsimp only at e1
 split at e1
 ·next hq =>
  refine ⟨F₀,frzO H₀ H A,F,τ,ts,τ1,d.lend,e2,fun F' H' J E' s' W=>?_⟩
  have d1:=d.back E' s' (uM hq)
  refine ⟨fun i m σ H=>m=ts.length - i /\ i ≤ ts.length /\ ∃ F1 τ1 tss1 A1,qP X.K F₀ H₀ F1 H σ τ1 x p tss1 A1 /\ aI F' F1 /\ kc x fg fb (ts.drop i) p tss1 τ1=some r,⟨_,rfl,Nat.zero_le _,F',τ1,tss,A,d1,aI.refl _,e1⟩,?_⟩
  rintro i m σ1 H1 ⟨rfl,hi,F1,τ2,tss1,A1,D1,s1,e3⟩
  by_cases hlt:i < ts.length
  ·have hd:ts.drop i=ts[i] :: ts.drop (i + 1):=List.drop_eq_getElem_cons hlt
   have hg:ts[i]? = some ts[i]:=List.getElem?_eq_getElem hlt
   rw [hd] at e3
   obtain ⟨τ3,e4,e3⟩:=bind_some e3
   split at e3
   ·next h3 =>
    obtain ⟨r',e5,e3⟩:=bind_some e3
    refine .inr ⟨W.go i _ F1 H1 hg s1 D1.E.g.fh,fun σ H=>∃ F1 τ1 tss1 A1,qP X.K F₀ H₀ F1 H σ τ1 x p tss1 A1 /\ aI F' F1 /\ kc x fg fb (ts.drop (i + 1)) p tss1 τ1=some r,fun σ' H' n=>⟨_,by omega,rfl,hlt,n⟩,fun y H2 z=>?_⟩
    obtain ⟨F2,gr,rx⟩:=W.yld i _ F1 H1 y H2 hg s1 D1.E.g.fh z
    have D2:=D1.grow gr
    refine ⟨F₀,frzO H₀ H2 A1,F2,τ2,ts[i],τ3,D2.lend,rx,e4,fun F3 H3 σ3 E3 s3=>?_⟩
    have D3:=D2.back E3 s3 (uM h3)
    have s03:aI F' F3:=s1.trans (gr.sF.trans s3)
    exact ⟨F3,τ3,p,tss1,A1,r',D3,e5,fun F4 H4 σ4 A4 D4 s4=>⟨F4,r'.2,r'.1,A4,D4,s03.trans s4,e3⟩⟩
   ·cases e3
  ·have he:i=ts.length:=by omega
   subst he
   rw [List.drop_length] at e3
   cases e3
   exact .inl ⟨W.stop F1 H1 s1 D1.E.g.fh,q F1 H1 σ1 A1 D1 (s'.trans s1)⟩
 ·cases e1
def BM (x:Nat) (fo:lH):FL:=fun p os τ=>(fo ((hide τ).set x (some (.sh (.lst (O.trs os)))))).bind fun q=>if kE q.1=true /\ os.length < sizeLine then some (os ++ [q.1],τ) else none
theorem EE {xn:Str} {p1 p2 p3:Pos} {fo:lH} (hv:PE X (.Name xn p1) (qd x)) (he:wj X e fo)
  (hbase:attributeBase (.Name xn p1) "append" X.env (eval (.Name xn p1) X.env)=eval (.Name xn p1) X.env:=by rfl)
  (hfew:((backTo p3 (starEach [e] X.env)).all (fun x=>!x.1) && (backToKw p3 (keywordEach [] X.env)).all (fun x=>x.1.isSome) && decide ([e].length + ([]:List Keyword).length + (if ([]:List Keyword).isEmpty then 0 else 1) < 30))=true:=by rfl)
  (hline:(p2.endLine == p3.line)=true:=by rfl) (hs:starEach [e] X.env=(false,eval e X.env) :: starEach [] X.env:=by rfl) (hpl:(backTo p3 (starEach [] X.env)).any (·.1)=false:=by rfl)
  (hsw:swapsWith (.Call (.Attribute (.Name xn p1) "append" p2) [e] [] p3) none pos.line X.env=pure false:=by rfl) :
  SL X x (.Expr (.Call (.Attribute (.Name xn p1) "append" p2) [e] [] p3) pos) (BM x fo):=fun F₀ H₀ =>
 PS.weak (nE (Cb PySem.F.plainAttrs_list PySem.F.slot_list_append PySem.F.type_list_append ic hv (fF he.any jj hs) hbase hfew hline hs hpl) hsw) fun D σ H hq__=>by
  obtain ⟨F,τ,p,os,A,r,d,e1,q⟩:=hq__
  obtain ⟨⟨o,τ1⟩,e2,e1⟩:=bind_some e1
  dsimp only at e1
  split at e1
  ·next hh =>
   cases e1
   obtain ⟨p',vs,B,hp',hA,k1,k2,k3⟩:=id d.r
   cases hp'
   refine ⟨.ref p,d.get,.inl ⟨rfl,vs,gE.of k1⟩,frzO F H A,H,frzO F H A,_,o,τ1,BS d.E d.r d.get,by rw [O.tr]; exact e2,fun F1 H1 v A2 E1 s1 ro nd h0 ap=>?_⟩
   have lsA:∀ a ∈ A,∃ ws,F1 a=some (.lst ws):=fun a ha=>by
    obtain ⟨_,ws,hw⟩:=d.lies ha
    exact ⟨ws,s1 _ _ (by rw [dz ha]; exact hw)⟩
   have g':=oq (fun a ha=>(d.r.at a ha).1) E1.g
   have D1:=d.grow g'
   have ro':=bW.flat lsA hh.1 ro
   have k1':H1 p=some (.lst vs):=g'.sH _ _ k1
   have out:∀ {a:Addr},a ∈ A2 -> a ∉ A /\ H₀ a=none:=fun {a} ha=>by
    have e:=h0 a ha
    have m:a ∉ A:=fun m=>by
     obtain ⟨ws,k⟩:=(d.lies m).2
     rw [k] at e; cases e
    exact ⟨m,d.E.g.sH.free e⟩
   obtain ⟨p2,vs2,B2,hp2,hA2,j1,j2,j3⟩:=id D1.r
   cases hp2
   rw [k1'] at j1
   cases j1
   have hB:B2=B:=by rw [hA] at hA2; injection hA2 with _ h; exact h.symm
   subst hB
   have nA:=D1.nd
   rw [hA] at nA
   have hpB:=(List.nodup_cons.mp nA).1
   have hpA:p ∈ A:=by rw [hA]; exact List.mem_cons_self
   have L:m8 X.K F₀ H₀ (jd F1 A) H1 σ τ A:=⟨D1.E,fun a ha=>D1.lies ha,D1.h0,D1.ap⟩
   refine ⟨p,vs,v,rfl,rfl,k1',by rw [aR.len k3]; exact hh.2,q _ _ σ (p :: (B2 ++ A2)) ⟨(L.upd hpA (vs ++ [v])).E,D1.hx,⟨p,vs ++ [v],B2 ++ A2,rfl,rfl,aN,j2,aR.snoc (bW.move (aI.refl _) (fun a ha=>⟨aE fun z=>(out ha).1 (by rw [z]; exact hpA),(ro'.at a ha).1⟩) ro') (aR.move (aI.refl _) (fun a ha=>⟨aE fun z=>hpB (by rw [<- z]; exact ha),(j3.at a ha).1⟩) j3)⟩,?_,?_,?_⟩ g'.sF⟩
   ·refine List.nodup_cons.mpr ⟨fun z=>?_,List.nodup_append.mpr ⟨(List.nodup_cons.mp nA).2,nd,fun a ha b hb w=>(out hb).1 (by rw [hA,<- w]; exact List.mem_cons_of_mem _ ha)⟩⟩
    rcases List.mem_append.mp z with z | z
    ·exact hpB z
    ·exact (out z).1 hpA
   ·intro a ha
    rcases List.mem_cons.mp ha with rfl | ha
    ·exact D1.h0 _ hpA
    ·rcases List.mem_append.mp ha with ha | ha
     ·exact D1.h0 a (by rw [hA]; exact List.mem_cons_of_mem _ ha)
     ·exact (out ha).2
   ·intro j us b e5 e6 hb
    rcases List.mem_cons.mp hb with rfl | hb
    ·exact D1.ap j us _ e5 e6 hpA
    ·rcases List.mem_append.mp hb with hb | hb
     ·exact D1.ap j us b e5 e6 (by rw [hA]; exact List.mem_cons_of_mem _ hb)
     ·obtain ⟨v',h1',q',vs',rfl,k1'',_⟩:=d.E.sl j _ e5
      rw [e6] at h1'; cases h1'
      rw [h0 b hb] at k1''; cases k1''
  ·cases e1
def Bl:C6:=fun _ os _=>some (.lst os)
theorem EG {xn:Str} {p1:Pos} (hv:PE X (.Name xn p1) (qd x)):J6 X x [.Return (some (.Name xn p1)) pos] Bl:=fun F₀ H₀ =>
 iX.weak (nI (xJ hv)) fun D σ H hq__=>by
  obtain ⟨F,τ,p,os,A,o,d,e1,q⟩:=hq__
  cases e1
  exact ⟨.ref p,d.get,q F H _ A d.E.g d.r d.nd d.h0⟩
def yq (x:Nat) (fo:lH) (g:C6):wa:=fun τ=>(fo τ).bind fun z=>if x < z.2.length then vF fun o=>∀ p,g p [z.1] (z.2.set x (some (.sh (.ptr p))))=some o else none
theorem CK {xn:Str} {pos' p2:Pos} {rest:List Stmt} {fo:lH} {g:C6} (hN:X.N.Nodup) (hi:X.N[x]? = some xn) (hx:Loc X.env.scope xn) (he:wj X e fo) (hr:J6 X x rest g)
  (hse:starEach [e] X.env=(false,eval e X.env) :: starEach [] X.env:=by rfl)
  (hs:swapsWith (.List [e] p2) (some (.Name xn pos')) pos.line X.env=pure false:=by rfl) (hf:X.fn xn=true \/ X.env.scope.names.lookup xn=some .local:=by first | exact .inl rfl | exact .inr rfl | assumption) :
  Im X (.Assign [.Name xn pos'] (.List [e] p2) pos :: rest) (yq x fo g):=fun F₀ H₀ =>
 iX.weak (eK (tF hN hi hx (xG (fF (he F₀ H₀) jj hse)) hs hf) (hr F₀ H₀)) fun D σ H hq__=>by
  obtain ⟨F,τ,o,E,e1,qq⟩:=hq__
  obtain ⟨⟨z,τ1⟩,e2,e1⟩:=bind_some e1
  dsimp only at e1
  split at e1
  ·next hh =>
   have hP:=xH e1
   refine ⟨F,τ,z,τ1,E,e2,fun F1 H1 v A E1 s1 ro nd h0 ap=>⟨by show 1 ≤ sizeLine; decide,fun p hp=>?_⟩⟩
   have pA:p ∉ A:=fun m=>by
    obtain ⟨_,ws,hw⟩:=ro.at p m
    rw [hp] at hw; cases hw
   refine ⟨F1,_,p,_,p :: A,o,⟨(E1.hp (bO hp)).set (t:=.ptr p) (v:=.ref p) rfl,List.getElem?_set_self hh,⟨p,[v],A,rfl,rfl,aN,E1.g.fh.free hp,aR.one (bW.move (aI.refl _) (fun a ha=>⟨aE (fun z=>pA (by rw [<- z]; exact ha)),(ro.at a ha).1⟩) ro)⟩,List.nodup_cons.mpr ⟨pA,nd⟩,?_,?_⟩,hP p,qq⟩
   ·intro a ha
    rcases List.mem_cons.mp ha with rfl | ha
    ·exact E1.g.sH.free hp
    ·exact h0 a ha
   ·intro j us b e5 e6 hb
    by_cases hj:x=j
    ·subst hj
     rw [List.getElem?_set_self hh] at e5; cases e5
    ·rw [List.getElem?_set_ne hj] at e5 e6
     rcases List.mem_cons.mp hb with rfl | hb
     ·obtain ⟨v,h1,q',vs,rfl,k1,_⟩:=E1.sl j _ e5
      rw [e6] at h1; cases h1
      rw [hp] at k1; cases k1
     ·exact ap j us b e5 e6 hb
  ·cases e1
end
def lX:O -> Bool
 | .lst (.lst ro :: os)=>decide (ro.length ≤ 500 /\ os.length ≤ 500)
 | _=>false
theorem DE:∀ {o:O},lX o=true -> ∃ row os,o=.lst (.lst row :: os) /\ row.length ≤ 500
 | .lst (.lst row :: os),h=>⟨row,os,rfl,(of_decide_eq_true h).1⟩
 | .val _,h=>by simp [lX] at h
 | .lst [],h=>by simp [lX] at h
 | .lst (.val _ :: _),h=>by simp [lX] at h
theorem Dc {v:V} {vs:List V}:ng (v :: vs) 0=some v:=by
 unfold ng yF
 rw [if_pos (by decide),if_pos (by simp),Option.bind_some]
 rfl
def kA (x:Nat) (fo:lH) (tc:FT):FS:=fun τ=>(fo τ).bind fun p =>
 if lX p.1=true /\ GG x (p.2.set x none)=true then
  (tc ((hide p.2).set x (some (.sh p.1.tr)))).bind fun q=>if q.1=true then some (.rt (.bl false)) else some (.nx (p.2.set x none))
 else none
section
variable {X:Cx} {x:Nat} {xn:Str} {r1 r2 r3 r4 r5 r6 r7 r8 r9 a1 a2 a3:Pos}
theorem vS {e c:Expr} {fo:lH} {tc:FT} {body rest:List Stmt} {u:FS} {j0 j1 j2 k7:Nat} (hN:X.N.Nodup) (hi:X.N[x]? = some xn) (hlx:Loc X.env.scope xn) (he:wj X e fo) (hT:ST X c tc) (hb:qS X body (bG (fC (.bl false)))) (hrest:qS X rest u) (hx:PE X (.Name xn r1) (qd x))
  (hse:swapsWith e (some (.Name xn a1)) a2.line X.env=pure false:=by rfl) (hf:X.fn xn=true \/ X.env.scope.names.lookup xn=some .local:=by first | exact .inl rfl | exact .inr rfl | assumption)
  (hbase':attributeBase (.Subscript (.Name xn r1) (.Constant (.int 0) j0 r2) r3) "append" X.env (eval (.Subscript (.Name xn r1) (.Constant (.int 0) j0 r2) r3) X.env)=eval (.Subscript (.Name xn r1) (.Constant (.int 0) j0 r2) r3) X.env:=by rfl)
  (hfew':((backTo r8 (starEach [.Tuple [.Constant (.int 1) j1 r5,.Constant (.int 1) j2 r6] k7 r7] X.env)).all (fun x=>!x.1) && (backToKw r8 (keywordEach [] X.env)).all (fun x=>x.1.isSome) && decide ([Expr.Tuple [.Constant (.int 1) j1 r5,.Constant (.int 1) j2 r6] k7 r7].length + ([]:List Keyword).length + (if ([]:List Keyword).isEmpty then 0 else 1) < 30))=true:=by rfl)
  (hline':(r4.endLine == r8.line)=true:=by rfl) (hst':starEach [.Tuple [.Constant (.int 1) j1 r5,.Constant (.int 1) j2 r6] k7 r7] X.env=(false,eval (.Tuple [.Constant (.int 1) j1 r5,.Constant (.int 1) j2 r6] k7 r7) X.env) :: starEach [] X.env:=by rfl) (hpl':(backTo r8 (starEach [] X.env)).any (·.1)=false:=by rfl)
  (hsw':swapsWith (.Call (.Attribute (.Subscript (.Name xn r1) (.Constant (.int 0) j0 r2) r3) "append" r4) [.Tuple [.Constant (.int 1) j1 r5,.Constant (.int 1) j2 r6] k7 r7] [] r8) none r9.line X.env=pure false:=by rfl)
  (hsa:starEach [.Constant (.int 1) j1 r5,.Constant (.int 1) j2 r6] X.env=(false,eval (.Constant (.int 1) j1 r5) X.env) :: starEach [.Constant (.int 1) j2 r6] X.env:=by rfl) (hsb:starEach [.Constant (.int 1) j2 r6] X.env=(false,eval (.Constant (.int 1) j2 r6) X.env) :: starEach [] X.env:=by rfl)
  (hix:nc (.Constant (.int 0) j0 r2):=by intro _ _; rfl) :
  qS X (.Assign [.Name xn a1] e a2 :: .If c body [] a3 :: .Expr (.Call (.Attribute (.Subscript (.Name xn r1) (.Constant (.int 0) j0 r2) r3) "append" r4) [.Tuple [.Constant (.int 1) j1 r5,.Constant (.int 1) j2 r6] k7 r7] [] r8) r9 :: rest) (aT (kA x fo tc) u):=fun F₀ H₀ =>
 iX.weak (eK (tF hN hi hlx (he F₀ H₀) hse hf) (eK (Fv (tc:=fun σ H Q=>∃ F₀ H₀,tT X.K F₀ H₀ tc σ H Q) (fun pins s σ H Q I ⟨F₀,H₀,q⟩=>hT F₀ H₀ pins s σ H Q I q) (hb F₀ H₀) nG)
  (eK (nE (Cb PySem.F.plainAttrs_list PySem.F.slot_list_append PySem.F.type_list_append ic (Cc nz hx tB hix) (fF (Cf (fF tB (fF tB jj hsb) hsa)) jj hst') hbase' hfew' hline' hst' hpl') hsw') (hrest F₀ H₀)))) fun D σ H hq__=>by
  obtain ⟨F,τ,rr,E,e1,q⟩:=hq__
  obtain ⟨r1,e2,e1⟩:=bind_some e1
  obtain ⟨⟨o,τ1⟩,e3,e2⟩:=bind_some e2
  split at e2
  ·next hh =>
   obtain ⟨hsh,hx0⟩:=hh
   have hx1:=DI hx0
   dsimp only at e2
   have hxl:x < τ1.length:=by
    have:=(List.getElem?_eq_some_iff.mp hx1).1
    rw [List.length_set] at this
    exact this
   obtain ⟨⟨c0,τ3⟩,e4,e2⟩:=bind_some e2
   refine ⟨F,τ,o,τ1,E,e3,fun F1 H1 v A E1 s1 ro nd h0 ap=>?_⟩
   have L0:m8 X.K F₀ H₀ F1 H1 σ (τ1.set x none) A:=m8.of E1 ro h0 ap
   have L1:=L0.setv (v:=v) hx1
   have hσx:(σ.set x (some v))[x]? = some (some v):=List.getElem?_set_self (by rw [E1.len]; exact hxl)
   have E1':az X.K (frzO F1 H1 A) H1 (frzO F1 H1 A) H1 (σ.set x (some v)) ((hide τ1).set x (some (.sh o.tr))):=by
    have z:=BS L1.E ro hσx
    have e:(hide (τ1.set x none)).set x (some (.sh o.tr))=(hide τ1).set x (some (.sh o.tr)):=kK
    rw [e] at z
    exact z
   refine ⟨_,_,_,_,c0,τ3,E1',e4,fun F2 H2 E2 s2=>?_⟩
   have g':=oq (fun a ha=>(ro.at a ha).1) E2.g
   have L2':m8 X.K F₀ H₀ (jd F2 A) H2 (σ.set x (some v)) (τ1.set x none) A:=⟨L1.E.grow g',fun a ha=>⟨jB ha,by obtain ⟨ws,hw⟩:=(ro.at a ha).2; exact ⟨ws,E2.g.sH _ _ hw⟩⟩,h0,L1.ap⟩
   dsimp only at e2
   cases c0 with
   | true =>
    rw [if_pos rfl] at e2
    show ite (true=true) _ _
    rw [if_pos rfl]
    cases e2
    cases e1
    exact ⟨_,_,_,L2'.E,rfl,q⟩
   | false =>
    rw [if_neg (by decide)] at e2
    show ite (false=true) _ _
    rw [if_neg (by decide)]
    cases e2
    obtain ⟨row,os,rfl,hrow⟩:=DE hsh
    obtain ⟨a,vs0,B0,rfl,rfl,k1,k2,k3⟩:=ro
    obtain ⟨v2,w2,B2,C2,rfl,rfl,k4,k5⟩:=k3
    obtain ⟨p,ws,B3,rfl,rfl,k6,k7,k8⟩:=k4
    have pA:p ∈ a :: ((p :: B3) ++ C2):=List.mem_cons_of_mem _ (List.mem_append_left _ List.mem_cons_self)
    have hF2:H2 a=some (.lst (.ref p :: w2)):=E2.g.sH _ _ k1
    have hp2:H2 p=some (.lst ws):=E2.g.sH _ _ k6
    have hlw:ws.length ≤ 500:=by rw [aR.len k8]; exact hrow
    refine ⟨.ref a,hσx,a,_,0,.ref p,rfl,rfl,gE.of hF2,Dc,.inl ⟨rfl,ws,gE.of hp2⟩,bR (by simp),fun l hl0=>?_⟩
    have pl:p ≠ l:=fun e=>by rw [e,hl0] at hp2; cases hp2
    refine ⟨p,ws,.ref l,rfl,rfl,by rw [aE pl]; exact hp2,dR (by omega),?_⟩
    exact ⟨_,_,rr,((L2'.new hl0 _).upd pA _).E,e1,q.mono (s1.trans g'.sF)⟩
  ·cases e2
end
section
variable {X:Cx} {e:Expr} {pos:Pos} {b:Bool}
theorem zA {fx:FX} (h:LB b X e fx) (hsw:swapsWith e none pos.line X.env=pure false:=by rfl):SX b X (.Expr e pos) fx:=fun F₀ H₀ pins s σ H F τ C τ' I E e1 =>
 wpAny_Expr_any (wpAny_mono (h F₀ H₀ pins s σ H F τ C τ' I E e1) (fun _ _ z=>z.elim) fun _ _ z=>z) I.quiet hsw
end
end TM
namespace My
open PySem PySem.Spec PyProof.Rows L2 TM
def top (i:Nat):Stmt:=PySem.Challenge.pw_echohouse_k83_kept_runs.main.body.getD i (.Pass ⟨0,0,0,0⟩)
section
variable {P:Program} {w:World} {K:PySem.W.Frag} {mg:Str -> Option Value} {base:Heap} {k:Nat} {f:Addr} {fd:FuncData}
abbrev oP:Stmt:=top 10
def nX (n:Nat) (d_half:List T -> Option T):FS:=
  (aT (rB 0 1 (aa (aj uz (aa (af 0) ai)) (aa (aj uz (aa (af 1) ai)) ai)))
  (aT (dO (eG (aH zX (mT iO (af 1)) (fC (.int 4000)))) (aT (rB 0 1 (aa (af 1) (aa (aH cu (af 0) (af 1)) ai)))
  (cn (eG (aH zX (mT iO (af 1)) (fC (.int 4000)))) (oi (aj d_half (aa (af 0) (aa (af 1) ai))) (cE (aM (ar 0) (aM (ar 1) (aM (ar 2) cz))))) bQ)) n)
  (aT (dO (eG (aH lW (af 1) (fC (.int 0)))) (rB 0 1 (aa (af 1) (aa (aH cu (af 0) (af 1)) ai))) n)
  (bG (af 0)))))
theorem fz:aL ["one", "other", "factors"] ["one", "other"] (av oP):=by walk_at "sc"
theorem Ah {d_half:List T -> Option T} {t_SHORT:Tok} (n:Nat) (F:eR K "common" "common" oP f fd) (hb:Binds K fd ["one", "other"] []) (hm:mg "common" = some (.ref f)) (D_half:Def P w K mg base k "half" 2 d_half) (m_abs:mg "abs" = none) (g_SHORT:mg "SHORT" = some (.int 4000 t_SHORT)) :
  Def P w K mg base (k + 1) "common" 2 (bX 3 2 (nX n d_half)):=
 bC F fz hb hm fun cdv A outer s H E hr=>(aw (tZ rfl fz.nd rfl rfl (by decide) rfl rfl (ae (aU rh rfl m_abs rfl (ae (ag 0 (pv 0)) ak)) (ae (aU rh rfl m_abs rfl (ae (ag 1 (pv 1)) ak)) ak)) rfl)
  (aw (pw n PassesOwn.never (cN vC (jF (ag 1 (pv 1))) (ie rfl g_SHORT) (bU _)) (aw (tZ rfl fz.nd rfl rfl (by decide) rfl rfl (ae (ag 1 (pv 1)) (ae (aK dh (ag 0 (pv 0)) (ag 1 (pv 1))) ak)) rfl)
  (aF (eP (cN vC (jF (ag 1 (pv 1))) (ie rfl g_SHORT) (bU _)) (aF (pk (aB D_half hr rfl (ae (ag 0 (pv 0)) (ae (ag 1 (pv 1)) ak)) (ah (ah ay))) (eN rfl (aS (aJ 0 fz.nd rfl (Or.inl rfl)) (aS (aJ 1 fz.nd rfl (Or.inl rfl)) (aS (aJ 2 fz.nd rfl (Or.inl rfl)) di))) (aY (aY (aY eJ)))))) cj))))
  (aw (pw n PassesOwn.never (cN (kU hr.units) (ag 1 (pv 1)) au (bU _)) (aF (tZ rfl fz.nd rfl rfl (by decide) rfl rfl (ae (ag 1 (pv 1)) (ae (aK dh (ag 0 (pv 0)) (ag 1 (pv 1))) ak)) rfl)))
  (aF (aW (ag 0 (pv 0)))))))
abbrev Hr:Stmt:=top 11
abbrev kl:Stmt:=top 20
def jR:FS:=
  (bG (ek (aj bp (aa (af 0) (aa (fC (.ty "int")) ai))) (mT Dz (aj bp (aa (af 0) (aa (fC (.ty "bool")) ai))))))
theorem vP:aL ["thing"] ["thing"] (av kl):=by walk_at "sc"
theorem vB (F:eR K "is_whole" "is_whole" kl f fd) (hb:Binds K fd ["thing"] []) (hm:mg "is_whole" = some (.ref f)) (m_int:mg "int" = none) (m_isinstance:mg "isinstance" = none) (m_bool:mg "bool" = none) :
  Def P w K mg base (k + 1) "is_whole" 1 (bX 1 1 (jR)):=
 bC F vP hb hm fun cdv A outer s H E hr=>(aF (aW (gC (aU iA rfl m_isinstance rfl (ae (ag 0 (pv 0)) (ae (lu rfl m_int rfl) ak))) (oZ (Hs (aU iA rfl m_isinstance rfl (ae (ag 0 (pv 0)) (ae (lu rfl m_bool rfl) ak))))))))
abbrev gY:Stmt:=top 21
def fB (d_is_whole d_common:List T -> Option T):FS:=
  (aT (cn (lT (cH (dk (aj bp (aa (af 0) (aa (fC (.ty "tuple")) ai))))) (eG (aH lW (aj cm (aa (af 0) ai)) (fC (.int 2))))) (bG (fC (.bl false))) bQ)
  (aT (oi (af 0) (cE (aM (ar 1) (aM (ar 2) cz))))
  (bG (ek (aj d_is_whole (aa (af 1) ai)) (ek (aj d_is_whole (aa (af 2) ai)) (ek (aH Kd (af 2) (fC (.int 1))) (aH kH (aj d_common (aa (af 1) (aa (af 2) ai))) (fC (.int 1)))))))))
theorem gA:aL ["thing", "top", "bottom"] ["thing"] (av gY):=by walk_at "sc"
theorem oM {d_is_whole:List T -> Option T} {d_common:List T -> Option T} (F:eR K "is_fraction" "is_fraction" gY f fd) (hb:Binds K fd ["thing"] []) (hm:mg "is_fraction" = some (.ref f)) (D_is_whole:Def P w K mg base k "is_whole" 1 d_is_whole) (D_common:Def P w K mg base k "common" 2 d_common) (m_tuple:mg "tuple" = none) (m_isinstance:mg "isinstance" = none) (m_len:mg "len" = none) :
  Def P w K mg base (k + 1) "is_fraction" 1 (bX 3 1 (fB d_is_whole d_common)):=
 bC F gA hb hm fun cdv A outer s H E hr=>(aw (eP (SW.st (lF (eQ (fS (aU iA rfl m_isinstance rfl (ae (ag 0 (pv 0)) (ae (lu rfl m_tuple rfl) ak))))) (mE (cN (kU hr.units) (aU dJ rfl m_len PySem.boot_len (ae (ag 0 (pv 0)) ak)) au (bU _))))) (aF (aW mM)) cj)
  (aw (pk (ag 0 (pv 0)) (eN rfl (aS (aJ 1 gA.nd rfl (Or.inl rfl)) (aS (aJ 2 gA.nd rfl (Or.inl rfl)) di)) (aY (aY eJ))))
  (aF (aW (gC (aB D_is_whole hr rfl (ae (ag 1 (pv 1)) ak) (ah ay)) (gC (aB D_is_whole hr rfl (ae (ag 2 (pv 2)) ak) (ah ay)) (gC (oY JC (ag 2 (pv 2)) au (bU _)) (oZ (oY (oN hr.units) (aB D_common hr rfl (ae (ag 1 (pv 1)) (ae (ag 2 (pv 2)) ak)) (ah (ah ay))) au (bU _))))))))))
abbrev xM:Stmt:=top 22
def wq (d_common:List T -> Option T):FS:=
  (aT (cn (eG (aH kH (af 1) (fC (.int 0)))) eD bQ)
  (aT (bo 2 (aj d_common (aa (af 0) (aa (af 1) ai))))
  (aT (cn (eG (aH HS (af 1) (fC (.int 0)))) (bo 2 (mT kI (af 2))) bQ)
  (aT (cn (eG (aH HS (mT iO (af 2)) (fC (.int 8000)))) (bG (dU (aa (aH cS (af 0) (af 2)) (aa (aH cS (af 1) (af 2)) ai)))) bQ)
  eD))))
theorem tQ:aL ["top", "bottom", "shared"] ["top", "bottom"] (av xM):=by walk_at "sc"
theorem D7 {d_common:List T -> Option T} {t_SHORT_QUOTIENT:Tok} (F:eR K "frac" "frac" xM f fd) (hb:Binds K fd ["top", "bottom"] []) (hm:mg "frac" = some (.ref f)) (D_common:Def P w K mg base k "common" 2 d_common) (g_SHORT_QUOTIENT:mg "SHORT_QUOTIENT" = some (.int 8000 t_SHORT_QUOTIENT)) :
  Def P w K mg base (k + 1) "frac" 2 (bX 3 2 (wq d_common)):=
 bC F tQ hb hm fun cdv A outer s H E hr=>(aw (eP (cN (oN hr.units) (ag 1 (pv 1)) au (bU _)) (aF ik) cj)
  (aw (aZ 2 tQ.nd rfl (Or.inl rfl) (aB D_common hr rfl (ae (ag 0 (pv 0)) (ae (ag 1 (pv 1)) ak)) (ah (ah ay))))
  (aw (eP (cN Ca (ag 1 (pv 1)) au (bU _)) (aF (aZ 2 tQ.nd rfl (Or.inl rfl) (zk uc (ag 2 (pv 2))))) cj)
  (aw (eP (cN Ca (jF (ag 2 (pv 2))) (ie rfl g_SHORT_QUOTIENT) (bU _)) (aF (aW (eM (ae (aK bZ (ag 0 (pv 0)) (ag 2 (pv 2))) (ae (aK bZ (ag 1 (pv 1)) (ag 2 (pv 2))) ak))))) cj)
  AA))))
abbrev xN:Stmt:=top 23
def wt (d_common:List T -> Option T):FS:=
  (aT (bo 2 (aj d_common (aa (aH bB (af 0) (fC (.int 1))) (aa (aH bB (af 1) (fC (.int 1))) ai))))
  (aT (bo 3 (aH bS (aH aV (aH bB (af 0) (fC (.int 0))) (aH cS (aH bB (af 1) (fC (.int 1))) (af 2))) (aH aV (aH bB (af 1) (fC (.int 0))) (aH cS (aH bB (af 0) (fC (.int 1))) (af 2)))))
  (aT (bo 4 (aj d_common (aa (af 3) (aa (af 2) ai))))
  (bG (dU (aa (aH cS (af 3) (af 4)) (aa (aH aV (aH cS (aH bB (af 0) (fC (.int 1))) (af 2)) (aH cS (aH bB (af 1) (fC (.int 1))) (af 4))) ai)))))))
theorem nK:aL ["one", "other", "shared", "top", "low"] ["one", "other"] (av xN):=by walk_at "sc"
theorem D8 {d_common:List T -> Option T} (F:eR K "plus" "plus" xN f fd) (hb:Binds K fd ["one", "other"] []) (hm:mg "plus" = some (.ref f)) (D_common:Def P w K mg base k "common" 2 d_common) :
  Def P w K mg base (k + 1) "plus" 2 (bX 5 2 (wt d_common)):=
 bC F nK hb hm fun cdv A outer s H E hr=>(aw (aZ 2 nK.nd rfl (Or.inl rfl) (aB D_common hr rfl (ae (bh bj (ag 0 (pv 0)) au (fun _ _=>rfl)) (ae (bh bj (ag 1 (pv 1)) au (fun _ _=>rfl)) ak)) (ah (ah ay))))
  (aw (aZ 3 nK.nd rfl (Or.inl rfl) (aK cv (aK bu (bh bj (ag 0 (pv 0)) au (fun _ _=>rfl)) (aK bZ (bh bj (ag 1 (pv 1)) au (fun _ _=>rfl)) (ag 2 (pv 2)))) (aK bu (bh bj (ag 1 (pv 1)) au (fun _ _=>rfl)) (aK bZ (bh bj (ag 0 (pv 0)) au (fun _ _=>rfl)) (ag 2 (pv 2))))))
  (aw (aZ 4 nK.nd rfl (Or.inl rfl) (aB D_common hr rfl (ae (ag 3 (pv 3)) (ae (ag 2 (pv 2)) ak)) (ah (ah ay))))
  (aF (aW (eM (ae (aK bZ (ag 3 (pv 3)) (ag 4 (pv 4))) (ae (aK bu (aK bZ (bh bj (ag 0 (pv 0)) au (fun _ _=>rfl)) (ag 2 (pv 2))) (aK bZ (bh bj (ag 1 (pv 1)) au (fun _ _=>rfl)) (ag 4 (pv 4)))) ak))))))))
abbrev tK:Stmt:=top 24
def qW (d_common:List T -> Option T):FS:=
  (aT (bo 2 (aj d_common (aa (aH bB (af 0) (fC (.int 0))) (aa (aH bB (af 1) (fC (.int 1))) ai))))
  (aT (bo 3 (aj d_common (aa (aH bB (af 1) (fC (.int 0))) (aa (aH bB (af 0) (fC (.int 1))) ai))))
  (bG (dU (aa (aH aV (aH cS (aH bB (af 0) (fC (.int 0))) (af 2)) (aH cS (aH bB (af 1) (fC (.int 0))) (af 3))) (aa (aH aV (aH cS (aH bB (af 0) (fC (.int 1))) (af 3)) (aH cS (aH bB (af 1) (fC (.int 1))) (af 2))) ai))))))
theorem oX:aL ["one", "other", "left", "right"] ["one", "other"] (av tK):=by walk_at "sc"
theorem B6 {d_common:List T -> Option T} (F:eR K "times" "times" tK f fd) (hb:Binds K fd ["one", "other"] []) (hm:mg "times" = some (.ref f)) (D_common:Def P w K mg base k "common" 2 d_common) :
  Def P w K mg base (k + 1) "times" 2 (bX 4 2 (qW d_common)):=
 bC F oX hb hm fun cdv A outer s H E hr=>(aw (aZ 2 oX.nd rfl (Or.inl rfl) (aB D_common hr rfl (ae (bh bj (ag 0 (pv 0)) au (fun _ _=>rfl)) (ae (bh bj (ag 1 (pv 1)) au (fun _ _=>rfl)) ak)) (ah (ah ay))))
  (aw (aZ 3 oX.nd rfl (Or.inl rfl) (aB D_common hr rfl (ae (bh bj (ag 1 (pv 1)) au (fun _ _=>rfl)) (ae (bh bj (ag 0 (pv 0)) au (fun _ _=>rfl)) ak)) (ah (ah ay))))
  (aF (aW (eM (ae (aK bu (aK bZ (bh bj (ag 0 (pv 0)) au (fun _ _=>rfl)) (ag 2 (pv 2))) (aK bZ (bh bj (ag 1 (pv 1)) au (fun _ _=>rfl)) (ag 3 (pv 3)))) (ae (aK bu (aK bZ (bh bj (ag 0 (pv 0)) au (fun _ _=>rfl)) (ag 3 (pv 3))) (aK bZ (bh bj (ag 1 (pv 1)) au (fun _ _=>rfl)) (ag 2 (pv 2)))) ak)))))))
theorem vp:(["number"]:List Str).Nodup:=by decide +kernel
abbrev oQ:Stmt:=top 26
def ur (d_is_fraction:List T -> Option T):FS:=
  (bG (ek (aj bp (aa (af 0) (aa (fC (.ty "list")) ai))) (ek (aH kH (aj cm (aa (af 0) ai)) (af 1)) (aj pM (aa (cq 1 [] (bf (af 0)) (ar 0) aD (aj d_is_fraction (aa (af 0) ai))) ai)))))
theorem Ap:aL ["thing", "many"] ["thing", "many"] (av oQ):=by walk_at "sc"
theorem Ai {d_is_fraction:List T -> Option T} (F:eR K "is_row" "is_row" oQ f fd) (hb:Binds K fd ["thing", "many"] []) (hm:mg "is_row" = some (.ref f)) (D_is_fraction:Def P w K mg base k "is_fraction" 1 d_is_fraction) (m_list:mg "list" = none) (m_isinstance:mg "isinstance" = none) (m_len:mg "len" = none) (m_all:mg "all" = none) :
  Def P w K mg base (k + 1) "is_row" 2 (bX 2 2 (ur d_is_fraction)):=
 bC F Ap hb hm fun cdv A outer s H E hr=>(aF (aW (gC (aU iA rfl m_isinstance rfl (ae (ag 0 (pv 0)) (ae (lu rfl m_list rfl) ak))) (gC (oY (oN hr.units) (aU dJ rfl m_len PySem.boot_len (ae (ag 0 (pv 0)) ak)) (ag 1 (pv 1)) (bU _)) (oZ (aU (AZ rfl) rfl m_all rfl (ae (cg (N':=["number"]) (no:=1) (cap:=[]) rfl rfl (aQ rfl) rfl (bP rfl) (cM (ag 0 (pv 0))) (fun _ _ _ _ _ _=>(aJ 0 vp rfl (Or.inl rfl))) (fun _ _ _ _ _ _=>bF) (fun _ _ _ _ _ _=>(aB D_is_fraction hr rfl (ae (ag 0 (pv 0)) ak) (ah ay)))) ak)))))))
theorem pY:(["row", "wide"]:List Str).Nodup:=by decide +kernel
abbrev kj:Stmt:=top 27
def fj (d_is_row:List T -> Option T):FS:=
  (bG (ek (aj bp (aa (af 0) (aa (fC (.ty "list")) ai))) (ek (aH kH (aj cm (aa (af 0) ai)) (af 1)) (aj pM (aa (cq 1 [2] (bf (af 0)) (ar 0) aD (aj d_is_row (aa (af 0) (aa (af 1) ai)))) ai)))))
theorem vO:aL ["thing", "many", "wide"] ["thing", "many", "wide"] (av kj):=by walk_at "sc"
theorem vA {d_is_row:List T -> Option T} (F:eR K "is_table" "is_table" kj f fd) (hb:Binds K fd ["thing", "many", "wide"] []) (hm:mg "is_table" = some (.ref f)) (D_is_row:Def P w K mg base k "is_row" 2 d_is_row) (m_list:mg "list" = none) (m_isinstance:mg "isinstance" = none) (m_len:mg "len" = none) (m_all:mg "all" = none) :
  Def P w K mg base (k + 1) "is_table" 3 (bX 3 3 (fj d_is_row)):=
 bC F vO hb hm fun cdv A outer s H E hr=>(aF (aW (gC (aU iA rfl m_isinstance rfl (ae (ag 0 (pv 0)) (ae (lu rfl m_list rfl) ak))) (gC (oY (oN hr.units) (aU dJ rfl m_len PySem.boot_len (ae (ag 0 (pv 0)) ak)) (ag 1 (pv 1)) (bU _)) (oZ (aU (AZ rfl) rfl m_all rfl (ae (cg (N':=["row", "wide"]) (no:=1) (cap:=[2]) rfl rfl (aQ rfl) rfl (bP rfl) (cM (ag 0 (pv 0))) (fun _ _ _ _ _ _=>(aJ 0 pY rfl (Or.inl rfl))) (fun _ _ _ _ _ _=>bF) (fun _ _ _ _ _ _=>(aB D_is_row hr rfl (ae (ag 0 (pv 0)) (ae (ag 1 (pv 1)) ak)) (ah (ah ay))))) ak)))))))
abbrev ml:Stmt:=top 28
def qg (d_times d_plus:List T -> Option T):FS:=
  (aT (bo 2 (fC (.tup [.int 0,.int 1])))
  (aT (jU (eX (aa (af 0) (aa (af 1) ai))) (cE (aM (ar 3) (aM (ar 4) cz))) (bo 2 (aj d_plus (aa (af 2) (aa (aj d_times (aa (af 3) (aa (af 4) ai))) ai)))))
  (bG (af 2))))
theorem gB:aL ["one", "other", "total", "left", "right"] ["one", "other"] (av ml):=by walk_at "sc"
theorem xD {d_times:List T -> Option T} {d_plus:List T -> Option T} {a_NOUGHT:Addr} {od_NOUGHT:Option Addr} {t_NOUGHT u_NOUGHT:Tok} {n_NOUGHT:Nat} {sl_NOUGHT:Array (Option Value)} (F:eR K "weighed" "weighed" ml f fd) (hb:Binds K fd ["one", "other"] []) (hm:mg "weighed" = some (.ref f)) (D_times:Def P w K mg base k "times" 2 d_times) (D_plus:Def P w K mg base k "plus" 2 d_plus) (m_zip:mg "zip" = none) (g_NOUGHT:mg "NOUGHT" = some (.ref a_NOUGHT)) (h_NOUGHT:K.lookup a_NOUGHT=some ⟨.type "tuple", od_NOUGHT,.seq #[.int 0 t_NOUGHT,.int 1 u_NOUGHT] n_NOUGHT,sl_NOUGHT⟩) :
  Def P w K mg base (k + 1) "weighed" 2 (bX 5 2 (qg d_times d_plus)):=
 bC F gB hb hm fun cdv A outer s H E hr=>(aw (aZ 2 gB.nd rfl (Or.inl rfl) (Cz rfl g_NOUGHT h_NOUGHT))
  (aw (mD PassesOwn.never rfl (mr rfl m_zip (ae (ag 0 (pv 0)) (ae (ag 1 (pv 1)) ak))) (eN rfl (aS (aJ 3 gB.nd rfl (Or.inl rfl)) (aS (aJ 4 gB.nd rfl (Or.inl rfl)) di)) (aY (aY eJ))) (aF (aZ 2 gB.nd rfl (Or.inl rfl) (aB D_plus hr rfl (ae (ag 2 (pv 2)) (ae (aB D_times hr rfl (ae (ag 3 (pv 3)) (ae (ag 4 (pv 4)) ak)) (ah (ah ay))) ak)) (ah (ah ay))))))
  (aF (aW (ag 2 (pv 2))))))
theorem sO:(["number"]:List Str).Nodup:=by decide +kernel
theorem sP:(["numbers"]:List Str).Nodup:=by decide +kernel
abbrev mh:Stmt:=top 29
def jz (d_product:List T -> Option T):wa:=
  (jN (eu 1 [] (bf (aj d_product (aa (af 0) (aa (cq 1 [] (bf (af 1)) (ar 0) aD (dw (aa (af 0) ai))) (aa (fC (.int 1)) ai))))) (ar 0) aD (kC (aH bB (af 0) (fC (.int 0))))))
theorem xO:aL ["table", "row"] ["table", "row"] (av mh):=by walk_at "sc"
theorem vw {d_product:List T -> Option T} (F:eR K "applied" "applied" mh f fd) (hb:Binds K fd ["table", "row"] []) (hm:mg "applied" = some (.ref f)) (D_product:Def P w K mg base k "product" 3 d_product) :
  hW P w K mg base (k + 1) "applied" 2 (jc 2 2 (jz d_product)):=
 nj F xO hb hm fun cdv A outer s H E hr=>(ua (jw (N':=["numbers"]) (no:=1) (cap:=[]) rfl rfl (aQ rfl) rfl (bP rfl) (cM (aB D_product hr rfl (ae (ag 0 (pv 0)) (ae (cg (N':=["number"]) (no:=1) (cap:=[]) rfl rfl (aQ rfl) rfl (bP rfl) (cM (ag 1 (pv 1))) (fun _ _ _ _ _ _=>(aJ 0 sO rfl (Or.inl rfl))) (fun _ _ _ _ _ _=>bF) (fun _ _ _ _ _ _=>(hG (ae (ag 0 (pv 0)) ak)))) (ae au ak))) (ah (ah (ah ay))))) (fun _ _ _ _ _ _=>(aJ 0 sP rfl (Or.inl rfl))) (fun _ _ _ _ _ _=>bF) (fun _ _ _ _ _ _=>(SE.seo (bh bj (ag 0 (pv 0)) au (fun _ _=>rfl))))))
theorem kQ:(["left", "right"]:List Str).Nodup:=by decide +kernel
abbrev mj:Stmt:=top 30
def jA (d_plus:List T -> Option T):FS:=
  (bG (cq 2 [] (eX (aa (af 0) (aa (af 1) ai))) (cE (aM (ar 0) (aM (ar 1) cz))) aD (aj d_plus (aa (af 0) (aa (af 1) ai)))))
theorem xQ:aL ["one", "other"] ["one", "other"] (av mj):=by walk_at "sc"
theorem xC {d_plus:List T -> Option T} (F:eR K "row_sum" "row_sum" mj f fd) (hb:Binds K fd ["one", "other"] []) (hm:mg "row_sum" = some (.ref f)) (D_plus:Def P w K mg base k "plus" 2 d_plus) (m_zip:mg "zip" = none) :
  Def P w K mg base (k + 1) "row_sum" 2 (bX 2 2 (jA d_plus)):=
 bC F xQ hb hm fun cdv A outer s H E hr=>(aF (aW (cg (N':=["left", "right"]) (no:=2) (cap:=[]) rfl rfl (aQ rfl) rfl (bP rfl) (mr rfl m_zip (ae (ag 0 (pv 0)) (ae (ag 1 (pv 1)) ak))) (fun _ _ _ _ _ _=>(eN rfl (aS (aJ 0 kQ rfl (Or.inl rfl)) (aS (aJ 1 kQ rfl (Or.inl rfl)) di)) (aY (aY eJ)))) (fun _ _ _ _ _ _=>bF) (fun _ _ _ _ _ _=>(aB D_plus hr rfl (ae (ag 0 (pv 0)) (ae (ag 1 (pv 1)) ak)) (ah (ah ay)))))))
theorem jh:(["left", "right"]:List Str).Nodup:=by decide +kernel
abbrev jv:Stmt:=top 31
def gO (d_row_sum:List T -> Option T):FS:=
  (bG (cq 2 [] (eX (aa (af 0) (aa (af 1) ai))) (cE (aM (ar 0) (aM (ar 1) cz))) aD (aj d_row_sum (aa (af 0) (aa (af 1) ai)))))
theorem tR:aL ["one", "other"] ["one", "other"] (av jv):=by walk_at "sc"
theorem tw {d_row_sum:List T -> Option T} (F:eR K "table_sum" "table_sum" jv f fd) (hb:Binds K fd ["one", "other"] []) (hm:mg "table_sum" = some (.ref f)) (D_row_sum:Def P w K mg base k "row_sum" 2 d_row_sum) (m_zip:mg "zip" = none) :
  Def P w K mg base (k + 1) "table_sum" 2 (bX 2 2 (gO d_row_sum)):=
 bC F tR hb hm fun cdv A outer s H E hr=>(aF (aW (cg (N':=["left", "right"]) (no:=2) (cap:=[]) rfl rfl (aQ rfl) rfl (bP rfl) (mr rfl m_zip (ae (ag 0 (pv 0)) (ae (ag 1 (pv 1)) ak))) (fun _ _ _ _ _ _=>(eN rfl (aS (aJ 0 jh rfl (Or.inl rfl)) (aS (aJ 1 jh rfl (Or.inl rfl)) di)) (aY (aY eJ)))) (fun _ _ _ _ _ _=>bF) (fun _ _ _ _ _ _=>(aB D_row_sum hr rfl (ae (ag 0 (pv 0)) (ae (ag 1 (pv 1)) ak)) (ah (ah ay)))))))
theorem sQ:(["row"]:List Str).Nodup:=by decide +kernel
theorem sR:(["column"]:List Str).Nodup:=by decide +kernel
theorem sS:(["row", "lifted_columns"]:List Str).Nodup:=by decide +kernel
theorem sT:(["column", "row"]:List Str).Nodup:=by decide +kernel
abbrev mi:Stmt:=top 32
def gd (d_lifted d_turned d_weighed_lifted:List T -> Option T):wa:=
  (iN (fH 3 1 [] (bf (af 0)) (ar 0) aD (aj d_lifted (aa (af 0) ai)))
  (iN (bo 4 (cq 1 [] (bf (aj d_turned (aa (af 1) (aa (af 2) ai)))) (ar 0) aD (aj d_lifted (aa (af 0) ai))))
  (jN (eu 1 [4] (bf (af 3)) (ar 0) aD (eu 1 [0] (bf (af 1)) (ar 0) aD (kC (aj d_weighed_lifted (aa (af 1) (aa (af 0) ai)))))))))
theorem km:aL ["one", "other", "wide", "lifted_rows", "lifted_columns"] ["one", "other", "wide"] (av mi):=by walk_at "sc"
theorem vx {d_lifted:List T -> Option T} {d_turned:List T -> Option T} {d_weighed_lifted:List T -> Option T} (F:eR K "product" "product" mi f fd) (hb:Binds K fd ["one", "other", "wide"] []) (hm:mg "product" = some (.ref f)) (D_lifted:Def P w K mg base k "lifted" 1 d_lifted) (D_turned:Def P w K mg base k "turned" 2 d_turned) (D_weighed_lifted:Def P w K mg base k "weighed_lifted" 2 d_weighed_lifted) :
  hW P w K mg base (k + 1) "product" 3 (jc 5 3 (gd d_lifted d_turned d_weighed_lifted)):=
 nj F km hb hm fun cdv A outer s H E hr=>(jx (pq km.nd rfl rfl (N':=["row"]) (no:=1) (cap:=[]) rfl rfl (aQ rfl) rfl (bP rfl) (cM (ag 0 (pv 0))) (fun _ _ _ _ _ _=>(aJ 0 sQ rfl (Or.inl rfl))) (fun _ _ _ _ _ _=>bF) (fun _ _ _ _ _ _=>(aB D_lifted hr rfl (ae (ag 0 (pv 0)) ak) (ah ay))))
  (jx (aZ 4 km.nd rfl (Or.inr rfl) (cg (N':=["column"]) (no:=1) (cap:=[]) rfl rfl (aQ rfl) rfl (bP rfl) (cM (aB D_turned hr rfl (ae (ag 1 (pv 1)) (ae (ag 2 (pv 2)) ak)) (ah (ah ay)))) (fun _ _ _ _ _ _=>(aJ 0 sR rfl (Or.inl rfl))) (fun _ _ _ _ _ _=>bF) (fun _ _ _ _ _ _=>(aB D_lifted hr rfl (ae (ag 0 (pv 0)) ak) (ah ay)))))
  (ua (jw (N':=["row", "lifted_columns"]) (no:=1) (cap:=[4]) rfl rfl (aQ rfl) rfl (bP rfl) (cM (ag 3 (pv 3))) (fun _ _ _ _ _ _=>(aJ 0 sS rfl (Or.inr rfl))) (fun _ _ _ _ _ _=>bF) (fun _ _ _ _ _ _=>(jw (N':=["column", "row"]) (no:=1) (cap:=[0]) rfl rfl (aQ rfl) rfl (bP rfl) (cM (ag 1 (pv 1))) (fun _ _ _ _ _ _=>(aJ 0 sT rfl (Or.inl rfl))) (fun _ _ _ _ _ _=>bF) (fun _ _ _ _ _ _=>(SE.seo (aB D_weighed_lifted hr rfl (ae (ag 1 (pv 1)) (ae (ag 0 (pv 0)) ak)) (ah (ah ay)))))))))))
theorem mK:(["top", "bottom"]:List Str).Nodup:=by decide +kernel
abbrev oR:Stmt:=top 33
def nY (d_shared_bottom d_raised:List T -> Option T):FS:=
  (aT (bo 1 (aj d_shared_bottom (aa (af 0) ai)))
  (bG (dU (aa (af 0) (aa (aj d_raised (aa (af 0) (aa (af 1) ai))) (aa (af 1) (aa (aH yy (cq 2 [] (bf (af 0)) (cE (aM (ar 0) (aM (ar 1) cz))) aD (mT iO (af 1))) (fC (.int 1))) ai)))))))
theorem qG:aL ["row", "low"] ["row"] (av oR):=by walk_at "sc"
theorem Aj {d_shared_bottom:List T -> Option T} {d_raised:List T -> Option T} (F:eR K "lifted" "lifted" oR f fd) (hb:Binds K fd ["row"] []) (hm:mg "lifted" = some (.ref f)) (D_shared_bottom:Def P w K mg base k "shared_bottom" 1 d_shared_bottom) (D_raised:Def P w K mg base k "raised" 2 d_raised) (m_max:mg "max" = none) :
  Def P w K mg base (k + 1) "lifted" 1 (bX 2 1 (nY d_shared_bottom d_raised)):=
 bC F qG hb hm fun cdv A outer s H E hr=>(aw (aZ 1 qG.nd rfl (Or.inl rfl) (aB D_shared_bottom hr rfl (ae (ag 0 (pv 0)) ak) (ah ay)))
  (aF (aW (eM (ae (ag 0 (pv 0)) (ae (aB D_raised hr rfl (ae (ag 0 (pv 0)) (ae (ag 1 (pv 1)) ak)) (ah (ah ay))) (ae (ag 1 (pv 1)) (ae (Ey rfl rfl m_max (cg (N':=["top", "bottom"]) (no:=2) (cap:=[]) rfl rfl (aQ rfl) rfl (bP rfl) (cM (ag 0 (pv 0))) (fun _ _ _ _ _ _=>(eN rfl (aS (aJ 0 mK rfl (Or.inl rfl)) (aS (aJ 1 mK rfl (Or.inl rfl)) di)) (aY (aY eJ)))) (fun _ _ _ _ _ _=>bF) (fun _ _ _ _ _ _=>(jF (ag 1 (pv 1))))) au) ak))))))))
theorem fV:(["left", "right"]:List Str).Nodup:=by decide +kernel
abbrev fy:Stmt:=top 34
def fm (d_weighed d_frac:List T -> Option T):FS:=
  (aT (oi (af 0) (cE (aM (ar 2) (aM (ar 3) (aM (ar 4) (aM (ar 5) cz))))))
  (aT (oi (af 1) (cE (aM (ar 6) (aM (ar 7) (aM (ar 8) (aM (ar 9) cz))))))
  (aT (cn (eG (aH zX (aH bS (mT iO (af 4)) (mT iO (af 8))) (aH bS (aH aV (fC (.int 4)) (aH bS (af 5) (af 9))) (fC (.int 128))))) (bG (aj d_weighed (aa (af 2) (aa (af 6) ai)))) bQ)
  (bG (aj d_frac (aa (aj Ds (aa (cq 2 [] (eX (aa (af 3) (aa (af 7) ai))) (cE (aM (ar 0) (aM (ar 1) cz))) aD (aH aV (af 0) (af 1))) ai)) (aa (aH aV (af 4) (af 8)) ai)))))))
theorem bx:aL ["one", "other", "row", "tops", "low", "longest", "other_row", "other_tops", "other_low", "other_longest"] ["one", "other"] (av fy):=by walk_at "sc"
theorem kS {d_weighed:List T -> Option T} {d_frac:List T -> Option T} (F:eR K "weighed_lifted" "weighed_lifted" fy f fd) (hb:Binds K fd ["one", "other"] []) (hm:mg "weighed_lifted" = some (.ref f)) (D_weighed:Def P w K mg base k "weighed" 2 d_weighed) (D_frac:Def P w K mg base k "frac" 2 d_frac) (m_zip:mg "zip" = none) (m_sum:mg "sum" = none) :
  Def P w K mg base (k + 1) "weighed_lifted" 2 (bX 10 2 (fm d_weighed d_frac)):=
 bC F bx hb hm fun cdv A outer s H E hr=>(aw (pk (ag 0 (pv 0)) (eN rfl (aS (aJ 2 bx.nd rfl (Or.inl rfl)) (aS (aJ 3 bx.nd rfl (Or.inl rfl)) (aS (aJ 4 bx.nd rfl (Or.inl rfl)) (aS (aJ 5 bx.nd rfl (Or.inl rfl)) di)))) (aY (aY (aY (aY eJ))))))
  (aw (pk (ag 1 (pv 1)) (eN rfl (aS (aJ 6 bx.nd rfl (Or.inl rfl)) (aS (aJ 7 bx.nd rfl (Or.inl rfl)) (aS (aJ 8 bx.nd rfl (Or.inl rfl)) (aS (aJ 9 bx.nd rfl (Or.inl rfl)) di)))) (aY (aY (aY (aY eJ))))))
  (aw (eP (cN vC (aK cv (jF (ag 4 (pv 4))) (jF (ag 8 (pv 8)))) (aK cv (aK bu au (aK cv (ag 5 (pv 5)) (ag 9 (pv 9)))) au) (bU _)) (aF (aW (aB D_weighed hr rfl (ae (ag 2 (pv 2)) (ae (ag 6 (pv 6)) ak)) (ah (ah ay))))) cj)
  (aF (aW (aB D_frac hr rfl (ae (aU (Gf rfl) rfl m_sum rfl (ae (cg (N':=["left", "right"]) (no:=2) (cap:=[]) rfl rfl (aQ rfl) rfl (bP rfl) (mr rfl m_zip (ae (ag 3 (pv 3)) (ae (ag 7 (pv 7)) ak))) (fun _ _ _ _ _ _=>(eN rfl (aS (aJ 0 fV rfl (Or.inl rfl)) (aS (aJ 1 fV rfl (Or.inl rfl)) di)) (aY (aY eJ)))) (fun _ _ _ _ _ _=>bF) (fun _ _ _ _ _ _=>(aK bu (ag 0 (pv 0)) (ag 1 (pv 1))))) ak)) (ae (aK bu (ag 4 (pv 4)) (ag 8 (pv 8))) ak)) (ah (ah ay))))))))
abbrev fQ:Stmt:=top 35
def fM (d_common:List T -> Option T):FS:=
  (aT (bo 1 (fC (.int 1)))
  (aT (jU (bf (af 0)) (cE (aM (ar 2) (aM (ar 3) cz))) (bo 1 (aH aV (aH cS (af 1) (aj d_common (aa (af 1) (aa (af 3) ai)))) (af 3))))
  (bG (af 1))))
theorem cL:aL ["row", "low", "top", "bottom"] ["row"] (av fQ):=by walk_at "sc"
theorem ma {d_common:List T -> Option T} (F:eR K "shared_bottom" "shared_bottom" fQ f fd) (hb:Binds K fd ["row"] []) (hm:mg "shared_bottom" = some (.ref f)) (D_common:Def P w K mg base k "common" 2 d_common) :
  Def P w K mg base (k + 1) "shared_bottom" 1 (bX 4 1 (fM d_common)):=
 bC F cL hb hm fun cdv A outer s H E hr=>(aw (aZ 1 cL.nd rfl (Or.inl rfl) au)
  (aw (mD PassesOwn.never rfl (cM (ag 0 (pv 0))) (eN rfl (aS (aJ 2 cL.nd rfl (Or.inl rfl)) (aS (aJ 3 cL.nd rfl (Or.inl rfl)) di)) (aY (aY eJ))) (aF (aZ 1 cL.nd rfl (Or.inl rfl) (aK bu (aK bZ (ag 1 (pv 1)) (aB D_common hr rfl (ae (ag 1 (pv 1)) (ae (ag 3 (pv 3)) ak)) (ah (ah ay)))) (ag 3 (pv 3))))))
  (aF (aW (ag 1 (pv 1))))))
theorem mL:(["top", "bottom", "low"]:List Str).Nodup:=by decide +kernel
abbrev oS:Stmt:=top 36
def uv:FS:=
  (bG (cq 2 [1] (bf (af 0)) (cE (aM (ar 0) (aM (ar 1) cz))) aD (aH aV (af 0) (aH cS (af 2) (af 1)))))
theorem Aq:aL ["row", "low"] ["row", "low"] (av oS):=by walk_at "sc"
theorem Ak (F:eR K "raised" "raised" oS f fd) (hb:Binds K fd ["row", "low"] []) (hm:mg "raised" = some (.ref f)) :
  Def P w K mg base (k + 1) "raised" 2 (bX 2 2 (uv)):=
 bC F Aq hb hm fun cdv A outer s H E hr=>(aF (aW (cg (N':=["top", "bottom", "low"]) (no:=2) (cap:=[1]) rfl rfl (aQ rfl) rfl (bP rfl) (cM (ag 0 (pv 0))) (fun _ _ _ _ _ _=>(eN rfl (aS (aJ 0 mL rfl (Or.inl rfl)) (aS (aJ 1 mL rfl (Or.inl rfl)) di)) (aY (aY eJ)))) (fun _ _ _ _ _ _=>bF) (fun _ _ _ _ _ _=>(aK bu (ag 0 (pv 0)) (aK bZ (ag 2 (pv 2)) (ag 1 (pv 1))))))))
theorem vq:(["place", "table"]:List Str).Nodup:=by decide +kernel
theorem vt:(["row", "place"]:List Str).Nodup:=by decide +kernel
abbrev oU:Stmt:=top 37
def ja:wa:=
  (jN (eu 1 [0] (eH (aa (af 1) ai)) (ar 0) aD (eu 1 [0] (bf (af 1)) (ar 0) aD (kC (aH bB (af 0) (af 1))))))
theorem Ar:aL ["table", "wide"] ["table", "wide"] (av oU):=by walk_at "sc"
theorem xB (F:eR K "turned" "turned" oU f fd) (hb:Binds K fd ["table", "wide"] []) (hm:mg "turned" = some (.ref f)) (m_range:mg "range" = none) :
  hW P w K mg base (k + 1) "turned" 2 (jc 2 2 (ja)):=
 nj F Ar hb hm fun cdv A outer s H E hr=>(ua (jw (N':=["place", "table"]) (no:=1) (cap:=[0]) rfl rfl (aQ rfl) rfl (bP rfl) (lB rfl m_range (ae (ag 1 (pv 1)) ak)) (fun _ _ _ _ _ _=>(aJ 0 vq rfl (Or.inr rfl))) (fun _ _ _ _ _ _=>bF) (fun _ _ _ _ _ _=>(jw (N':=["row", "place"]) (no:=1) (cap:=[0]) rfl rfl (aQ rfl) rfl (bP rfl) (cM (ag 1 (pv 1))) (fun _ _ _ _ _ _=>(aJ 0 vt rfl (Or.inl rfl))) (fun _ _ _ _ _ _=>bF) (fun _ _ _ _ _ _=>(SE.seo (bh bj (ag 0 (pv 0)) (ag 1 (pv 1)) (fun _ _=>rfl))))))))
theorem iV:(["table"]:List Str).Nodup:=by decide +kernel
theorem iW:(["row"]:List Str).Nodup:=by decide +kernel
abbrev dN:Stmt:=inClass (top 41) 0
def cP (d_is_system:List T -> Option T):Addr -> FI:=
  (BC (cn (cH (dk (aj d_is_system (aa (af 1) (aa (af 2) (aa (af 3) (aa (af 4) ai))))))) eD bQ)
  (BC (cn (eG (aH zX (aj cm (aa (af 1) ai)) (fC (.int 8)))) eD bQ)
  (DF "four" (aj dt (aa (cq 1 [] (bf (dU (aa (af 1) (aa (af 2) (aa (af 3) (aa (af 4) ai)))))) (ar 0) aD (aj dt (aa (cq 1 [] (bf (af 0)) (ar 0) aD (aj dt (aa (af 0) ai))) ai))) ai))
  IY)))
theorem jJ:aL ["self", "move", "push", "look", "through"] ["self", "move", "push", "look", "through"] (av dN):=by walk_at "sc"
theorem xy {d_is_system:List T -> Option T} {t_MOST_CELLS:Tok} {C:Addr} {cx:Str} (F:eR K "__init__" "System.__init__" dN f fd) (hb:Binds K fd ["self", "move", "push", "look", "through"] []) (cl:m7 K C) (M:Mk K C f) (hm:mg cx=some (.ref C)) (n_four:ff K C "four") (D_is_system:Def P w K mg base k "is_system" 4 d_is_system) (m_len:mg "len" = none) (m_tuple:mg "tuple" = none) (g_MOST_CELLS:mg "MOST_CELLS" = some (.int 8 t_MOST_CELLS)) :
  nT P w K mg base (k + 2) cx C 4 (dI 5 4 (cP d_is_system)):=
 DG F jJ hb M hm rfl fun cdv A outer s H E hr=>(zq (eP (eQ (fS (aB D_is_system hr rfl (ae (ag 1 (pv 1)) (ae (ag 2 (pv 2)) (ae (ag 3 (pv 3)) (ae (ag 4 (pv 4)) ak)))) (ah (ah (ah (ah ay))))))) (aF ik) cj)
  (zq (eP (cN vC (aU dJ rfl m_len PySem.boot_len (ae (ag 1 (pv 1)) ak)) (ie rfl g_MOST_CELLS) (bU _)) (aF ik) cj)
  (EC cl n_four (pv 0) (cw gq rfl m_tuple rfl (ae (cg (N':=["table"]) (no:=1) (cap:=[]) rfl rfl (aQ rfl) rfl (bP rfl) (cM (eM (ae (ag 1 (pv 1)) (ae (ag 2 (pv 2)) (ae (ag 3 (pv 3)) (ae (ag 4 (pv 4)) ak)))))) (fun _ _ _ _ _ _=>(aJ 0 iV rfl (Or.inl rfl))) (fun _ _ _ _ _ _=>bF) (fun _ _ _ _ _ _=>(cw gq rfl m_tuple rfl (ae (cg (N':=["row"]) (no:=1) (cap:=[]) rfl rfl (aQ rfl) rfl (bP rfl) (cM (ag 0 (pv 0))) (fun _ _ _ _ _ _=>(aJ 0 iW rfl (Or.inl rfl))) (fun _ _ _ _ _ _=>bF) (fun _ _ _ _ _ _=>(cw gq rfl m_tuple rfl (ae (ag 0 (pv 0)) ak)))) ak)))) ak))
  ED)))
abbrev fP:Stmt:=inClass (top 41) 1
def iM (c_System:Addr):FS:=
  (bG (aj cm (aa (aH bB (Bk [c_System] "four" (af 0)) (fC (.int 0))) ai)))
theorem mm:aL ["self"] ["self"] (av fP):=by walk_at "sc"
theorem kR {c_System:Addr} {C:Addr} (F:eR K "cells" "System.cells" fP f fd) (hb:Binds K fd ["self"] []) (cl:m7 K C) (hm:Meth K C "cells" f) (hf_four:∀ C ∈ [c_System],m7 K C /\ ff K C "four") (m_len:mg "len" = none) :
  gR P w K mg base (k + 1) C "cells" 1 (bX 1 1 (iM c_System)):=
 sJ F mm hb cl hm fun cdv A outer s H E hr=>(aF (aW (aU dJ rfl m_len PySem.boot_len (ae (bh bj (xR hf_four (ag 0 (pv 0))) au (fun _ _=>rfl)) ak))))
abbrev gW:Stmt:=inClass (top 41) 2
def jL (c_System:Addr):FS:=
  (bG (aj cm (aa (aH bB (aH bB (Bk [c_System] "four" (af 0)) (fC (.int 3))) (fC (.int 0))) ai)))
theorem oW:aL ["self"] ["self"] (av gW):=by walk_at "sc"
theorem mV {c_System:Addr} {C:Addr} (F:eR K "ins" "System.ins" gW f fd) (hb:Binds K fd ["self"] []) (cl:m7 K C) (hm:Meth K C "ins" f) (hf_four:∀ C ∈ [c_System],m7 K C /\ ff K C "four") (m_len:mg "len" = none) :
  gR P w K mg base (k + 1) C "ins" 1 (bX 1 1 (jL c_System)):=
 sJ F oW hb cl hm fun cdv A outer s H E hr=>(aF (aW (aU dJ rfl m_len PySem.boot_len (ae (bh bj (bh bj (xR hf_four (ag 0 (pv 0))) au (fun _ _=>rfl)) au (fun _ _=>rfl)) ak))))
theorem jH:(["table"]:List Str).Nodup:=by decide +kernel
theorem jI:(["row"]:List Str).Nodup:=by decide +kernel
abbrev fv:Stmt:=inClass (top 41) 4
def ia (c_System:Addr):FS:=
  (bG (aj dt (aa (cq 1 [] (bf (Bk [c_System] "four" (af 0))) (ar 0) aD (cq 1 [] (bf (af 0)) (ar 0) aD (aj dList (aa (af 0) ai)))) ai)))
theorem lb:aL ["self"] ["self"] (av fv):=by walk_at "sc"
theorem kg {c_System:Addr} {C:Addr} (F:eR K "tables" "System.tables" fv f fd) (hb:Binds K fd ["self"] []) (cl:m7 K C) (hm:Meth K C "tables" f) (hf_four:∀ C ∈ [c_System],m7 K C /\ ff K C "four") (m_list:mg "list" = none) (m_tuple:mg "tuple" = none) :
  gR P w K mg base (k + 1) C "tables" 1 (bX 1 1 (ia c_System)):=
 sJ F lb hb cl hm fun cdv A outer s H E hr=>(aF (aW (cw gq rfl m_tuple rfl (ae (cg (N':=["table"]) (no:=1) (cap:=[]) rfl rfl (aQ rfl) rfl (bP rfl) (cM (xR hf_four (ag 0 (pv 0)))) (fun _ _ _ _ _ _=>(aJ 0 jH rfl (Or.inl rfl))) (fun _ _ _ _ _ _=>bF) (fun _ _ _ _ _ _=>(cg (N':=["row"]) (no:=1) (cap:=[]) rfl rfl (aQ rfl) rfl (bP rfl) (cM (ag 0 (pv 0))) (fun _ _ _ _ _ _=>(aJ 0 jI rfl (Or.inl rfl))) (fun _ _ _ _ _ _=>bF) (fun _ _ _ _ _ _=>(cw rj rfl m_list rfl (ae (ag 0 (pv 0)) ak)))))) ak))))
abbrev jt:Stmt:=top 42
def gM (d_is_table:List T -> Option T):FS:=
  (aT (cn (lT (cH (dk (aj bp (aa (af 0) (aa (fC (.ty "list")) ai))))) (lT (cH (dk (aj bp (aa (af 3) (aa (fC (.ty "list")) ai))))) (cH (eG (je zY zY (fC (.int 1)) (aj cm (aa (af 3) ai)) (fC (.int 2))))))) (bG (fC (.bl false))) bQ)
  (aT (cn (lT (cH (dk (aj bp (aa (aH bB (af 3) (fC (.int 0))) (aa (fC (.ty "list")) ai))))) (cH (eG (je zY zY (fC (.int 1)) (aj cm (aa (aH bB (af 3) (fC (.int 0))) ai)) (fC (.int 2)))))) (bG (fC (.bl false))) bQ)
  (aT (yr 4 5 6 (aa (aj cm (aa (af 0) ai)) (aa (aj cm (aa (aH bB (af 3) (fC (.int 0))) ai)) (aa (aj cm (aa (af 3) ai)) ai))))
  (bG (ek (aj d_is_table (aa (af 0) (aa (af 4) (aa (af 4) ai)))) (ek (aj d_is_table (aa (af 1) (aa (af 4) (aa (af 5) ai)))) (ek (aj d_is_table (aa (af 2) (aa (af 6) (aa (af 4) ai)))) (aj d_is_table (aa (af 3) (aa (af 6) (aa (af 5) ai)))))))))))
theorem lj:aL ["move", "push", "look", "through", "cells", "ins", "outs"] ["move", "push", "look", "through"] (av jt):=by walk_at "sc"
theorem tq {d_is_table:List T -> Option T} {t_MOST_LINES:Tok} (F:eR K "is_system" "is_system" jt f fd) (hb:Binds K fd ["move", "push", "look", "through"] []) (hm:mg "is_system" = some (.ref f)) (D_is_table:Def P w K mg base k "is_table" 3 d_is_table) (m_list:mg "list" = none) (m_isinstance:mg "isinstance" = none) (m_len:mg "len" = none) (g_MOST_LINES:mg "MOST_LINES" = some (.int 2 t_MOST_LINES)) :
  Def P w K mg base (k + 1) "is_system" 4 (bX 7 4 (gM d_is_table)):=
 bC F lj hb hm fun cdv A outer s H E hr=>(aw (eP (SW.st (lF (eQ (fS (aU iA rfl m_isinstance rfl (ae (ag 0 (pv 0)) (ae (lu rfl m_list rfl) ak))))) (lF (eQ (fS (aU iA rfl m_isinstance rfl (ae (ag 3 (pv 3)) (ae (lu rfl m_list rfl) ak))))) (mE (eQ (vT yW yW au (aU dJ rfl m_len PySem.boot_len (ae (ag 3 (pv 3)) ak)) (ie rfl g_MOST_LINES))))))) (aF (aW mM)) cj)
  (aw (eP (SW.st (lF (eQ (fS (aU iA rfl m_isinstance rfl (ae (bh bj (ag 3 (pv 3)) au (fun _ _=>rfl)) (ae (lu rfl m_list rfl) ak))))) (mE (eQ (vT yW yW au (aU dJ rfl m_len PySem.boot_len (ae (bh bj (ag 3 (pv 3)) au (fun _ _=>rfl)) ak)) (ie rfl g_MOST_LINES)))))) (aF (aW mM)) cj)
  (aw (EL rfl lj.nd rfl rfl rfl (by decide) (by decide) (by decide) rfl rfl rfl (ae (aU dJ rfl m_len PySem.boot_len (ae (ag 0 (pv 0)) ak)) (ae (aU dJ rfl m_len PySem.boot_len (ae (bh bj (ag 3 (pv 3)) au (fun _ _=>rfl)) ak)) (ae (aU dJ rfl m_len PySem.boot_len (ae (ag 3 (pv 3)) ak)) ak))) rfl)
  (aF (aW (gC (aB D_is_table hr rfl (ae (ag 0 (pv 0)) (ae (ag 4 (pv 4)) (ae (ag 4 (pv 4)) ak))) (ah (ah (ah ay)))) (gC (aB D_is_table hr rfl (ae (ag 1 (pv 1)) (ae (ag 4 (pv 4)) (ae (ag 5 (pv 5)) ak))) (ah (ah (ah ay)))) (gC (aB D_is_table hr rfl (ae (ag 2 (pv 2)) (ae (ag 6 (pv 6)) (ae (ag 4 (pv 4)) ak))) (ah (ah (ah ay)))) (oZ (aB D_is_table hr rfl (ae (ag 3 (pv 3)) (ae (ag 6 (pv 6)) (ae (ag 5 (pv 5)) ak))) (ah (ah (ah ay)))))))))))))
abbrev fZ:Stmt:=top 44
def kq (c_System:Addr) (d_is_row:List T -> Option T) (dM_System__cells:List T -> Option T):FS:=
  (cn (cH (dk (aj d_is_row (aa (af 1) (aa (gu [(c_System,dM_System__cells)] "cells" (af 0) ai) ai))))) eD bQ)
theorem jO:aL ["system", "aim"] ["system", "aim"] (av fZ):=by walk_at "sc"
theorem p8 {c_System:Addr} {d_is_row:List T -> Option T} {dM_System__cells:List T -> Option T} (F:eR K "refuse_aim" "refuse_aim" fZ f fd) (hb:Binds K fd ["system", "aim"] []) (hm:mg "refuse_aim" = some (.ref f)) (D_is_row:Def P w K mg base k "is_row" 2 d_is_row) (DM_cells:∀ a ∈ [(c_System,dM_System__cells)],gR P w K mg base k a.1 "cells" 1 a.2) :
  Def P w K mg base (k + 1) "refuse_aim" 2 (bX 2 2 (kq c_System d_is_row dM_System__cells)):=
 bC F jO hb hm fun cdv A outer s H E hr=>(aF (eP (eQ (fS (aB D_is_row hr rfl (ae (ag 1 (pv 1)) (ae (ig DM_cells hr (ag 0 (pv 0))) ak)) (ah (ah ay))))) (aF ik) cj))
def jM (c_System c_NoFit:Addr) (d_is_row:List T -> Option T) (dM_System__cells:List T -> Option T):FX:=
  (wL (cH (dk (aj d_is_row (aa (af 1) (aa (gu [(c_System,dM_System__cells)] "cells" (af 0) ai) ai))))) (rC c_NoFit (aa (fC (.str "there is not a fraction for each cell")) ai)) Gq)
theorem oJ {c_System c_NoFit:Addr} {d_is_row:List T -> Option T} {dM_System__cells:List T -> Option T} {up_NoFit:List Addr} (F:eR K "refuse_aim" "refuse_aim" fZ f fd) (hb:Binds K fd ["system", "aim"] []) (hm:mg "refuse_aim" = some (.ref f)) (D_is_row:Def P w K mg base k "is_row" 2 d_is_row) (DM_cells:∀ a ∈ [(c_System,dM_System__cells)],gR P w K mg base k a.1 "cells" 1 a.2) (er_NoFit:nS K c_NoFit up_NoFit) (mc_NoFit:mg "NoFit" = some (.ref c_NoFit)) :
  nR P w K mg base (k + 1) "refuse_aim" 2 (uC 2 2 (jM c_System c_NoFit d_is_row dM_System__cells)):=
 yl F jO hb hm fun cdv A outer s H E hr=>(ip (FC (fun _ _ z=>z) (eQ (fS (aB D_is_row hr rfl (ae (ag 1 (pv 1)) (ae (ig DM_cells hr (ag 0 (pv 0))) ak)) (ah (ah ay))))) (ip (vU rfl (fun _ _ z=>z) er_NoFit rfl mc_NoFit (ae hJ ak))) CN))
abbrev ki:Stmt:=top 46
def iy (c_System:Addr) (d_is_table:List T -> Option T) (dM_System__ins dM_System__cells:List T -> Option T):FS:=
  (bG (aj d_is_table (aa (af 1) (aa (gu [(c_System,dM_System__ins)] "ins" (af 0) ai) (aa (gu [(c_System,dM_System__cells)] "cells" (af 0) ai) ai)))))
theorem vN:aL ["system", "thing"] ["system", "thing"] (av ki):=by walk_at "sc"
theorem vz {c_System:Addr} {d_is_table:List T -> Option T} {dM_System__ins:List T -> Option T} {dM_System__cells:List T -> Option T} (F:eR K "can_keep" "can_keep" ki f fd) (hb:Binds K fd ["system", "thing"] []) (hm:mg "can_keep" = some (.ref f)) (D_is_table:Def P w K mg base k "is_table" 3 d_is_table) (DM_ins:∀ a ∈ [(c_System,dM_System__ins)],gR P w K mg base k a.1 "ins" 1 a.2) (DM_cells:∀ a ∈ [(c_System,dM_System__cells)],gR P w K mg base k a.1 "cells" 1 a.2) :
  Def P w K mg base (k + 1) "can_keep" 2 (bX 2 2 (iy c_System d_is_table dM_System__ins dM_System__cells)):=
 bC F vN hb hm fun cdv A outer s H E hr=>(aF (aW (aB D_is_table hr rfl (ae (ag 1 (pv 1)) (ae (ig DM_ins hr (ag 0 (pv 0))) (ae (ig DM_cells hr (ag 0 (pv 0))) ak))) (ah (ah (ah ay))))))
abbrev ju:Stmt:=top 47
def gN (c_System:Addr) (d_product d_table_sum:List T -> Option T) (dM_System__tables:List T -> Option T):FS:=
  (aT (oi (gu [(c_System,dM_System__tables)] "tables" (af 0) ai) (cE (aM (ar 2) (aM (ar 3) (aM (ar 4) (aM (ar 5) cz))))))
  (bG (aj d_table_sum (aa (af 2) (aa (aj d_product (aa (af 3) (aa (af 1) (aa (aj cm (aa (af 2) ai)) ai)))) ai)))))
theorem eL:aL ["system", "back", "move", "push", "look", "through"] ["system", "back"] (av ju):=by walk_at "sc"
theorem tu {c_System:Addr} {d_product:List T -> Option T} {d_table_sum:List T -> Option T} {dM_System__tables:List T -> Option T} (F:eR K "kept_move" "kept_move" ju f fd) (hb:Binds K fd ["system", "back"] []) (hm:mg "kept_move" = some (.ref f)) (D_product:Def P w K mg base k "product" 3 d_product) (D_table_sum:Def P w K mg base k "table_sum" 2 d_table_sum) (DM_tables:∀ a ∈ [(c_System,dM_System__tables)],gR P w K mg base k a.1 "tables" 1 a.2) (m_len:mg "len" = none) :
  Def P w K mg base (k + 1) "kept_move" 2 (bX 6 2 (gN c_System d_product d_table_sum dM_System__tables)):=
 bC F eL hb hm fun cdv A outer s H E hr=>(aw (pk (ig DM_tables hr (ag 0 (pv 0))) (eN rfl (aS (aJ 2 eL.nd rfl (Or.inl rfl)) (aS (aJ 3 eL.nd rfl (Or.inl rfl)) (aS (aJ 4 eL.nd rfl (Or.inl rfl)) (aS (aJ 5 eL.nd rfl (Or.inl rfl)) di)))) (aY (aY (aY (aY eJ))))))
  (aF (aW (aB D_table_sum hr rfl (ae (ag 2 (pv 2)) (ae (aB D_product hr rfl (ae (ag 3 (pv 3)) (ae (ag 1 (pv 1)) (ae (aU dJ rfl m_len PySem.boot_len (ae (ag 2 (pv 2)) ak)) ak))) (ah (ah (ah ay)))) ak)) (ah (ah ay))))))
abbrev iI:Stmt:=top 48
def dm (c_System:Addr) (d_can_keep d_refuse_aim d_kept_move:List T -> Option T) (dO_applied:List T -> Option O) (dM_System__cells:List T -> Option T):wa:=
  (iN (cn (cH (dk (aj d_can_keep (aa (af 0) (aa (af 1) ai))))) eD bQ)
  (iN (kz (aj d_refuse_aim (aa (af 0) (aa (af 2) ai))))
  (iN (bo 3 (aj d_kept_move (aa (af 0) (aa (af 1) ai))))
  (yq 4 (rA (af 2))
  (yL (BN 4 (eH (aa (gu [(c_System,dM_System__cells)] "cells" (af 0) ai) ai)) (ar 5)
  (BM 4 (fO dO_applied (aa (af 3) (aa (aH bB (af 4) (mT kI (fC (.int 1)))) ai)))))
  Bl)))))
theorem fK:aL ["system", "back", "start", "move", "states", "turn"] ["system", "back", "start"] (av iI):=by walk_at "sc"
theorem sV {c_System:Addr} {d_can_keep:List T -> Option T} {d_refuse_aim:List T -> Option T} {d_kept_move:List T -> Option T} {dO_applied:List T -> Option O} {dM_System__cells:List T -> Option T} (F:eR K "kept_run" "kept_run" iI f fd) (hb:Binds K fd ["system", "back", "start"] []) (hm:mg "kept_run" = some (.ref f)) (D_can_keep:Def P w K mg base k "can_keep" 2 d_can_keep) (D_refuse_aim:Def P w K mg base k "refuse_aim" 2 d_refuse_aim) (D_kept_move:Def P w K mg base k "kept_move" 2 d_kept_move) (DO_applied:hW P w K mg base k "applied" 2 dO_applied) (DM_cells:∀ a ∈ [(c_System,dM_System__cells)],gR P w K mg base k a.1 "cells" 1 a.2) (m_list:mg "list" = none) (m_range:mg "range" = none) :
  hW P w K mg base (k + 1) "kept_run" 3 (jc 6 3 (dm c_System d_can_keep d_refuse_aim d_kept_move dO_applied dM_System__cells)):=
 nj F fK hb hm fun cdv A outer s H E hr=>(jx (eP (eQ (fS (aB D_can_keep hr rfl (ae (ag 0 (pv 0)) (ae (ag 1 (pv 1)) ak)) (ah (ah ay))))) (aF ik) cj)
  (jx (zv (aB D_refuse_aim hr rfl (ae (ag 0 (pv 0)) (ae (ag 2 (pv 2)) ak)) (ah (ah ay))))
  (jx (aZ 3 fK.nd rfl (Or.inl rfl) (aB D_kept_move hr rfl (ae (ag 0 (pv 0)) (ae (ag 1 (pv 1)) ak)) (ah (ah ay))))
  (CK fK.nd rfl (Or.inl rfl) (CD rfl m_list (ag 2 (pv 2)))
  (CG (Hv PassesOwn.never rfl (lB rfl m_range (ae (ig DM_cells hr (ag 0 (pv 0))) ak)) (aJ 5 fK.nd rfl (Or.inl rfl))
  (EH (EE (pv 4) (vQ DO_applied hr rfl (ae (ag 3 (pv 3)) (ae (bh bj (ag 4 (pv 4)) (zk uc au) (fun _ _=>rfl)) ak)) (ah (ah ay))))))
  (EG (pv 4)))))))
def dP (c_NoTable:Addr) (d_can_keep:List T -> Option T) (dx_refuse_aim:List T -> Option Addr):FX:=
  (wM (wL (cH (dk (aj d_can_keep (aa (af 0) (aa (af 1) ai))))) (rC c_NoTable (aa (fC (.str "the table has not a row for each line in and a number for each cell")) ai)) Gq)
  (yt (cn (cH (dk (aj d_can_keep (aa (af 0) (aa (af 1) ai))))) eD bQ)
  (oj dx_refuse_aim (aa (af 0) (aa (af 2) ai)))))
theorem sW {c_NoTable:Addr} {d_can_keep:List T -> Option T} {dx_refuse_aim:List T -> Option Addr} {up_NoTable:List Addr} (F:eR K "kept_run" "kept_run" iI f fd) (hb:Binds K fd ["system", "back", "start"] []) (hm:mg "kept_run" = some (.ref f)) (D_can_keep:Def P w K mg base k "can_keep" 2 d_can_keep) (DX_refuse_aim:nR P w K mg base k "refuse_aim" 2 dx_refuse_aim) (er_NoTable:nS K c_NoTable up_NoTable) (mc_NoTable:mg "NoTable" = some (.ref c_NoTable)) :
  nR P w K mg base (k + 1) "kept_run" 3 (uC 6 3 (dP c_NoTable d_can_keep dx_refuse_aim)):=
 yl F fK hb hm fun cdv A outer s H E hr=>(HA (ip (FC (fun _ _ z=>z) (eQ (fS (aB D_can_keep hr rfl (ae (ag 0 (pv 0)) (ae (ag 1 (pv 1)) ak)) (ah (ah ay))))) (ip (vU rfl (fun _ _ z=>z) er_NoTable rfl mc_NoTable (ae hJ ak))) CN))
  (CM (fun _ _ z=>z) (eP (eQ (fS (aB D_can_keep hr rfl (ae (ag 0 (pv 0)) (ae (ag 1 (pv 1)) ak)) (ah (ah ay))))) (aF ik) cj)
  (ip (zA (zy (fun _ _ z=>z) DX_refuse_aim hr rfl (ae (ag 0 (pv 0)) (ae (ag 2 (pv 2)) ak)) (ah (ah ay)))))))
abbrev jl:Stmt:=top 50
def gG:FS:=
  (aT (cn (eG (aH HS (af 1) (aj cm (aa (af 0) ai)))) (bG (aH bB (af 0) (af 1))) bQ)
  (bG (fC (.int 0))))
theorem tM:aL ["_law_script", "_law_k"] ["_law_script", "_law_k"] (av jl):=by walk_at "sc"
theorem sX (F:eR K "_law_cell" "_law_cell" jl f fd) (hb:Binds K fd ["_law_script", "_law_k"] []) (hm:mg "_law_cell" = some (.ref f)) (m_len:mg "len" = none) :
  Def P w K mg base (k + 1) "_law_cell" 2 (bX 2 2 (gG)):=
 bC F tM hb hm fun cdv A outer s H E hr=>(aw (eP (cN Ca (ag 1 (pv 1)) (aU dJ rfl m_len PySem.boot_len (ae (ag 0 (pv 0)) ak)) (bU _)) (aF (aW (bh bj (ag 0 (pv 0)) (ag 1 (pv 1)) (fun _ _=>rfl)))) cj)
  (aF (aW au)))
abbrev iH:Stmt:=top 51
def iw:FS:=
  (aT (bo 2 (aH cu (aH bS (aH bS (af 0) (aH aV (fC (.int 7919)) (af 1))) (fC (.int 12345))) (fC (.int 2147483629))))
  (aT (bo 2 (aH cu (aH bS (aH aV (af 2) (af 2)) (aH aV (fC (.int 48271)) (af 1))) (fC (.int 2147483629))))
  (bG (aH cu (aH aV (af 2) (af 2)) (fC (.int 2147483587))))))
theorem gZ:aL ["_law_cell_here", "_law_k", "_law_number"] ["_law_cell_here", "_law_k"] (av iH):=by walk_at "sc"
theorem p7 (F:eR K "_law_mixed" "_law_mixed" iH f fd) (hb:Binds K fd ["_law_cell_here", "_law_k"] []) (hm:mg "_law_mixed" = some (.ref f)) :
  Def P w K mg base (k + 1) "_law_mixed" 2 (bX 3 2 (iw)):=
 bC F gZ hb hm fun cdv A outer s H E hr=>(aw (aZ 2 gZ.nd rfl (Or.inl rfl) (aK dh (aK cv (aK cv (ag 0 (pv 0)) (aK bu au (ag 1 (pv 1)))) au) au))
  (aw (aZ 2 gZ.nd rfl (Or.inl rfl) (aK dh (aK cv (aK bu (ag 2 (pv 2)) (ag 2 (pv 2))) (aK bu au (ag 1 (pv 1)))) au))
  (aF (aW (aK dh (aK bu (ag 2 (pv 2)) (ag 2 (pv 2))) au)))))
abbrev gw:Stmt:=top 52
def gj (n:Nat):FS:=
  (aT (bo 0 (aj uz (aa (af 0) ai)))
  (aT (bo 1 (aj uz (aa (af 1) ai)))
  (aT (dO (eG (aH zX (af 1) (fC (.int 0)))) (rB 0 1 (aa (af 1) (aa (aH cu (af 0) (af 1)) ai))) n)
  (bG (af 0)))))
theorem dH:aL ["_law_one", "_law_other"] ["_law_one", "_law_other"] (av gw):=by walk_at "sc"
theorem mW (n:Nat) (F:eR K "_law_divisor" "_law_divisor" gw f fd) (hb:Binds K fd ["_law_one", "_law_other"] []) (hm:mg "_law_divisor" = some (.ref f)) (m_abs:mg "abs" = none) :
  Def P w K mg base (k + 1) "_law_divisor" 2 (bX 2 2 (gj n)):=
 bC F dH hb hm fun cdv A outer s H E hr=>(aw (aZ 0 dH.nd rfl (Or.inl rfl) (aU rh rfl m_abs rfl (ae (ag 0 (pv 0)) ak)))
  (aw (aZ 1 dH.nd rfl (Or.inl rfl) (aU rh rfl m_abs rfl (ae (ag 1 (pv 1)) ak)))
  (aw (pw n PassesOwn.never (cN vC (ag 1 (pv 1)) au (bU _)) (aF (tZ rfl dH.nd rfl rfl (by decide) rfl rfl (ae (ag 1 (pv 1)) (ae (aK dh (ag 0 (pv 0)) (ag 1 (pv 1))) ak)) rfl)))
  (aF (aW (ag 0 (pv 0)))))))
abbrev jn:Stmt:=top 53
def iZ (d__law_divisor:List T -> Option T):FS:=
  (aT (bo 2 (aj d__law_divisor (aa (af 0) (aa (af 1) ai))))
  (bG (dU (aa (aH cS (af 0) (af 2)) (aa (aH cS (af 1) (af 2)) ai)))))
theorem lh:aL ["_law_top", "_law_bottom", "_law_by"] ["_law_top", "_law_bottom"] (av jn):=by walk_at "sc"
theorem sZ {d__law_divisor:List T -> Option T} (F:eR K "_law_frac" "_law_frac" jn f fd) (hb:Binds K fd ["_law_top", "_law_bottom"] []) (hm:mg "_law_frac" = some (.ref f)) (D__law_divisor:Def P w K mg base k "_law_divisor" 2 d__law_divisor) :
  Def P w K mg base (k + 1) "_law_frac" 2 (bX 3 2 (iZ d__law_divisor)):=
 bC F lh hb hm fun cdv A outer s H E hr=>(aw (aZ 2 lh.nd rfl (Or.inl rfl) (aB D__law_divisor hr rfl (ae (ag 0 (pv 0)) (ae (ag 1 (pv 1)) ak)) (ah (ah ay))))
  (aF (aW (eM (ae (aK bZ (ag 0 (pv 0)) (ag 2 (pv 2))) (ae (aK bZ (ag 1 (pv 1)) (ag 2 (pv 2))) ak))))))
abbrev gx:Stmt:=top 54
def dZ (d__law_frac d__law_mixed:List T -> Option T):FS:=
  (aT (cR 2 ai)
  (aT (bo 3 (aH cS (af 0) (fC (.int 2))))
  (aT (jU (eH (aa (af 1) ai)) (ar 4) (cn (eG (aH kH (aH cu (af 0) (fC (.int 2))) (fC (.int 1)))) (aT (mS 2 (aj d__law_frac (aa (aH rJ (aH cu (af 3) (fC (.int 19))) (fC (.int 9))) (aa (aH bS (fC (.int 1)) (aH cu (aH cS (af 3) (fC (.int 19))) (fC (.int 12)))) ai))))
  (bo 3 (aH cS (af 3) (fC (.int 228))))) (aT (bo 5 (aj d__law_mixed (aa (af 0) (aa (af 4) ai))))
  (aT (bo 6 (aH cu (af 5) (fC (.int 4))))
  (aT (mS 2 (aH bB (dw (aa (dU (aa (fC (.int 0)) (aa (fC (.int 1)) ai))) (aa (dU (aa (aH rJ (aH cu (aH cS (af 5) (fC (.int 4))) (fC (.int 3))) (fC (.int 1))) (aa (fC (.int 1)) ai))) (aa (dU (aa (fC (.int 1)) (aa (fC (.int 2)) ai))) (aa (dU (aa (fC (.int 0)) (aa (fC (.int 1)) ai))) ai))))) (af 6)))
  (cn (eG (aH kH (af 6) (fC (.int 2)))) (om 2 (aj d__law_frac (aa (aH rJ (aH cu (aH cS (af 5) (fC (.int 4))) (fC (.int 19))) (fC (.int 9))) (aa (aH bS (fC (.int 1)) (aH cu (aH cS (af 5) (fC (.int 76))) (fC (.int 12)))) ai))) (mT kI (fC (.int 1)))) bQ))))))
  (bG (af 2)))))
theorem bV:aL ["_law_cell_here", "_law_many", "_law_found", "_law_rest", "_law_k", "_law_number", "_law_kind"] ["_law_cell_here", "_law_many"] (av gx):=by walk_at "sc"
theorem mX {d__law_frac:List T -> Option T} {d__law_mixed:List T -> Option T} (F:eR K "_law_numbers" "_law_numbers" gx f fd) (hb:Binds K fd ["_law_cell_here", "_law_many"] []) (hm:mg "_law_numbers" = some (.ref f)) (D__law_frac:Def P w K mg base k "_law_frac" 2 d__law_frac) (D__law_mixed:Def P w K mg base k "_law_mixed" 2 d__law_mixed) (m_range:mg "range" = none) :
  Def P w K mg base (k + 1) "_law_numbers" 2 (bX 7 2 (dZ d__law_frac d__law_mixed)):=
 bC F bV hb hm fun cdv A outer s H E hr=>(aw (il 2 bV.nd rfl (Or.inl rfl) ak)
  (aw (aZ 3 bV.nd rfl (Or.inl rfl) (aK bZ (ag 0 (pv 0)) au))
  (aw (mD PassesOwn.never rfl (lB rfl m_range (ae (ag 1 (pv 1)) ak)) (aJ 4 bV.nd rfl (Or.inl rfl)) (aF (eP (cN (oN hr.units) (aK dh (ag 0 (pv 0)) au) au (bU _)) (aw (mC 2 (pv 2) (aB D__law_frac hr rfl (ae (aK xF (aK dh (ag 3 (pv 3)) au) au) (ae (aK cv au (aK dh (aK bZ (ag 3 (pv 3)) au) au)) ak)) (ah (ah ay))))
  (aF (aZ 3 bV.nd rfl (Or.inl rfl) (aK bZ (ag 3 (pv 3)) au)))) (aw (aZ 5 bV.nd rfl (Or.inl rfl) (aB D__law_mixed hr rfl (ae (ag 0 (pv 0)) (ae (ag 4 (pv 4)) ak)) (ah (ah ay))))
  (aw (aZ 6 bV.nd rfl (Or.inl rfl) (aK dh (ag 5 (pv 5)) au))
  (aw (mC 2 (pv 2) (bh bj (hG (ae (eM (ae au (ae au ak))) (ae (eM (ae (aK xF (aK dh (aK bZ (ag 5 (pv 5)) au) au) au) (ae au ak))) (ae (eM (ae au (ae au ak))) (ae (eM (ae au (ae au ak))) ak))))) (ag 6 (pv 6)) (fun _ _=>rfl)))
  (aF (eP (cN (oN hr.units) (ag 6 (pv 6)) au (bU _)) (aF (CJ 2 (pv 2) (aB D__law_frac hr rfl (ae (aK xF (aK dh (aK bZ (ag 5 (pv 5)) au) au) au) (ae (aK cv au (aK dh (aK bZ (ag 5 (pv 5)) au) au)) ak)) (ah (ah ay))) (zk uc au))) cj))))))))
  (aF (aW (ag 2 (pv 2)))))))
theorem oG:(["_law_k", "_law_numbers_here", "_law_wide"]:List Str).Nodup:=by decide +kernel
abbrev jq:Stmt:=top 55
def gK:FS:=
  (bG (cq 1 [0,2] (eH (aa (af 1) ai)) (ar 0) aD (uH (af 1) (eE (aH aV (af 2) (af 0))) (eE (aH bS (aH aV (af 2) (af 0)) (af 2))))))
theorem tP:aL ["_law_numbers_here", "_law_many", "_law_wide"] ["_law_numbers_here", "_law_many", "_law_wide"] (av jq):=by walk_at "sc"
theorem tj (F:eR K "_law_rows" "_law_rows" jq f fd) (hb:Binds K fd ["_law_numbers_here", "_law_many", "_law_wide"] []) (hm:mg "_law_rows" = some (.ref f)) (m_range:mg "range" = none) :
  Def P w K mg base (k + 1) "_law_rows" 3 (bX 3 3 (gK)):=
 bC F tP hb hm fun cdv A outer s H E hr=>(aF (aW (cg (N':=["_law_k", "_law_numbers_here", "_law_wide"]) (no:=1) (cap:=[0,2]) rfl rfl (aQ rfl) rfl (bP rfl) (lB rfl m_range (ae (ag 1 (pv 1)) ak)) (fun _ _ _ _ _ _=>(aJ 0 oG rfl (Or.inl rfl))) (fun _ _ _ _ _ _=>bF) (fun _ _ _ _ _ _=>(ij (ag 1 (pv 1)) (iJ (aK bu (ag 2 (pv 2)) (ag 0 (pv 0)))) (iJ (aK cv (aK bu (ag 2 (pv 2)) (ag 0 (pv 0))) (ag 2 (pv 2)))))))))
abbrev jm:Stmt:=top 56
def gH (d__law_numbers d__law_rows:List T -> Option T):FS:=
  (aT (bo 4 (aj d__law_numbers (aa (af 0) (aa (aH bS (aH bS (aH bS (aH aV (af 1) (af 1)) (aH aV (af 1) (af 2))) (aH aV (af 3) (af 1))) (aH aV (af 3) (af 2))) ai))))
  (aT (bo 5 (aj d__law_rows (aa (af 4) (aa (af 1) (aa (af 1) ai)))))
  (aT (bo 4 (uH (af 4) (eE (aH aV (af 1) (af 1))) dy))
  (aT (bo 6 (aj d__law_rows (aa (af 4) (aa (af 1) (aa (af 2) ai)))))
  (aT (bo 4 (uH (af 4) (eE (aH aV (af 1) (af 2))) dy))
  (aT (bo 7 (aj d__law_rows (aa (af 4) (aa (af 3) (aa (af 1) ai)))))
  (bG (dw (aa (af 5) (aa (af 6) (aa (af 7) (aa (aj d__law_rows (aa (uH (af 4) (eE (aH aV (af 3) (af 1))) dy) (aa (af 3) (aa (af 2) ai)))) ai))))))))))))
theorem cW:aL ["_law_cell_here", "_law_many", "_law_ins", "_law_outs", "_law_numbers_here", "_law_move", "_law_push", "_law_look"] ["_law_cell_here", "_law_many", "_law_ins", "_law_outs"] (av jm):=by walk_at "sc"
theorem sY {d__law_numbers:List T -> Option T} {d__law_rows:List T -> Option T} (F:eR K "_law_four" "_law_four" jm f fd) (hb:Binds K fd ["_law_cell_here", "_law_many", "_law_ins", "_law_outs"] []) (hm:mg "_law_four" = some (.ref f)) (D__law_numbers:Def P w K mg base k "_law_numbers" 2 d__law_numbers) (D__law_rows:Def P w K mg base k "_law_rows" 3 d__law_rows) :
  Def P w K mg base (k + 1) "_law_four" 4 (bX 8 4 (gH d__law_numbers d__law_rows)):=
 bC F cW hb hm fun cdv A outer s H E hr=>(aw (aZ 4 cW.nd rfl (Or.inl rfl) (aB D__law_numbers hr rfl (ae (ag 0 (pv 0)) (ae (aK cv (aK cv (aK cv (aK bu (ag 1 (pv 1)) (ag 1 (pv 1))) (aK bu (ag 1 (pv 1)) (ag 2 (pv 2)))) (aK bu (ag 3 (pv 3)) (ag 1 (pv 1)))) (aK bu (ag 3 (pv 3)) (ag 2 (pv 2)))) ak)) (ah (ah ay))))
  (aw (aZ 5 cW.nd rfl (Or.inl rfl) (aB D__law_rows hr rfl (ae (ag 4 (pv 4)) (ae (ag 1 (pv 1)) (ae (ag 1 (pv 1)) ak))) (ah (ah (ah ay)))))
  (aw (aZ 4 cW.nd rfl (Or.inl rfl) (ij (ag 4 (pv 4)) (iJ (aK bu (ag 1 (pv 1)) (ag 1 (pv 1)))) lE))
  (aw (aZ 6 cW.nd rfl (Or.inl rfl) (aB D__law_rows hr rfl (ae (ag 4 (pv 4)) (ae (ag 1 (pv 1)) (ae (ag 2 (pv 2)) ak))) (ah (ah (ah ay)))))
  (aw (aZ 4 cW.nd rfl (Or.inl rfl) (ij (ag 4 (pv 4)) (iJ (aK bu (ag 1 (pv 1)) (ag 2 (pv 2)))) lE))
  (aw (aZ 7 cW.nd rfl (Or.inl rfl) (aB D__law_rows hr rfl (ae (ag 4 (pv 4)) (ae (ag 3 (pv 3)) (ae (ag 1 (pv 1)) ak))) (ah (ah (ah ay)))))
  (aF (aW (hG (ae (ag 5 (pv 5)) (ae (ag 6 (pv 6)) (ae (ag 7 (pv 7)) (ae (aB D__law_rows hr rfl (ae (ij (ag 4 (pv 4)) (iJ (aK bu (ag 3 (pv 3)) (ag 1 (pv 1)))) lE) (ae (ag 3 (pv 3)) (ae (ag 2 (pv 2)) ak))) (ah (ah (ah ay)))) ak)))))))))))))
abbrev jo:Stmt:=top 57
def gJ (d__law_frac:List T -> Option T):FS:=
  (bG (aj d__law_frac (aa (aH bS (aH aV (aH bB (af 0) (fC (.int 0))) (aH bB (af 1) (fC (.int 1)))) (aH aV (aH bB (af 1) (fC (.int 0))) (aH bB (af 0) (fC (.int 1))))) (aa (aH aV (aH bB (af 0) (fC (.int 1))) (aH bB (af 1) (fC (.int 1)))) ai))))
theorem tN:aL ["_law_one", "_law_other"] ["_law_one", "_law_other"] (av jo):=by walk_at "sc"
theorem tf {d__law_frac:List T -> Option T} (F:eR K "_law_plus" "_law_plus" jo f fd) (hb:Binds K fd ["_law_one", "_law_other"] []) (hm:mg "_law_plus" = some (.ref f)) (D__law_frac:Def P w K mg base k "_law_frac" 2 d__law_frac) :
  Def P w K mg base (k + 1) "_law_plus" 2 (bX 2 2 (gJ d__law_frac)):=
 bC F tN hb hm fun cdv A outer s H E hr=>(aF (aW (aB D__law_frac hr rfl (ae (aK cv (aK bu (bh bj (ag 0 (pv 0)) au (fun _ _=>rfl)) (bh bj (ag 1 (pv 1)) au (fun _ _=>rfl))) (aK bu (bh bj (ag 1 (pv 1)) au (fun _ _=>rfl)) (bh bj (ag 0 (pv 0)) au (fun _ _=>rfl)))) (ae (aK bu (bh bj (ag 0 (pv 0)) au (fun _ _=>rfl)) (bh bj (ag 1 (pv 1)) au (fun _ _=>rfl))) ak)) (ah (ah ay)))))
abbrev gz:Stmt:=top 58
def ef (d__law_frac d__law_plus:List T -> Option T):FS:=
  (aT (bo 2 (dU (aa (fC (.int 0)) (aa (fC (.int 1)) ai))))
  (aT (jU (eX (aa (af 0) (aa (af 1) ai))) (cE (aM (ar 3) (aM (ar 4) cz))) (bo 2 (aj d__law_plus (aa (af 2) (aa (aj d__law_frac (aa (aH aV (aH bB (af 3) (fC (.int 0))) (aH bB (af 4) (fC (.int 0)))) (aa (aH aV (aH bB (af 3) (fC (.int 1))) (aH bB (af 4) (fC (.int 1)))) ai))) ai)))))
  (bG (af 2))))
theorem da:aL ["_law_row", "_law_other", "_law_total", "_law_here", "_law_there"] ["_law_row", "_law_other"] (av gz):=by walk_at "sc"
theorem mZ {d__law_frac:List T -> Option T} {d__law_plus:List T -> Option T} (F:eR K "_law_weighed" "_law_weighed" gz f fd) (hb:Binds K fd ["_law_row", "_law_other"] []) (hm:mg "_law_weighed" = some (.ref f)) (D__law_frac:Def P w K mg base k "_law_frac" 2 d__law_frac) (D__law_plus:Def P w K mg base k "_law_plus" 2 d__law_plus) (m_zip:mg "zip" = none) :
  Def P w K mg base (k + 1) "_law_weighed" 2 (bX 5 2 (ef d__law_frac d__law_plus)):=
 bC F da hb hm fun cdv A outer s H E hr=>(aw (aZ 2 da.nd rfl (Or.inl rfl) (eM (ae au (ae au ak))))
  (aw (mD PassesOwn.never rfl (mr rfl m_zip (ae (ag 0 (pv 0)) (ae (ag 1 (pv 1)) ak))) (eN rfl (aS (aJ 3 da.nd rfl (Or.inl rfl)) (aS (aJ 4 da.nd rfl (Or.inl rfl)) di)) (aY (aY eJ))) (aF (aZ 2 da.nd rfl (Or.inl rfl) (aB D__law_plus hr rfl (ae (ag 2 (pv 2)) (ae (aB D__law_frac hr rfl (ae (aK bu (bh bj (ag 3 (pv 3)) au (fun _ _=>rfl)) (bh bj (ag 4 (pv 4)) au (fun _ _=>rfl))) (ae (aK bu (bh bj (ag 3 (pv 3)) au (fun _ _=>rfl)) (bh bj (ag 4 (pv 4)) au (fun _ _=>rfl))) ak)) (ah (ah ay))) ak)) (ah (ah ay))))))
  (aF (aW (ag 2 (pv 2))))))
theorem pX:(["_law_line", "_law_row"]:List Str).Nodup:=by decide +kernel
abbrev kh:Stmt:=top 59
def iu (d__law_weighed:List T -> Option T):FS:=
  (bG (cq 1 [1] (bf (af 0)) (ar 0) aD (aj d__law_weighed (aa (af 0) (aa (af 1) ai)))))
theorem vM:aL ["_law_table", "_law_row"] ["_law_table", "_law_row"] (av kh):=by walk_at "sc"
theorem vy {d__law_weighed:List T -> Option T} (F:eR K "_law_led" "_law_led" kh f fd) (hb:Binds K fd ["_law_table", "_law_row"] []) (hm:mg "_law_led" = some (.ref f)) (D__law_weighed:Def P w K mg base k "_law_weighed" 2 d__law_weighed) :
  Def P w K mg base (k + 1) "_law_led" 2 (bX 2 2 (iu d__law_weighed)):=
 bC F vM hb hm fun cdv A outer s H E hr=>(aF (aW (cg (N':=["_law_line", "_law_row"]) (no:=1) (cap:=[1]) rfl rfl (aQ rfl) rfl (bP rfl) (cM (ag 0 (pv 0))) (fun _ _ _ _ _ _=>(aJ 0 pX rfl (Or.inl rfl))) (fun _ _ _ _ _ _=>bF) (fun _ _ _ _ _ _=>(aB D__law_weighed hr rfl (ae (ag 0 (pv 0)) (ae (ag 1 (pv 1)) ak)) (ah (ah ay)))))))
theorem iP:(["_law_here", "_law_there"]:List Str).Nodup:=by decide +kernel
abbrev iG:Stmt:=top 60
def fX (d__law_plus:List T -> Option T):FS:=
  (bG (cq 2 [] (eX (aa (af 0) (aa (af 1) ai))) (cE (aM (ar 0) (aM (ar 1) cz))) aD (aj d__law_plus (aa (af 0) (aa (af 1) ai)))))
theorem qb:aL ["_law_one", "_law_other"] ["_law_one", "_law_other"] (av iG):=by walk_at "sc"
theorem pZ {d__law_plus:List T -> Option T} (F:eR K "_law_added" "_law_added" iG f fd) (hb:Binds K fd ["_law_one", "_law_other"] []) (hm:mg "_law_added" = some (.ref f)) (D__law_plus:Def P w K mg base k "_law_plus" 2 d__law_plus) (m_zip:mg "zip" = none) :
  Def P w K mg base (k + 1) "_law_added" 2 (bX 2 2 (fX d__law_plus)):=
 bC F qb hb hm fun cdv A outer s H E hr=>(aF (aW (cg (N':=["_law_here", "_law_there"]) (no:=2) (cap:=[]) rfl rfl (aQ rfl) rfl (bP rfl) (mr rfl m_zip (ae (ag 0 (pv 0)) (ae (ag 1 (pv 1)) ak))) (fun _ _ _ _ _ _=>(eN rfl (aS (aJ 0 iP rfl (Or.inl rfl)) (aS (aJ 1 iP rfl (Or.inl rfl)) di)) (aY (aY eJ)))) (fun _ _ _ _ _ _=>bF) (fun _ _ _ _ _ _=>(aB D__law_plus hr rfl (ae (ag 0 (pv 0)) (ae (ag 1 (pv 1)) ak)) (ah (ah ay)))))))
abbrev jr:Stmt:=top 61
def gL (c_EchoError c_NoTable c_NoFit:Addr) (d_kept_run:List T -> Option T) (dx_kept_run:List T -> Option Addr):FS:=
  (aT (bo 3 (fC (.str "told")))
  (aT (Bm 4 [c_NoTable,c_NoFit] (kz (aj d_kept_run (aa (af 0) (aa (af 1) (aa (af 2) ai)))))
  (oj dx_kept_run (aa (af 0) (aa (af 1) (aa (af 2) ai))))
  (bo 3 (aH bS (aH bB (dw (aa (fC (.str "")) (aa (fC (.str "table")) ai))) (aj pO (aa (kB [(c_NoTable,true),(c_NoFit,false)] (af 4)) ai))) (aH bB (dw (aa (fC (.str "")) (aa (fC (.str "fit")) ai))) (aj pO (aa (kB [(c_NoTable,false),(c_NoFit,true)] (af 4)) ai))))))
  (bG (af 3))))
theorem gc:aL ["_law_system", "_law_back", "_law_start", "_law_word_here", "e"] ["_law_system", "_law_back", "_law_start"] (av jr):=by walk_at "sc"
theorem tm {c_EchoError c_NoTable c_NoFit:Addr} {d_kept_run:List T -> Option T} {dx_kept_run:List T -> Option Addr} (F:eR K "_law_word" "_law_word" jr f fd) (hb:Binds K fd ["_law_system", "_law_back", "_law_start"] []) (hm:mg "_law_word" = some (.ref f)) (D_kept_run:Def P w K mg base k "kept_run" 3 d_kept_run) (DX_kept_run:nR P w K mg base k "kept_run" 3 dx_kept_run) (cx_EchoError:iS K c_EchoError vE) (hE_EchoError:∀ C ∈ [c_NoTable,c_NoFit],∃ up,nS K C up /\ (c_EchoError=C \/ c_EchoError ∈ up)) (hix_NoTable:∀ a ∈ [(c_NoTable,true),(c_NoFit,false)],zJ K c_NoTable a.1 a.2) (hix_NoFit:∀ a ∈ [(c_NoTable,false),(c_NoFit,true)],zJ K c_NoFit a.1 a.2) (mc_EchoError:mg "EchoError" = some (.ref c_EchoError)) (mc_NoFit:mg "NoFit" = some (.ref c_NoFit)) (mc_NoTable:mg "NoTable" = some (.ref c_NoTable)) (m_isinstance:mg "isinstance" = none) (m_int:mg "int" = none) :
  Def P w K mg base (k + 1) "_law_word" 3 (bX 5 3 (gL c_EchoError c_NoTable c_NoFit d_kept_run dx_kept_run)):=
 bC F gc hb hm fun cdv A outer s H E hr=>(aw (aZ 3 gc.nd rfl (Or.inl rfl) hJ)
  (aw (Hz (iE:=4) (tbl:=[c_NoTable,c_NoFit]) (fun _ _ z=>z) rfl rfl gc.nd rfl rfl rfl rfl mc_EchoError cx_EchoError (by decide +kernel) hE_EchoError
  (aF (zv (aB D_kept_run hr rfl (ae (ag 0 (pv 0)) (ae (ag 1 (pv 1)) (ae (ag 2 (pv 2)) ak))) (ah (ah (ah ay))))))
  (ip (zA (zy (fun _ _ z=>z) DX_kept_run hr rfl (ae (ag 0 (pv 0)) (ae (ag 1 (pv 1)) (ae (ag 2 (pv 2)) ak))) (ah (ah (ah ay))))))
  (fun _=>(aF (aZ 3 gc.nd rfl (Or.inl rfl) (aK cv (bh bj (hG (ae hJ (ae hJ ak))) (cw A0 rfl m_int rfl (ae (zj hix_NoTable rfl m_isinstance rfl mc_NoTable (ag 4 (pv 4))) ak)) (fun _ _=>rfl)) (bh bj (hG (ae hJ (ae hJ ak))) (cw A0 rfl m_int rfl (ae (zj hix_NoFit rfl m_isinstance rfl mc_NoFit (ag 4 (pv 4))) ak)) (fun _ _=>rfl)))))))
  (aF (aW (ag 3 (pv 3))))))
abbrev gX:Stmt:=top 62
def fA (d__law_led d__law_added:List T -> Option T):FS:=
  (aT (cR 3 (aa (af 2) ai))
  (aT (jU (eH (aa (aj cm (aa (af 2) ai)) ai)) (ar 4) (aT (bo 5 (jV 3 (mT kI (fC (.int 1)))))
  (aT (bo 6 (aj d__law_led (aa (aH bB (af 0) (fC (.int 1))) (aa (aj d__law_led (aa (af 1) (aa (af 5) ai))) ai))))
  (mS 3 (aj d__law_added (aa (aj d__law_led (aa (aH bB (af 0) (fC (.int 0))) (aa (af 5) ai))) (aa (af 6) ai)))))))
  (bG (af 3))))
theorem du:aL ["_law_four_here", "_law_back", "_law_start", "_law_found", "_law_turn", "_law_state", "_law_pushed"] ["_law_four_here", "_law_back", "_law_start"] (av gX):=by walk_at "sc"
theorem oK {d__law_led:List T -> Option T} {d__law_added:List T -> Option T} (F:eR K "_law_states" "_law_states" gX f fd) (hb:Binds K fd ["_law_four_here", "_law_back", "_law_start"] []) (hm:mg "_law_states" = some (.ref f)) (D__law_led:Def P w K mg base k "_law_led" 2 d__law_led) (D__law_added:Def P w K mg base k "_law_added" 2 d__law_added) (m_range:mg "range" = none) (m_len:mg "len" = none) :
  Def P w K mg base (k + 1) "_law_states" 3 (bX 7 3 (fA d__law_led d__law_added)):=
 bC F du hb hm fun cdv A outer s H E hr=>(aw (il 3 du.nd rfl (Or.inl rfl) (ae (ag 2 (pv 2)) ak))
  (aw (mD PassesOwn.never rfl (lB rfl m_range (ae (aU dJ rfl m_len PySem.boot_len (ae (ag 2 (pv 2)) ak)) ak)) (aJ 4 du.nd rfl (Or.inl rfl)) (aw (aZ 5 du.nd rfl (Or.inl rfl) (CA 3 (pv 3) (zk uc au) (fun _ _=>rfl)))
  (aw (aZ 6 du.nd rfl (Or.inl rfl) (aB D__law_led hr rfl (ae (bh bj (ag 0 (pv 0)) au (fun _ _=>rfl)) (ae (aB D__law_led hr rfl (ae (ag 1 (pv 1)) (ae (ag 5 (pv 5)) ak)) (ah (ah ay))) ak)) (ah (ah ay))))
  (aF (mC 3 (pv 3) (aB D__law_added hr rfl (ae (aB D__law_led hr rfl (ae (bh bj (ag 0 (pv 0)) au (fun _ _=>rfl)) (ae (ag 5 (pv 5)) ak)) (ah (ah ay))) (ae (ag 6 (pv 6)) ak)) (ah (ah ay))))))))
  (aF (aW (ag 3 (pv 3))))))
theorem kN:(["_law_row"]:List Str).Nodup:=by decide +kernel
theorem kP:(["_law_row"]:List Str).Nodup:=by decide +kernel
abbrev gy:Stmt:=top 63
def ee (d__law_mixed d__law_word:List T -> Option T):FS:=
  (aT (cR 4 (aa (fC .non) (aa (aj dt (aa (af 1) ai)) (aa (aH bS (af 1) (dw (aa (af 2) ai))) (aa (cq 1 [] (bf (af 1)) (ar 0) aD (aH bS (af 0) (dw (aa (dU (aa (fC (.int 1)) (aa (fC (.int 1)) ai))) ai)))) (aa (cq 1 [] (bf (af 1)) (ar 0) aD (aj dt (aa (af 0) ai))) ai))))))
  (aT (cR 5 (aa (fC .non) (aa (aj dt (aa (af 2) ai)) (aa (aH bS (af 2) (dw (aa (dU (aa (fC (.int 0)) (aa (fC (.int 1)) ai))) ai))) (aa (aH bS (uH (af 2) (eE (fC (.int 1))) dy) (dw (aa (dU (aa (fC (.int 2)) (aa (fC (.int 4)) ai))) ai))) (aa (aH bS (uH (af 2) (eE (fC (.int 1))) dy) (dw (aa (fC (.int 0)) ai))) ai))))))
  (aT (bo 6 (aH bB (af 4) (aH cu (aj d__law_mixed (aa (af 3) (aa (fC (.int 70)) ai))) (fC (.int 5)))))
  (aT (bo 7 (aH bB (af 5) (aH cu (aj d__law_mixed (aa (af 3) (aa (fC (.int 71)) ai))) (fC (.int 5)))))
  (aT (cn (lT (eG (aH lW (aj d__law_word (aa (af 0) (aa (af 6) (aa (af 2) ai)))) (fC (.str "table")))) (eG (aH lW (aj d__law_word (aa (af 0) (aa (af 6) (aa (af 7) ai)))) (fC (.str "table"))))) (bG (fC (.bl false))) bQ)
  (bG (aH kH (aj d__law_word (aa (af 0) (aa (af 1) (aa (af 7) ai)))) (fC (.str "fit")))))))))
theorem cZ:aL ["_law_system", "_law_back", "_law_start", "_law_cell_here", "_law_bad_backs", "_law_bad_starts", "_law_bad", "_law_other"] ["_law_system", "_law_back", "_law_start", "_law_cell_here"] (av gy):=by walk_at "sc"
theorem mY {d__law_mixed:List T -> Option T} {d__law_word:List T -> Option T} (F:eR K "_law_refused" "_law_refused" gy f fd) (hb:Binds K fd ["_law_system", "_law_back", "_law_start", "_law_cell_here"] []) (hm:mg "_law_refused" = some (.ref f)) (D__law_mixed:Def P w K mg base k "_law_mixed" 2 d__law_mixed) (D__law_word:Def P w K mg base k "_law_word" 3 d__law_word) (m_tuple:mg "tuple" = none) :
  Def P w K mg base (k + 1) "_law_refused" 4 (bX 8 4 (ee d__law_mixed d__law_word)):=
 bC F cZ hb hm fun cdv A outer s H E hr=>(aw (il 4 cZ.nd rfl (Or.inl rfl) (ae CC (ae (cw gq rfl m_tuple rfl (ae (ag 1 (pv 1)) ak)) (ae (aK cv (ag 1 (pv 1)) (hG (ae (ag 2 (pv 2)) ak))) (ae (cg (N':=["_law_row"]) (no:=1) (cap:=[]) rfl rfl (aQ rfl) rfl (bP rfl) (cM (ag 1 (pv 1))) (fun _ _ _ _ _ _=>(aJ 0 kN rfl (Or.inl rfl))) (fun _ _ _ _ _ _=>bF) (fun _ _ _ _ _ _=>(aK cv (ag 0 (pv 0)) (hG (ae (eM (ae au (ae au ak))) ak))))) (ae (cg (N':=["_law_row"]) (no:=1) (cap:=[]) rfl rfl (aQ rfl) rfl (bP rfl) (cM (ag 1 (pv 1))) (fun _ _ _ _ _ _=>(aJ 0 kP rfl (Or.inl rfl))) (fun _ _ _ _ _ _=>bF) (fun _ _ _ _ _ _=>(cw gq rfl m_tuple rfl (ae (ag 0 (pv 0)) ak)))) ak))))))
  (aw (il 5 cZ.nd rfl (Or.inl rfl) (ae CC (ae (cw gq rfl m_tuple rfl (ae (ag 2 (pv 2)) ak)) (ae (aK cv (ag 2 (pv 2)) (hG (ae (eM (ae au (ae au ak))) ak))) (ae (aK cv (ij (ag 2 (pv 2)) (iJ au) lE) (hG (ae (eM (ae au (ae au ak))) ak))) (ae (aK cv (ij (ag 2 (pv 2)) (iJ au) lE) (hG (ae au ak))) ak))))))
  (aw (aZ 6 cZ.nd rfl (Or.inl rfl) (bh bj (ag 4 (pv 4)) (aK dh (aB D__law_mixed hr rfl (ae (ag 3 (pv 3)) (ae au ak)) (ah (ah ay))) au) (fun _ _=>rfl)))
  (aw (aZ 7 cZ.nd rfl (Or.inl rfl) (bh bj (ag 5 (pv 5)) (aK dh (aB D__law_mixed hr rfl (ae (ag 3 (pv 3)) (ae au ak)) (ah (ah ay))) au) (fun _ _=>rfl)))
  (aw (eP (SW.st (lF (cN (kU hr.units) (aB D__law_word hr rfl (ae (ag 0 (pv 0)) (ae (ag 6 (pv 6)) (ae (ag 2 (pv 2)) ak))) (ah (ah (ah ay)))) hJ (bU _)) (mE (cN (kU hr.units) (aB D__law_word hr rfl (ae (ag 0 (pv 0)) (ae (ag 6 (pv 6)) (ae (ag 7 (pv 7)) ak))) (ah (ah (ah ay)))) hJ (bU _))))) (aF (aW mM)) cj)
  (aF (aW (oY (oN hr.units) (aB D__law_word hr rfl (ae (ag 0 (pv 0)) (ae (ag 1 (pv 1)) (ae (ag 7 (pv 7)) ak))) (ah (ah (ah ay)))) hJ (bU _)))))))))
end
open PySem PySem.Spec PyProof.Rows L2 TM
theorem B4:(["_law_row"]:List Str).Nodup:=by decide +kernel
abbrev qF:Stmt:=top 64
def uu (c_System:Addr) (d__law_cell d__law_four d__law_numbers d__law_rows d__law_states d_kept_run d__law_refused:List T -> Option T) (dO_kept_run:List T -> Option O) (dI_System:List T -> Option wb):FS:=
  (aT (bo 1 (aj d__law_cell (aa (af 0) (aa (fC (.int 0)) ai))))
  (aT (cR 2 (aa (aH cu (af 1) (fC (.int 4))) (aa (aH bS (fC (.int 1)) (aH cu (aH cS (af 1) (fC (.int 4))) (fC (.int 2)))) (aa (aH bS (fC (.int 1)) (aH cu (aH cS (af 1) (fC (.int 8))) (fC (.int 2)))) ai))))
  (aT (bo 3 (aj d__law_four (aa (aj d__law_cell (aa (af 0) (aa (fC (.int 1)) ai))) (aa (aH bB (af 2) (fC (.int 0))) (aa (aH bB (af 2) (fC (.int 1))) (aa (aH bB (af 2) (fC (.int 2))) ai))))))
  (aT (bo 4 (aj d__law_rows (aa (aj d__law_numbers (aa (aj d__law_cell (aa (af 0) (aa (fC (.int 2)) ai))) (aa (aH aV (aH bB (af 2) (fC (.int 1))) (aH bB (af 2) (fC (.int 0)))) ai))) (aa (aH bB (af 2) (fC (.int 1))) (aa (aH bB (af 2) (fC (.int 0))) ai)))))
  (aT (bo 5 (uF c_System dI_System (aa (aH bB (af 3) (fC (.int 0))) (aa (aH bB (af 3) (fC (.int 1))) (aa (aH bB (af 3) (fC (.int 2))) (aa (aH bB (af 3) (fC (.int 3))) ai))))))
  (aT (jU (rD (aa (fC (.int 3)) (aa (aj uB (aa (fC (.int 4)) (aa (aj rm (aa (aj cm (aa (af 0) ai)) (aa (fC (.int 9)) ai))) ai))) ai))) (ar 6) (aT (bo 7 (aj d__law_numbers (aa (aj d__law_cell (aa (af 0) (aa (af 6) ai))) (aa (aH bB (af 2) (fC (.int 0))) ai))))
  (aT (bo 8 (aj d__law_states (aa (af 3) (aa (af 4) (aa (af 7) ai)))))
  (aT (fH 9 1 [] (bf (af 4)) (ar 0) aD (aj dList (aa (af 0) ai)))
  (aT (bo 10 (aj dList (aa (af 7) ai)))
  (aT (kA 11 (fO dO_kept_run (aa (af 5) (aa (af 9) (aa (af 10) ai)))) (lT (cH (dk (aj bp (aa (af 11) (aa (fC (.ty "list")) ai))))) (lT (eG (aH lW (af 11) (af 8))) (lT (eG (aH lW (af 9) (af 4))) (eG (aH lW (af 10) (af 7)))))))
  (aT (cn (lT (eG (aH lW (af 10) (af 7))) (eG (aH lW (aj d_kept_run (aa (af 5) (aa (af 4) (aa (af 7) ai)))) (af 8)))) (bG (fC (.bl false))) bQ)
  (cn (cH (dk (aj d__law_refused (aa (af 5) (aa (af 4) (aa (af 7) (aa (aj d__law_cell (aa (af 0) (aa (af 6) ai))) ai))))))) (bG (fC (.bl false))) bQ))))))))
  (bG (fC (.bl true)))))))))
theorem fR:aL ["_law_script", "_law_cell_here", "_law_shape", "_law_four_here", "_law_back", "_law_system", "_law_k", "_law_start", "_law_due", "_law_handed", "_law_begun", "_law_found"] ["_law_script"] (av qF):=by walk_at "sc"
theorem Gu {P:Program} {w:World} {K:PySem.W.Frag} {mg:Str -> Option Value} {base:Heap} {k:Nat} {f:Addr} {fd:FuncData} {c_System:Addr} {d__law_cell:List T -> Option T} {d__law_four:List T -> Option T} {d__law_numbers:List T -> Option T} {d__law_rows:List T -> Option T} {d__law_states:List T -> Option T} {d_kept_run:List T -> Option T} {d__law_refused:List T -> Option T} {dO_kept_run:List T -> Option O} {dI_System:List T -> Option wb} (F:eR K "law" "law" qF f fd) (D__law_cell:Def P w K mg base k "_law_cell" 2 d__law_cell) (D__law_four:Def P w K mg base k "_law_four" 4 d__law_four) (D__law_numbers:Def P w K mg base k "_law_numbers" 2 d__law_numbers) (D__law_rows:Def P w K mg base k "_law_rows" 3 d__law_rows) (D__law_states:Def P w K mg base k "_law_states" 3 d__law_states) (D_kept_run:Def P w K mg base k "kept_run" 3 d_kept_run) (D__law_refused:Def P w K mg base k "_law_refused" 4 d__law_refused) (DO_kept_run:hW P w K mg base k "kept_run" 3 dO_kept_run) (DI_System:nT P w K mg base k "System" c_System 4 dI_System) (m_range:mg "range" = none) (m_len:mg "len" = none) (m_min:mg "min" = none) (m_max:mg "max" = none) (m_list:mg "list" = none) (m_isinstance:mg "isinstance" = none) :
  eU P w K mg base nN (k + 1) f fd ["_law_script"] (spT K 1 (bX 12 1 (uu c_System d__law_cell d__law_four d__law_numbers d__law_rows d__law_states d_kept_run d__law_refused dO_kept_run dI_System))):=
 Dx F fR fun cdv A outer s H E hr=>(aw (aZ 1 fR.nd rfl (Or.inl rfl) (aB D__law_cell hr rfl (ae (ag 0 (pv 0)) (ae au ak)) (ah (ah ay))))
  (aw (il 2 fR.nd rfl (Or.inl rfl) (ae (aK dh (ag 1 (pv 1)) au) (ae (aK cv au (aK dh (aK bZ (ag 1 (pv 1)) au) au)) (ae (aK cv au (aK dh (aK bZ (ag 1 (pv 1)) au) au)) ak))))
  (aw (aZ 3 fR.nd rfl (Or.inl rfl) (aB D__law_four hr rfl (ae (aB D__law_cell hr rfl (ae (ag 0 (pv 0)) (ae au ak)) (ah (ah ay))) (ae (bh bj (ag 2 (pv 2)) au (fun _ _=>rfl)) (ae (bh bj (ag 2 (pv 2)) au (fun _ _=>rfl)) (ae (bh bj (ag 2 (pv 2)) au (fun _ _=>rfl)) ak)))) (ah (ah (ah (ah ay))))))
  (aw (aZ 4 fR.nd rfl (Or.inl rfl) (aB D__law_rows hr rfl (ae (aB D__law_numbers hr rfl (ae (aB D__law_cell hr rfl (ae (ag 0 (pv 0)) (ae au ak)) (ah (ah ay))) (ae (aK bu (bh bj (ag 2 (pv 2)) au (fun _ _=>rfl)) (bh bj (ag 2 (pv 2)) au (fun _ _=>rfl))) ak)) (ah (ah ay))) (ae (bh bj (ag 2 (pv 2)) au (fun _ _=>rfl)) (ae (bh bj (ag 2 (pv 2)) au (fun _ _=>rfl)) ak))) (ah (ah (ah ay)))))
  (aw (aZ 5 fR.nd rfl (Or.inl rfl) (Ex DI_System hr rfl (ae (bh bj (ag 3 (pv 3)) au (fun _ _=>rfl)) (ae (bh bj (ag 3 (pv 3)) au (fun _ _=>rfl)) (ae (bh bj (ag 3 (pv 3)) au (fun _ _=>rfl)) (ae (bh bj (ag 3 (pv 3)) au (fun _ _=>rfl)) ak)))) (ah (ah (ah (ah ay))))))
  (aw (mD PassesOwn.never rfl (EB rfl m_range (ae au (ae (aU (Gb rfl) rfl m_max rfl (ae au (ae (aU (Ge rfl) rfl m_min rfl (ae (aU dJ rfl m_len PySem.boot_len (ae (ag 0 (pv 0)) ak)) (ae au ak))) ak))) ak))) (aJ 6 fR.nd rfl (Or.inl rfl)) (aw (aZ 7 fR.nd rfl (Or.inl rfl) (aB D__law_numbers hr rfl (ae (aB D__law_cell hr rfl (ae (ag 0 (pv 0)) (ae (ag 6 (pv 6)) ak)) (ah (ah ay))) (ae (bh bj (ag 2 (pv 2)) au (fun _ _=>rfl)) ak)) (ah (ah ay))))
  (aw (aZ 8 fR.nd rfl (Or.inl rfl) (aB D__law_states hr rfl (ae (ag 3 (pv 3)) (ae (ag 4 (pv 4)) (ae (ag 7 (pv 7)) ak))) (ah (ah (ah ay)))))
  (aw (pq fR.nd rfl rfl (N':=["_law_row"]) (no:=1) (cap:=[]) rfl rfl (aQ rfl) rfl (bP rfl) (cM (ag 4 (pv 4))) (fun _ _ _ _ _ _=>(aJ 0 B4 rfl (Or.inl rfl))) (fun _ _ _ _ _ _=>bF) (fun _ _ _ _ _ _=>(cw rj rfl m_list rfl (ae (ag 0 (pv 0)) ak))))
  (aw (aZ 10 fR.nd rfl (Or.inl rfl) (cw rj rfl m_list rfl (ae (ag 7 (pv 7)) ak)))
  (vS (x:=11) fR.nd rfl (Or.inl rfl) (vQ DO_kept_run hr rfl (ae (ag 5 (pv 5)) (ae (ag 9 (pv 9)) (ae (ag 10 (pv 10)) ak))) (ah (ah (ah ay)))) (SW.st (lF (eQ (fS (aU iA rfl m_isinstance rfl (ae (ag 11 (pv 11)) (ae (lu rfl m_list rfl) ak))))) (lF (cN (kU hr.units) (ag 11 (pv 11)) (ag 8 (pv 8)) (bU _)) (lF (cN (kU hr.units) (ag 9 (pv 9)) (ag 4 (pv 4)) (bU _)) (mE (cN (kU hr.units) (ag 10 (pv 10)) (ag 7 (pv 7)) (bU _))))))) (aF (aW mM))
  (aw (eP (SW.st (lF (cN (kU hr.units) (ag 10 (pv 10)) (ag 7 (pv 7)) (bU _)) (mE (cN (kU hr.units) (aB D_kept_run hr rfl (ae (ag 5 (pv 5)) (ae (ag 4 (pv 4)) (ae (ag 7 (pv 7)) ak))) (ah (ah (ah ay)))) (ag 8 (pv 8)) (bU _))))) (aF (aW mM)) cj)
  (aF (eP (eQ (fS (aB D__law_refused hr rfl (ae (ag 5 (pv 5)) (ae (ag 4 (pv 4)) (ae (ag 7 (pv 7)) (ae (aB D__law_cell hr rfl (ae (ag 0 (pv 0)) (ae (ag 6 (pv 6)) ak)) (ah (ah ay))) ak)))) (ah (ah (ah (ah ay))))))) (aF (aW mM)) cj))) (pv 11)))))))
  (aF (aW mM))))))))
end My
namespace Qm
abbrev hV (a b:Int):Prop:=Int.gcd a b=1
theorem rg {a b:Int} (h:Nat.Coprime a.natAbs b.natAbs):hV a b:=h
theorem hV.symm {a b:Int} (h:hV a b):hV b a:=by unfold hV; rw [Int.gcd_comm]; exact h
theorem hV.mulL {a b c:Int} (h:hV a c) (h':hV b c):hV (a * b) c:=rg (by rw [Int.natAbs_mul]; exact Nat.Coprime.mul_left h h')
theorem hV.mulR {a b c:Int} (h:hV c a) (h':hV c b):hV c (a * b):=rg (by rw [Int.natAbs_mul]; exact Nat.Coprime.mul_right h h')
theorem hV.dvdL {a b c:Int} (h:hV b c) (d:a ∣ b):hV a c:=rg (Nat.Coprime.coprime_dvd_left (Int.natAbs_dvd_natAbs.mpr d) h)
theorem hV.dvdR {a b c:Int} (h:hV c b) (d:a ∣ b):hV c a:=rg (Nat.Coprime.coprime_dvd_right (Int.natAbs_dvd_natAbs.mpr d) h)
theorem hV.addL {a b c:Int} (h:hV a c):hV (a + b * c) c:=by unfold hV; rw [Int.gcd_add_mul_right_left]; exact h
theorem split {a b:Int} (h:b ≠ 0):∃ x y:Int,a=(Int.gcd a b:Int) * x /\ b=(Int.gcd a b:Int) * y /\ hV x y /\ (Int.gcd a b:Int) ≠ 0:=by
 have hg:(Int.gcd a b:Int) ≠ 0:=by
  intro z
  have:Int.gcd a b=0:=by omega
  rw [Int.gcd_eq_zero_iff] at this
  exact h this.2
 obtain ⟨x,hx⟩:=Int.gcd_dvd_left a b
 obtain ⟨y,hy⟩:=Int.gcd_dvd_right a b
 refine ⟨x,y,hx,hy,?_,hg⟩
 have e:Int.gcd a b=Int.gcd a b * Int.gcd x y:=by
  have:=Int.gcd_mul_left (Int.gcd a b:Int) x y
  rw [<- hx,<- hy] at this
  simpa using this
 have hp:0 < Int.gcd a b:=by omega
 have:=Nat.eq_of_mul_eq_mul_left hp (show Int.gcd a b * Int.gcd x y=Int.gcd a b * 1 by omega)
 exact this
theorem dG {a g x:Int} (h:a=g * x) (hg:g ≠ 0):a.fdiv g=x:=by rw [h]; exact Int.mul_fdiv_cancel_left x hg
theorem Hj {a b c d:Int} (hb:0 < b) (hd:0 < d) (h1:hV a b) (h2:hV c d) (s top low:Int) (es:s=Int.gcd b d) (et:top=a * d.fdiv s + c * b.fdiv s) (el:low=Int.gcd top s) :
  top.fdiv low=(a * d + c * b).fdiv (Int.gcd (a * d + c * b) (b * d)) /\ b.fdiv s * d.fdiv low=(b * d).fdiv (Int.gcd (a * d + c * b) (b * d)) /\ s ≠ 0 /\ low ≠ 0:=by
 obtain ⟨x,y,hx,hy,hc,hs⟩:=split (a:=b) (b:=d) (by omega)
 rw [<- es] at hx hy hs
 have ex:b.fdiv s=x:=dG hx hs
 have ey:d.fdiv s=y:=dG hy hs
 rw [ex,ey] at et
 have cx:hV top x:=by
  have q1:hV (a * y) x:=hV.mulL (h1.dvdR ⟨s,by rw [hx,Int.mul_comm]⟩) hc.symm
  have q2:=q1.addL (b:=c)
  rw [<- et] at q2
  exact q2
 have cy:hV top y:=by
  have q1:hV (c * x) y:=hV.mulL (h2.dvdR ⟨s,by rw [hy,Int.mul_comm]⟩) hc
  have q2:=q1.addL (b:=a)
  rw [Int.add_comm,<- et] at q2
  exact q2
 obtain ⟨u,v,hu,hv,_,hl⟩:=split (a:=top) (b:=s) hs
 rw [<- el] at hu hv hl
 have e1:a * d + c * b=s * top:=by
  rw [et]
  calc a * d + c * b=a * (s * y) + c * (s * x):=by rw [<- hx,<- hy]
   _=s * (a * y + c * x):=by rw [Int.mul_add,Int.mul_left_comm,Int.mul_left_comm c]
 have e2:b * d=s * (x * (y * s)):=by
  calc b * d=(s * x) * (s * y):=by rw [<- hx,<- hy]
   _=s * (x * (y * s)):=by rw [Int.mul_assoc,Int.mul_comm y s]
 have sp:0 ≤ s:=by rw [es]; omega
 have lp:0 ≤ low:=by rw [el]; omega
 have eg:((Int.gcd (a * d + c * b) (b * d):Nat):Int)=s * low:=by
  rw [e1,e2,Int.gcd_mul_left]
  have k1:Int.gcd top (x * (y * s))=Int.gcd top s:=by
   show Nat.gcd top.natAbs (x * (y * s)).natAbs=Nat.gcd top.natAbs s.natAbs
   rw [Int.natAbs_mul,Int.natAbs_mul,Nat.Coprime.gcd_mul_left_cancel_right _ (Nat.Coprime.symm cx),Nat.Coprime.gcd_mul_left_cancel_right _ (Nat.Coprime.symm cy)]
  rw [k1,el]
  push_cast
  rw [Int.natAbs_of_nonneg sp]
 have hsl:s * low ≠ 0:=Int.mul_ne_zero hs hl
 have tl:top.fdiv low=u:=dG hu hl
 have dl:d.fdiv low=v * y:=dG (by rw [hy,hv,Int.mul_assoc]) hl
 refine ⟨?_,?_,hs,hl⟩
 ·rw [eg,tl,e1]
  exact (dG (by rw [Int.mul_assoc,<- hu]) hsl).symm
 ·rw [eg,ex,dl,e2]
  refine (dG ?_ hsl).symm
  calc s * (x * (y * s))=s * (x * (y * (low * v))):=by rw [<- hv]
   _=s * low * (x * (v * y)):=by
    rw [Int.mul_assoc s low]
    congr 1
    rw [Int.mul_left_comm y low v,Int.mul_left_comm x low,Int.mul_comm y v]
theorem EO {a b c d:Int} (hb:0 < b) (hd:0 < d) (h1:hV a b) (h2:hV c d) (l r:Int) (el:l=Int.gcd a d) (er:r=Int.gcd c b) :
  a.fdiv l * c.fdiv r=(a * c).fdiv (Int.gcd (a * c) (b * d)) /\ b.fdiv r * d.fdiv l=(b * d).fdiv (Int.gcd (a * c) (b * d)) /\ l ≠ 0 /\ r ≠ 0:=by
 obtain ⟨a',d',ha,hd',c1,hl⟩:=split (a:=a) (b:=d) (by omega)
 obtain ⟨c',b',hc,hb',c2,hr⟩:=split (a:=c) (b:=b) (by omega)
 rw [<- el] at ha hd' hl
 rw [<- er] at hc hb' hr
 have k:hV (a' * c') (b' * d'):=by
  have ab:hV a' b':=(h1.dvdL ⟨l,by rw [Int.mul_comm]; exact ha⟩).dvdR ⟨r,by rw [Int.mul_comm]; exact hb'⟩
  have cd:hV c' d':=(h2.dvdL ⟨r,by rw [Int.mul_comm]; exact hc⟩).dvdR ⟨l,by rw [Int.mul_comm]; exact hd'⟩
  exact hV.mulR (hV.mulL ab c2) (hV.mulL c1 cd)
 have e1:a * c=l * r * (a' * c'):=by
  calc a * c=(l * a') * (r * c'):=by rw [<- ha,<- hc]
   _=l * r * (a' * c'):=by rw [Int.mul_assoc,Int.mul_left_comm a' r c',Int.mul_assoc]
 have e2:b * d=l * r * (b' * d'):=by
  calc b * d=(r * b') * (l * d'):=by rw [<- hb',<- hd']
   _=l * r * (b' * d'):=by rw [Int.mul_assoc,Int.mul_left_comm b' l d',<- Int.mul_assoc,Int.mul_comm r l]
 have lp:0 ≤ l:=by rw [el]; omega
 have rp:0 ≤ r:=by rw [er]; omega
 have eg:((Int.gcd (a * c) (b * d):Nat):Int)=l * r:=by
  rw [e1,e2,Int.gcd_mul_left,k]
  push_cast
  rw [Int.mul_one,Int.natAbs_of_nonneg (Int.mul_nonneg lp rp)]
 have hlr:l * r ≠ 0:=Int.mul_ne_zero hl hr
 refine ⟨?_,?_,hl,hr⟩
 ·rw [eg,dG ha hl,dG hc hr]
  exact (dG e1 hlr).symm
 ·rw [eg,dG hb' hr,dG hd' hl]
  exact (dG e2 hlr).symm
end Qm
namespace Rq
def DD (k:Nat):Nat:=27720 ^ k
theorem dC (k:Nat):0 < DD k:=Nat.pow_pos (by decide)
theorem nP (k j:Nat):DD (k + j)=DD k * DD j:=Nat.pow_add _ _ _
def Lq (k m:Nat) (q:Rat):Prop:=∃ n:Int,q=Rat.divInt n (DD k:Int) /\ n.natAbs ≤ m * DD k
theorem Lq.zero (k:Nat):Lq k 0 0:=⟨0,by rw [Rat.zero_divInt],by simp⟩
theorem uD (k:Nat):((DD k:Nat):Int) ≠ 0:=by have:=dC k; omega
theorem Lq.add {k m m':Nat} {x y:Rat} (hx:Lq k m x) (hy:Lq k m' y):Lq k (m + m') (x + y):=by
 obtain ⟨a,rfl,ha⟩:=hx
 obtain ⟨b,rfl,hb⟩:=hy
 refine ⟨a + b,?_,?_⟩
 ·rw [Rat.divInt_add_divInt _ _ (uD k) (uD k),<- Int.add_mul,Rat.divInt_mul_right (uD k)]
 ·rw [Nat.add_mul]
  have:=Int.natAbs_add_le a b
  omega
theorem Lq.mul {k k' m m':Nat} {x y:Rat} (hx:Lq k m x) (hy:Lq k' m' y):Lq (k + k') (m * m') (x * y):=by
 obtain ⟨a,rfl,ha⟩:=hx
 obtain ⟨b,rfl,hb⟩:=hy
 refine ⟨a * b,?_,?_⟩
 ·rw [Rat.divInt_mul_divInt,nP]
  push_cast
  rfl
 ·rw [Int.natAbs_mul,nP]
  calc a.natAbs * b.natAbs ≤ (m * DD k) * (m' * DD k'):=Nat.mul_le_mul ha hb
   _=m * m' * (DD k * DD k'):=by rw [Nat.mul_mul_mul_comm]
theorem Lq.mono {k m m':Nat} {x:Rat} (hx:Lq k m x) (h:m ≤ m'):Lq k m' x:=by
 obtain ⟨a,rfl,ha⟩:=hx
 exact ⟨a,rfl,Nat.le_trans ha (Nat.mul_le_mul_right _ h)⟩
theorem Lq.bd {k m:Nat} {x:Rat} (hx:Lq k m x):x.num.natAbs ≤ m * DD k /\ x.den ∣ DD k:=by
 obtain ⟨a,rfl,ha⟩:=hx
 have hp:=dC k
 rw [Rat.num_divInt,Rat.den_divInt,if_neg (uD k)]
 have hs:((DD k:Nat):Int).sign=1:=Int.sign_eq_one_of_pos (by omega)
 rw [hs,Int.one_mul]
 constructor
 ·rw [Int.natAbs_ediv_of_dvd (Int.gcd_dvd_right _ _)]
  exact Nat.le_trans (Nat.div_le_self _ _) ha
 ·rw [Int.natAbs_natCast]
  exact Nat.div_dvd_of_dvd (by have:=Int.gcd_dvd_left ((DD k:Nat):Int) a; exact Int.natCast_dvd_natCast.mp this)
theorem Lq.small {a b:Int} (ha:a.natAbs ≤ 9) (hb:0 < b) (hb':b ≤ 12):Lq 1 9 (Rat.divInt a b):=by
 have hd:b ∣ ((DD 1:Nat):Int):=by
  have e:((DD 1:Nat):Int)=27720:=by decide
  rw [e]
  have:b=1 \/ b=2 \/ b=3 \/ b=4 \/ b=5 \/ b=6 \/ b=7 \/ b=8 \/ b=9 \/ b=10 \/ b=11 \/ b=12:=by omega
  rcases this with rfl | rfl | rfl | rfl | rfl | rfl | rfl | rfl | rfl | rfl | rfl | rfl <;> decide
 obtain ⟨c,hc⟩:=hd
 have hc0:c ≠ 0:=fun z=>by rw [z,Int.mul_zero] at hc; exact uD 1 hc
 refine ⟨a * c,?_,?_⟩
 ·rw [hc,Rat.divInt_mul_right hc0]
 ·rw [Int.natAbs_mul]
  have h1:c.natAbs ≤ DD 1:=by
   have:((DD 1:Nat):Int).natAbs=b.natAbs * c.natAbs:=by rw [hc,Int.natAbs_mul]
   rw [Int.natAbs_natCast] at this
   rw [this]
   exact Nat.le_mul_of_pos_left _ (by omega)
  exact Nat.mul_le_mul ha h1
def wsum (r s:List Rat):Rat:=(List.zipWith (· * ·) r s).foldl (· + ·) 0
theorem foldl_add (l:List Rat):∀ a:Rat,l.foldl (· + ·) a=a + l.foldl (· + ·) 0:=by
 induction l with
 | nil=>intro a; rw [List.foldl_nil,List.foldl_nil,Rat.add_zero]
 | cons x l ih =>
  intro a
  rw [List.foldl_cons,List.foldl_cons,ih (a + x),ih (0 + x),Rat.zero_add,Rat.add_assoc]
theorem bE (x y:Rat) (r s:List Rat):wsum (x :: r) (y :: s)=x * y + wsum r s:=by
 unfold wsum
 rw [List.zipWith_cons_cons,List.foldl_cons,foldl_add,Rat.zero_add]
theorem zF {k k' m m':Nat}:∀ {r s:List Rat},(∀ x ∈ r,Lq k m x) -> (∀ y ∈ s,Lq k' m' y) -> Lq (k + k') (r.length * (m * m')) (wsum r s)
 | [],s,_,_=>by
  have:wsum [] s=0:=by unfold wsum; rw [List.zipWith_nil_left]; rfl
  rw [this,List.length_nil,Nat.zero_mul]
  exact Lq.zero _
 | x :: r,[],h1,h2=>by
  have:wsum (x :: r) []=0:=by unfold wsum; rw [List.zipWith_nil_right]; rfl
  rw [this]
  exact (Lq.zero _).mono (Nat.zero_le _)
 | x :: r,y :: s,h1,h2=>by
  rw [bE,List.length_cons,Nat.add_mul,Nat.one_mul,Nat.add_comm (r.length * (m * m'))]
  exact ((h1 x List.mem_cons_self).mul (h2 y List.mem_cons_self)).add (zF (fun z hz=>h1 z (List.mem_cons_of_mem _ hz)) (fun z hz=>h2 z (List.mem_cons_of_mem _ hz)))
theorem qN {D E:Int} (hD:D ≠ 0) (hE:E ≠ 0):∀ (a b:List Int),wsum (a.map fun n=>Rat.divInt n D) (b.map fun n=>Rat.divInt n E)=Rat.divInt (List.zipWith (· * ·) a b).sum (D * E)
 | [],b=>by
  unfold wsum
  rw [List.map_nil,List.zipWith_nil_left,List.zipWith_nil_left,List.sum_nil,Rat.zero_divInt]
  rfl
 | x :: a,[]=>by
  unfold wsum
  rw [List.map_nil,List.zipWith_nil_right,List.zipWith_nil_right,List.sum_nil,Rat.zero_divInt]
  rfl
 | x :: a,y :: b=>by
  rw [List.map_cons,List.map_cons,bE,qN hD hE a b,List.zipWith_cons_cons,List.sum_cons,Rat.divInt_mul_divInt]
  have hDE:D * E ≠ 0:=Int.mul_ne_zero hD hE
  rw [Rat.divInt_add_divInt _ _ hDE hDE,<- Int.add_mul,Rat.divInt_mul_right hDE]
def fG (B:List (List Rat)) (j:Nat):List Rat:=B.map fun r=>r.getD j 0
def kX (r:List Rat) (B:List (List Rat)) (w:Nat):List Rat:=(List.range w).map fun j=>wsum r (fG B j)
def mulM (A B:List (List Rat)) (w:Nat):List (List Rat):=A.map fun r=>kX r B w
theorem dF (s:List Rat):wsum [] s=0:=by unfold wsum; rw [List.zipWith_nil_left]; rfl
theorem kn:∀ (n:Nat) (c:List Rat),wsum (List.replicate n 0) c=0
 | 0,c=>dF c
 | n + 1,[]=>by unfold wsum; rw [List.zipWith_nil_right]; rfl
 | n + 1,y :: c=>by rw [List.replicate_succ,bE,kn n c,Rat.zero_mul,Rat.zero_add]
theorem iK (x:Rat):∀ (b c:List Rat),wsum (b.map (x * ·)) c=x * wsum b c
 | [],c=>by rw [List.map_nil,dF,Rat.mul_zero]
 | y :: b,[]=>by
  have z:∀ l:List Rat,wsum l []=0:=fun l=>by unfold wsum; rw [List.zipWith_nil_right]; rfl
  rw [z,z,Rat.mul_zero]
 | y :: b,w :: c=>by rw [List.map_cons,bE,bE,iK x b c,Rat.mul_add,Rat.mul_assoc]
theorem vK (r:List Rat) (B:List (List Rat)) (w:Nat):(kX r B w).length=w:=by unfold kX; simp
def Sq (n:Nat) (A:List (List Rat)):Prop:=A.length=n /\ ∀ r ∈ A,r.length=n
theorem Sq.mul {n:Nat} {A B:List (List Rat)} (hA:Sq n A):Sq n (mulM A B n):=by
 refine ⟨by unfold mulM; rw [List.length_map]; exact hA.1,fun r hr=>?_⟩
 obtain ⟨a,_,rfl⟩:=List.mem_map.mp hr
 exact vK _ _ _
end Rq
namespace Dt
abbrev Row:=Nat -> Int
abbrev Fn:=List Nat -> Int
def E (x:Row):Fn -> List Nat -> Int
 | _,[]=>0
 | D,c :: cs=>x c * D cs - E x (fun l=>D (c :: l)) cs
def det:List Row -> Fn
 | []=>fun cs=>if cs=[] then 1 else 0
 | x :: R=>fun cs=>E x (det R) cs
def Alt (D:Fn):Prop:=∀ pre a b cs,D (pre ++ a :: b :: cs) = - D (pre ++ b :: a :: cs)
theorem Alt.tl {D:Fn} (h:Alt D) (c:Nat):Alt (fun l=>D (c :: l)):=fun pre a b cs=>h (c :: pre) a b cs
def F (f:Row -> Int):(List Row -> Int) -> List Row -> Int
 | _,[]=>0
 | G,x :: R=>f x * G R - F f (fun S=>G (x :: S)) R
def Lk (cs:List Nat) (f:Row -> Int):Prop:=∃ ws:List (Int × Nat),(∀ w ∈ ws,w.2 ∈ cs) /\ ∀ x,f x=(ws.map fun w=>w.1 * x w.2).foldr (· + ·) 0
theorem Lk.zero (cs:List Nat):Lk cs (fun _=>0):=⟨[],(fun _ h=>by cases h),fun _=>rfl⟩
theorem Lk.col {cs:List Nat} {c:Nat} (h:c ∈ cs):Lk cs (fun x=>x c):=⟨[(1,c)],(fun w hw=>by rw [List.mem_singleton.mp hw]; exact h),fun x=>by simp⟩
theorem Lk.more {cs ds:List Nat} {f:Row -> Int} (h:Lk cs f) (hs:∀ c ∈ cs,c ∈ ds):Lk ds f:=by
 obtain ⟨ws,h1,h2⟩:=h
 exact ⟨ws,fun w hw=>hs _ (h1 w hw),h2⟩
theorem Lk.congr {cs:List Nat} {f g:Row -> Int} (h:Lk cs f) (e:∀ x,g x=f x):Lk cs g:=by rw [funext e]; exact h
def left (R:List Row) (ps:List Nat) (x:Row):Row:=fun j=>det (x :: R) (j :: ps)
inductive Sp:List Row -> Row -> Prop
 | nil {x:Row} (h:∀ c,x c=0):Sp [] x
 | cons {w:Row} {W:List Row} {x y:Row} (a:Int) (h:∀ c,x c=a * w c + y c) (hy:Sp W y):Sp (w :: W) x
theorem Sp.zero:∀ (W:List Row),Sp W (fun _=>0)
 | []=>.nil fun _=>rfl
 | w :: W=>.cons 0 (fun c=>by omega) (Sp.zero W)
def rw (l:List Int):Row:=fun j=>l.getD j 0
def BR (w:Nat) (R:List Row) (ps:List Nat) (x:Row):List Int:=(List.range w).map (left R ps x)
inductive Ch (w:Nat):List Row -> List Nat -> List (Nat × List Int) -> Prop
 | nil:Ch w [] [] []
 | cons {R:List Row} {ps:List Nat} {kr:List (Nat × List Int)} {x:Row} {p:Nat} (h:Ch w R ps kr) (hp:p < w) (hn:left R ps x p ≠ 0):Ch w (x :: R) (p :: ps) ((p,BR w R ps x) :: kr)
theorem Ch.det {w:Nat} {R:List Row} {ps:List Nat} {kr:List (Nat × List Int)}:Ch w R ps kr -> det R ps ≠ 0
 | .nil=>by decide
 | .cons h hp hn=>hn
theorem Ch.ps {w:Nat} {R:List Row} {ps:List Nat} {kr:List (Nat × List Int)}:Ch w R ps kr -> ∀ p ∈ ps,p < w
 | .nil,_,h=>by cases h
 | .cons h hp hn,q,hq=>by
  rcases List.mem_cons.mp hq with rfl | hq
  ·exact hp
  ·exact h.ps q hq
theorem Ch.len {w:Nat} {R:List Row} {ps:List Nat} {kr:List (Nat × List Int)}:Ch w R ps kr -> R.length=kr.length /\ ps.length=kr.length
 | .nil=>⟨rfl,rfl⟩
 | .cons h hp hn=>by have:=h.len; simp only [List.length_cons]; omega
def EZ (w:Nat) (r:Row) (l:Row):Prop:=∃ a b:Int,a ≠ 0 /\ b ≠ 0 /\ ∀ j < w,a * r j=b * l j
theorem EZ.zero {w:Nat} {r l:Row} (h:EZ w r l) {j:Nat} (hj:j < w):r j=0 ↔ l j=0:=by
 obtain ⟨a,b,ha,hb,e⟩:=h
 have ej:=e j hj
 constructor
 ·intro h0
  rw [h0,Int.mul_zero] at ej
  rcases Int.mul_eq_zero.mp ej.symm with z | z
  ·exact absurd z hb
  ·exact z
 ·intro h0
  rw [h0,Int.mul_zero] at ej
  rcases Int.mul_eq_zero.mp ej with z | z
  ·exact absurd z ha
  ·exact z
def fp (w:Nat) (x:Row):Option Nat:=(List.range w).find? fun j=>x j != 0
def fr (w:Nat):List Row -> Nat -> List Row -> List Nat -> List Nat
 | [],_,_,_=>[]
 | x :: rest,i,R,ps=>match fp w (left R ps x) with
  | none=>fr w rest (i + 1) R ps
  | some p=>i :: fr w rest (i + 1) (x :: R) (p :: ps)
theorem index {α:Type} {l:List α}:∀ {S:List α},(∀ x ∈ S,x ∈ l) -> ∀ d,∃ is:List Nat,(∀ i ∈ is,i < l.length) /\ S=is.map fun i=>l.getD i d
 | [],_,d=>⟨[],(fun _ h=>by cases h),rfl⟩
 | x :: S,h,d=>by
  obtain ⟨is,h1,h2⟩:=index (S:=S) (fun y hy=>h y (List.mem_cons_of_mem _ hy)) d
  obtain ⟨i,hi,e⟩:=List.getElem_of_mem (h x List.mem_cons_self)
  refine ⟨i :: is,fun j hj=>?_,?_⟩
  ·rcases List.mem_cons.mp hj with rfl | hj
   ·exact hi
   ·exact h1 j hj
  ·rw [List.map_cons,<- h2,List.getD_eq_getElem?_getD,List.getElem?_eq_getElem hi,e]; rfl
inductive Fw (w:Nat):List Row -> List Nat -> List (Nat × List Int) -> List Row -> List Nat -> Prop
 | nil {R:List Row} {ps:List Nat}:Fw w R ps [] R ps
 | cons {R R':List Row} {ps ps':List Nat} {ks:List (Nat × List Int)} {x:Row} {p:Nat} (hp:p < w) (hn:left R ps x p ≠ 0) (h:Fw w (x :: R) (p :: ps) ks R' ps'):Fw w R ps ((p,BR w R ps x) :: ks) R' ps'
theorem Fw.snoc {w:Nat} {R R':List Row} {ps ps':List Nat} {ks:List (Nat × List Int)} (h:Fw w R ps ks R' ps') {x:Row} {p:Nat} (hp:p < w) (hn:left R' ps' x p ≠ 0):Fw w R ps (ks ++ [(p,BR w R' ps' x)]) (x :: R') (p :: ps'):=by
 induction h with
 | nil=>exact .cons hp hn .nil
 | cons hp' hn' h ih=>exact .cons hp' hn' (ih hn)
end Dt
namespace Dq
abbrev Row:=Nat -> Rat
abbrev Fn:=List Nat -> Rat
def E (x:Row):Fn -> List Nat -> Rat
 | _,[]=>0
 | D,c :: cs=>x c * D cs - E x (fun l=>D (c :: l)) cs
def det:List Row -> Fn
 | []=>fun cs=>if cs=[] then 1 else 0
 | x :: R=>fun cs=>E x (det R) cs
def Alt (D:Fn):Prop:=∀ pre a b cs,D (pre ++ a :: b :: cs) = - D (pre ++ b :: a :: cs)
theorem Alt.tl {D:Fn} (h:Alt D) (c:Nat):Alt (fun l=>D (c :: l)):=fun pre a b cs=>h (c :: pre) a b cs
def F (f:Row -> Rat):(List Row -> Rat) -> List Row -> Rat
 | _,[]=>0
 | G,x :: R=>f x * G R - F f (fun S=>G (x :: S)) R
def sm (cs:List Nat) (f:Nat -> Rat):Rat:=(cs.map f).foldr (· + ·) 0
theorem Hx (f:Nat -> Rat):sm [] f=0:=rfl
theorem jG (c:Nat) (cs:List Nat) (f:Nat -> Rat):sm (c :: cs) f=f c + sm cs f:=rfl
theorem CH (a b:Rat) (f g:Nat -> Rat):∀ cs,sm cs (fun k=>a * f k + b * g k)=a * sm cs f + b * sm cs g
 | []=>by simp only [Hx]; grind
 | c :: cs=>by rw [jG,jG,jG,CH a b f g cs]; grind
theorem zr:∀ cs,sm cs (fun _=>0)=0
 | []=>rfl
 | c :: cs=>by rw [jG,zr cs]; grind
theorem pf {f g:Nat -> Rat}:∀ {cs:List Nat},(∀ k ∈ cs,f k=g k) -> sm cs f=sm cs g
 | [],_=>rfl
 | c :: cs,h=>by rw [jG,jG,h c List.mem_cons_self,pf fun k hk=>h k (List.mem_cons_of_mem _ hk)]
end Dq
namespace Dt
def ins (a:Nat):List Nat -> List Nat
 | []=>[a]
 | b :: l=>if b < a then b :: ins a l else a :: b :: l
inductive Up:List Nat -> Prop
 | nil:Up []
 | cons {a:Nat} {l:List Nat} (h:∀ b ∈ l,a ≤ b) (u:Up l):Up (a :: l)
theorem yA {a:Nat}:∀ {l:List Nat} {x:Nat},x ∈ ins a l ↔ x=a \/ x ∈ l
 | [],x=>by simp [ins]
 | b :: l,x=>by
  unfold ins
  split
  ·rw [List.mem_cons,yA,List.mem_cons]
   grind
  ·simp
theorem Up.ins {a:Nat}:∀ {l:List Nat},Up l -> Up (ins a l)
 | [],_=>.cons (fun _ h=>by cases h) .nil
 | b :: l,.cons h u=>by
  unfold Dt.ins
  split
  ·next hb =>
   refine .cons (fun x hx=>?_) u.ins
   rcases yA.mp hx with rfl | hx
   ·omega
   ·exact h x hx
  ·next hb =>
   refine .cons (fun x hx=>?_) (.cons h u)
   rcases List.mem_cons.mp hx with rfl | hx
   ·omega
   ·have:=h x hx
    omega
def put (ps:List Nat) (c p:Nat):List Nat:=ps.map fun q=>if q=p then c else q
end Dt
namespace My
open PySem PySem.Spec PyProof.Rows L2 TM
theorem KU:(17:Nat) ≤ sizeLine:=bR (by decide)
theorem L9:(6:Nat) < sizeLine:=dR (by decide)
theorem Bs {a b c d:Int}:kH (.tup [.int a,.int b]) (.tup [.int c,.int d])=some (.bl (decide (a=c) && decide (b=d))):=by
 have e:kH (.tup [.int a,.int b]) (.tup [.int c,.int d])=some (.bl ((a == c) && ((b == d) && true))):=rfl
 rw [e,Bool.and_true,Bool.beq_eq_decide_eq,Bool.beq_eq_decide_eq]
theorem zW {x y:Bool}:kH (.lst [.bl x,.bl y]) (.lst [.bl x,.bl y])=some (.bl true):=by
 have e:kH (.lst [.bl x,.bl y]) (.lst [.bl x,.bl y])=some (.bl ((x == x) && ((y == y) && true))):=rfl
 rw [e,beq_self_eq_true,beq_self_eq_true]
 rfl
theorem lG:∀ (n:Nat) (u:Option Sl) (x y:Nat),y < n -> dO (eG (aH lW (af 1) (fC (.int 0)))) (rB 0 1 (aa (af 1) (aa (aH cu (af 0) (af 1)) ai))) n [some (.sh (.int x)),some (.sh (.int y)),u]
  = some (.nx [some (.sh (.int (Nat.gcd x y))),some (.sh (.int 0)),u])
 | 0,_,_,_,h=>by omega
 | n + 1,u,x,y,h=>by
  unfold dO
  by_cases hy:y=0
  ·subst hy
   have h0:((0:Nat):Int)=0:=rfl
   walk_at "ev"
   simp
  ·have hy':¬ ((y:Int)=0):=by omega
   have hm:Int.fmod (x:Int) (y:Int)=((x % y:Nat):Int):=by rw [Int.fmod_eq_emod_of_nonneg _ (by omega)]; rfl
   have hg:Nat.gcd x y=Nat.gcd y (x % y):=by rw [Nat.gcd_comm x y,Nat.gcd_rec y x,Nat.gcd_comm]
   have ih:=lG n u y (x % y) (by have:=Nat.mod_lt x (Nat.pos_of_ne_zero hy); omega)
   rw [hg]
   clear hg h hy
   walk_at "ev"
theorem CU {ft:FT} {fb:FS} {τ τ':aA} {n:Nat} (h:ft τ=some (false,τ')) (hn:0 < n):dO ft fb n τ=some (.nx τ'):=by
 obtain ⟨m,rfl⟩:∃ m,n=m + 1:=⟨n - 1,by omega⟩
 unfold dO
 rw [h]
 rfl
theorem HZ:0 < B:=by decide +kernel
theorem bits_le {x:Int} (h:x.natAbs < B):¬ ((Builtin.Int.intBits x:Int) > 4000):=by
 unfold Builtin.Int.intBits
 by_cases h0:x=0
 ·subst h0; decide
 ·rw [if_neg (by simpa using h0)]
  have:x.natAbs.log2 < 4000:=(Nat.log2_lt (by omega)).mpr h
  omega
def cT:List T -> Option T
 | [.int a,.int b]=>if a.natAbs < B /\ b.natAbs < B then some (.int (Int.gcd a b)) else none
 | _=>none
theorem cU {a b:Int} (ha:a.natAbs < B) (hb:b.natAbs < B):cT [.int a,.int b]=some (.int (Int.gcd a b)):=if_pos ⟨ha,hb⟩
theorem Aw (ts:List T) (t:T) (h:cT ts=some t):bX 3 2 (nX B (fun _=>none)) ts=some t:=by
 unfold cT at h
 split at h
 ·next a b =>
  split at h
  ·next hb =>
   cases h
   have hw:=lG B none a.natAbs b.natAbs (hb.2)
   have hbits:=bits_le (x:=((b.natAbs:Nat):Int)) (by simpa using hb.2)
   have hgt:zX (.int (Builtin.Int.intBits ((b.natAbs:Nat):Int))) (.int 4000)=some (.bl false):=by
    show some (T.bl (decide _))=_
    rw [decide_eq_false hbits]
   have hno:dO (eG (aH zX (mT iO (af 1)) (fC (.int 4000)))) (aT (rB 0 1 (aa (af 1) (aa (aH cu (af 0) (af 1)) ai))) (cn (eG (aH zX (mT iO (af 1)) (fC (.int 4000)))) (oi (aj (fun _=>none) (aa (af 0) (aa (af 1) ai))) (cE (aM (ar 0) (aM (ar 1) (aM (ar 2) cz))))) bQ)) B [some (.sh (.int (a.natAbs:Nat))),some (.sh (.int (b.natAbs:Nat))),none]
     = some (.nx [some (.sh (.int (a.natAbs:Nat))),some (.sh (.int (b.natAbs:Nat))),none]):=CU (by
      clear hw hbits
      walk_at "ev") HZ
   unfold bX nX
   clear hb hbits hgt
   walk_at "ev"
   rfl
  ·cases h
 ·cases h
def sg (a b:Int):Int:=if b < 0 then -(Int.gcd a b:Int) else (Int.gcd a b:Int)
def rF (a b:Int):T:=.tup [.int (a.fdiv (sg a b)),.int (b.fdiv (sg a b))]
def vm:List T -> Option T
 | [.int a,.int b]=>if a.natAbs < B /\ b.natAbs < B /\ b ≠ 0 then some (rF a b) else none
 | _=>none
theorem BU {a b:Int} (ha:a.natAbs < B) (hb:b.natAbs < B) (h0:b ≠ 0):vm [.int a,.int b]=some (rF a b):=if_pos ⟨ha,hb,h0⟩
theorem By {a b:Int} (h0:b ≠ 0):¬ ((Int.gcd a b:Nat):Int)=0:=by
 intro h
 have:Int.gcd a b=0:=by omega
 rw [Int.gcd_eq_zero_iff] at this
 exact h0 this.2
theorem qA {a b:Int} (hb:b.natAbs < B) (h0:b ≠ 0):Int.gcd a b < B:=by
 have h1:Int.gcd a b ∣ b.natAbs:=Int.gcd_dvd_natAbs_right a b
 have:=Nat.le_of_dvd (by omega) h1
 omega
theorem AW {x:Int} (h:x.natAbs < B):HS (.int (Builtin.Int.intBits x)) (.int 8000)=some (.bl true):=by
 show some (T.bl (decide _))=_
 rw [decide_eq_true (by have:=bits_le h; omega)]
theorem EJ (ts:List T) (t:T) (h:vm ts=some t):bX 3 2 (wq cT) ts=some t:=by
 unfold vm at h
 split at h
 ·next a b =>
  split at h
  ·next hb =>
   cases h
   obtain ⟨ha,hb,h0⟩:=hb
   have h1:=cU ha hb
   have h2:=By (a:=a) h0
   have h3:=qA (a:=a) hb h0
   have h4:((Int.gcd a b:Nat):Int).natAbs < B:=by omega
   have h5:¬ -((Int.gcd a b:Nat):Int)=0:=by omega
   have h6:(-((Int.gcd a b:Nat):Int)).natAbs < B:=by omega
   have h7:=AW h4
   have h8:=AW h6
   unfold bX wq
   by_cases hs:b < 0
   ·have e:rF a b=.tup [.int (a.fdiv (-(Int.gcd a b:Int))),.int (b.fdiv (-(Int.gcd a b:Int)))]:=by unfold rF sg; rw [if_pos hs]
    walk_at "ev"
   ·have e:rF a b=.tup [.int (a.fdiv (Int.gcd a b:Int)),.int (b.fdiv (Int.gcd a b:Int))]:=by unfold rF sg; rw [if_neg hs]
    walk_at "ev"
  ·cases h
 ·cases h
open PySem PySem.Spec PyProof.Rows L2 TM Qm
def C:Nat:=2 ^ 1000
theorem Kq:C * C + C * C < B:=by decide +kernel
theorem CB:C < B:=by decide +kernel
theorem EX:0 < C:=by decide +kernel
theorem ltB {a:Int} (h:a.natAbs < C):a.natAbs < B:=Nat.lt_trans h CB
theorem mulC {a b:Int} (ha:a.natAbs < C) (hb:b.natAbs < C):(a * b).natAbs < C * C:=by
 rw [Int.natAbs_mul]
 exact Nat.mul_lt_mul'' ha hb
theorem KA {a b c d:Int} (ha:a.natAbs < C) (hb:b.natAbs < C) (hc:c.natAbs < C) (hd:d.natAbs < C):(a * b + c * d).natAbs < B:=by
 have h1:=mulC ha hb
 have h2:=mulC hc hd
 have h3:=Kq
 omega
theorem iC {a g:Int} (h:g ∣ a) (hg:g ≠ 0):(a.fdiv g).natAbs ≤ a.natAbs:=by
 obtain ⟨x,rfl⟩:=h
 rw [Int.mul_fdiv_cancel_left x hg,Int.natAbs_mul]
 exact Nat.le_mul_of_pos_left _ (by omega)
structure Fr (a b:Int):Prop where
 pos:0 < b
 cop:hV a b
 ba:a.natAbs < C
 bb:b.natAbs < C
theorem rG {a b:Int} (h:0 < b):rF a b=.tup [.int (a.fdiv (Int.gcd a b)),.int (b.fdiv (Int.gcd a b))]:=by
 unfold rF sg
 rw [if_neg (by omega)]
def two:List T -> Option (Int × Int × Int × Int)
 | [.tup [.int a,.int b],.tup [.int c,.int d]]=>some (a,b,c,d)
 | _=>none
theorem HG {ts:List T} {a b c d:Int} (h:two ts=some (a,b,c,d)):ts=[.tup [.int a,.int b],.tup [.int c,.int d]]:=by
 unfold two at h
 split at h
 ·cases h; rfl
 ·cases h
instance (a b:Int):Decidable (Fr a b):=decidable_of_iff (0 < b /\ Int.gcd a b=1 /\ a.natAbs < C /\ b.natAbs < C) ⟨fun h=>⟨h.1,h.2.1,h.2.2.1,h.2.2.2⟩,fun h=>⟨h.pos,h.cop,h.ba,h.bb⟩⟩
def DT (C:Int -> Int -> Int -> Int -> Bool) (g:Int -> Int -> Int -> Int -> T):List T -> Option T:=fun ts=>(two ts).bind fun p=>if Fr p.1 p.2.1 /\ Fr p.2.2.1 p.2.2.2 /\ C p.1 p.2.1 p.2.2.1 p.2.2.2=true then some (g p.1 p.2.1 p.2.2.1 p.2.2.2) else none
theorem vn {C:Int -> Int -> Int -> Int -> Bool} {g:Int -> Int -> Int -> Int -> T} {ts:List T} {t:T} (h:DT C g ts=some t):∃ a b c d,ts=[.tup [.int a,.int b],.tup [.int c,.int d]] /\ Fr a b /\ Fr c d /\ C a b c d=true /\ t=g a b c d:=by
 obtain ⟨⟨a,b,c,d⟩,e,h⟩:=bind_some h
 dsimp only at h
 split at h
 ·next k=>cases h; exact ⟨a,b,c,d,HG e,k.1,k.2.1,k.2.2,rfl⟩
 ·cases h
theorem yR {C:Int -> Int -> Int -> Int -> Bool} {g:Int -> Int -> Int -> Int -> T} {a b c d:Int} (h1:Fr a b) (h2:Fr c d) (h3:C a b c d=true):DT C g [.tup [.int a,.int b],.tup [.int c,.int d]]=some (g a b c d):=if_pos ⟨h1,h2,h3⟩
abbrev DS:=DT (fun _ _ _ _=>true) fun a b c d=>rF (a * d + c * b) (b * d)
abbrev Jn:=DT (fun _ _ _ _=>true) fun a b c d=>rF (a * c) (b * d)
theorem EK (ts:List T) (t:T) (h:DS ts=some t):bX 5 2 (wt cT) ts=some t:=by
 obtain ⟨a,b,c,d,rfl,h1,h2,_,rfl⟩:=vn h
 clear h
 obtain ⟨pb,cb,ba,bb⟩:=h1
 obtain ⟨pd,cd,bc,bd⟩:=h2
 obtain ⟨q1,q2,q3,q4⟩:=Hj pb pd cb cd _ _ _ rfl rfl rfl
 have v1:((Int.gcd b d:Nat):Int) ∣ b:=Int.gcd_dvd_left b d
 have v2:((Int.gcd b d:Nat):Int) ∣ d:=Int.gcd_dvd_right b d
 have n1:=iC v1 q3
 have n2:=iC v2 q3
 have g1:Int.gcd b d < B:=qA (ltB bd) (by omega)
 have g1':((Int.gcd b d:Nat):Int).natAbs < B:=by omega
 generalize hs:((Int.gcd b d:Nat):Int)=s at *
 have tb:(a * d.fdiv s + c * b.fdiv s).natAbs < B:=KA ba (by omega) bc (by omega)
 have g2:Int.gcd (a * d.fdiv s + c * b.fdiv s) s < B:=qA g1' q3
 have v3:((Int.gcd (a * d.fdiv s + c * b.fdiv s) s:Nat):Int) ∣ d:=Int.dvd_trans (Int.gcd_dvd_right _ _) v2
 have n3:=iC v3 q4
 have k1:=cU (ltB bb) (ltB bd)
 have k2:=cU tb g1'
 rw [hs] at k1
 have e:rF (a * d + c * b) (b * d)=.tup [.int ((a * d.fdiv s + c * b.fdiv s).fdiv (Int.gcd (a * d.fdiv s + c * b.fdiv s) s:Nat)),.int (b.fdiv s * d.fdiv (Int.gcd (a * d.fdiv s + c * b.fdiv s) s:Nat))]:=by
  rw [rG (Int.mul_pos pb pd),q1,q2]
 have g2':((Int.gcd (a * d.fdiv s + c * b.fdiv s) s:Nat):Int).natAbs < B:=by omega
 generalize hl:((Int.gcd (a * d.fdiv s + c * b.fdiv s) s:Nat):Int)=l at *
 have w1:=ltB ba
 have w2:=ltB bc
 have cb':=CB
 have w3:(d.fdiv s).natAbs < B:=by omega
 have w4:(b.fdiv s).natAbs < B:=by omega
 have w5:(d.fdiv l).natAbs < B:=by omega
 clear q1 q2 v1 v2 n1 n2 n3 v3 cb cd ba bb bc bd pb pd hs hl g1 g2 cb'
 unfold bX wt
 walk_at "ev"
theorem CI (ts:List T) (t:T) (h:Jn ts=some t):bX 4 2 (qW cT) ts=some t:=by
 obtain ⟨a,b,c,d,rfl,h1,h2,_,rfl⟩:=vn h
 clear h
 obtain ⟨pb,cb,ba,bb⟩:=h1
 obtain ⟨pd,cd,bc,bd⟩:=h2
 obtain ⟨q1,q2,q3,q4⟩:=EO pb pd cb cd _ _ rfl rfl
 have n1:=iC (Int.gcd_dvd_left a d) q3
 have n2:=iC (Int.gcd_dvd_right a d) q3
 have n3:=iC (Int.gcd_dvd_left c b) q4
 have n4:=iC (Int.gcd_dvd_right c b) q4
 have g1:Int.gcd a d < B:=qA (ltB bd) (by omega)
 have g2:Int.gcd c b < B:=qA (ltB bb) (by omega)
 have k1:=cU (ltB ba) (ltB bd)
 have k2:=cU (ltB bc) (ltB bb)
 have e:rF (a * c) (b * d)=.tup [.int (a.fdiv (Int.gcd a d:Nat) * c.fdiv (Int.gcd c b:Nat)),.int (b.fdiv (Int.gcd c b:Nat) * d.fdiv (Int.gcd a d:Nat))]:=by
  rw [rG (Int.mul_pos pb pd),q1,q2]
 have g1':((Int.gcd a d:Nat):Int).natAbs < B:=by omega
 have g2':((Int.gcd c b:Nat):Int).natAbs < B:=by omega
 generalize ((Int.gcd a d:Nat):Int)=l at *
 generalize ((Int.gcd c b:Nat):Int)=r at *
 have cb':=CB
 have w1:(a.fdiv l).natAbs < B:=by omega
 have w2:(d.fdiv l).natAbs < B:=by omega
 have w3:(c.fdiv r).natAbs < B:=by omega
 have w4:(b.fdiv r).natAbs < B:=by omega
 clear q1 q2 n1 n2 n3 n4 cb cd ba bb bc bd pb pd g1 g2 cb'
 unfold bX qW
 walk_at "ev"
open Rq
def bg (q:Rat):T:=.tup [.int q.num,.int (q.den:Int)]
theorem nq {a b:Int} (hb:0 < b):rF a b=bg (Rat.divInt a b):=by
 have hs:b.sign=1:=Int.sign_eq_one_of_pos hb
 have hg:(Int.gcd b a:Int)=(Int.gcd a b:Int):=by rw [Int.gcd_comm]
 rw [rG hb]
 unfold bg
 rw [Rat.num_divInt,Rat.den_divInt,if_neg (by omega),hs,Int.one_mul,hg,Int.fdiv_eq_ediv_of_nonneg _ (by omega),Int.fdiv_eq_ediv_of_nonneg _ (by omega)]
 congr 3
 rw [Int.natCast_ediv,Int.natAbs_of_nonneg (by omega),hg]
structure Sm (q:Rat):Prop where
 n:q.num.natAbs < C
 d:q.den < C
theorem Sm.fr {q:Rat} (h:Sm q):Fr q.num q.den:=⟨by have:=q.den_nz; omega,by
 have:=q.reduced
 show Int.gcd q.num q.den=1
 exact this,h.n,by have:=h.d; omega⟩
theorem cV (q:Rat):Rat.divInt q.num q.den=q:=Rat.num_divInt_den q
theorem den_pos (q:Rat):(0:Int) < (q.den:Int):=by have:=q.den_nz; omega
theorem add_eq (x y:Rat):rF (x.num * y.den + y.num * x.den) (x.den * y.den)=bg (x + y):=by
 rw [nq (Int.mul_pos (den_pos x) (den_pos y))]
 congr 1
 rw [<- Rat.divInt_add_divInt _ _ (Int.ne_of_gt (den_pos x)) (Int.ne_of_gt (den_pos y)),cV,cV]
theorem mul_eq (x y:Rat):rF (x.num * y.num) (x.den * y.den)=bg (x * y):=by
 rw [nq (Int.mul_pos (den_pos x) (den_pos y))]
 congr 1
 rw [<- Rat.divInt_mul_divInt,cV,cV]
theorem Ft {x y:Rat} (hx:Sm x) (hy:Sm y):DS [bg x,bg y]=some (bg (x + y)):=by
 have h:=yR (C:=fun _ _ _ _=>true) (g:=fun a b c d=>rF (a * d + c * b) (b * d)) hx.fr hy.fr rfl
 rw [add_eq] at h
 exact h
theorem Jo {x y:Rat} (hx:Sm x) (hy:Sm y):Jn [bg x,bg y]=some (bg (x * y)):=by
 have h:=yR (C:=fun _ _ _ _=>true) (g:=fun a b c d=>rF (a * c) (b * d)) hx.fr hy.fr rfl
 rw [mul_eq] at h
 exact h
theorem LP:2 ^ 100 * DD 12 < C:=by decide +kernel
theorem JK {k m:Nat} {q:Rat} (h:Lq k m q) (hk:k ≤ 12) (hm:m ≤ 2 ^ 100):Sm q:=by
 obtain ⟨h1,h2⟩:=h.bd
 have hd:DD k ≤ DD 12:=Nat.pow_le_pow_right (by decide) hk
 have hp:=dC k
 have h3:q.den ≤ DD k:=Nat.le_of_dvd hp h2
 have h4:m * DD k ≤ 2 ^ 100 * DD 12:=Nat.mul_le_mul hm hd
 have h5:DD k ≤ 2 ^ 100 * DD 12:=Nat.le_trans hd (Nat.le_mul_of_pos_left _ (by decide))
 have:=LP
 exact ⟨by omega,by omega⟩
open PySem PySem.Spec PyProof.Rows L2 TM Qm Rq
open Classical in
def mk {α:Type} (R:List T -> α -> Prop):List T -> Option α:=fun ts=>if h:∃ t,R ts t then some (Classical.choose h) else none
theorem xv {α:Type} {R:List T -> α -> Prop} {ts:List T} {t:α} (h:mk R ts=some t):R ts t:=by
 unfold mk at h
 split at h
 ·next hh=>cases h; exact Classical.choose_spec hh
 ·cases h
theorem mk_eq {α:Type} {R:List T -> α -> Prop} {ts:List T} {t:α} (h:R ts t) (u:∀ t',R ts t' -> t'=t):mk R ts=some t:=by
 unfold mk
 rw [dif_pos ⟨t,h⟩]
 congr 1
 exact u _ (Classical.choose_spec (⟨t,h⟩:∃ t,R ts t))
theorem Eo {x y:Rat} (h:bg x=bg y):x=y:=by
 unfold bg at h
 injection h with h
 injection h with h1 h2
 injection h2 with h2 _
 injection h1 with h1
 injection h2 with h2
 exact Rat.ext h1 (by omega)
theorem map_inj {α β:Type} {f:α -> β} (hf:∀ x y,f x=f y -> x=y):∀ {a b:List α},a.map f=b.map f -> a=b
 | [],[],_=>rfl
 | [],_ :: _,h=>by cases h
 | _ :: _,[],h=>by cases h
 | x :: a,y :: b,h=>by
  rw [List.map_cons,List.map_cons] at h
  injection h with h1 h2
  rw [hf _ _ h1,map_inj hf h2]
def aq (r:List Rat):T:=.lst (r.map bg)
def ao (A:List (List Rat)):T:=.lst (A.map aq)
def dX (r:List Rat):O:=p9 (r.map bg)
def qe (A:List (List Rat)):O:=.lst (A.map dX)
theorem oO {r s:List Rat} (h:aq r=aq s):r=s:=by
 unfold aq at h
 injection h with h
 exact map_inj (fun _ _=>Eo) h
theorem CQ {r s:List (List Rat)} (h:ao r=ao s):r=s:=by
 unfold ao at h
 injection h with h
 exact map_inj (fun _ _=>oO) h
theorem zc (r:List Rat):(dX r).tr=aq r:=by
 show T.lst (O.trs ((r.map bg).map O.val))=_
 rw [iq]
 rfl
theorem zC {α:Type} {f:α -> O} {g:α -> T} (h:∀ x,(f x).tr=g x):∀ l:List α,O.trs (l.map f)=l.map g
 | []=>rfl
 | x :: l=>by rw [List.map_cons,O.trs,zC h l,h x]; rfl
theorem nL (A:List (List Rat)):(qe A).tr=ao A:=by
 show T.lst (O.trs (A.map dX))=_
 rw [zC zc]
 rfl
theorem bK {α:Type} {φ:α -> T} {fe:FE} {g:α -> T} {ρ:aA} (hr:bM ρ=true):∀ (l:List α) (u:Option Sl) (acc:List T),(∀ x ∈ l,fe (some (.sh (φ x)) :: ρ)=some (g x,some (.sh (φ x)) :: ρ)) -> acc.length + l.length ≤ sizeLine -> gm (ar 0) aD fe (l.map φ) (u :: ρ) acc=some (acc ++ l.map g)
 | [],u,acc,_,_=>by simp [gm]
 | x :: l,u,acc,h,hl=>by
  have hl':acc.length + (l.length + 1) ≤ sizeLine:=hl
  rw [List.map_cons,gm,show ar 0 (φ x) (u :: ρ)=some (some (.sh (φ x)) :: ρ) from rfl,Option.bind_some,show aD (some (.sh (φ x)) :: ρ)=some (true,some (.sh (φ x)) :: ρ) from rfl,Option.bind_some,if_pos rfl,h x List.mem_cons_self,Option.bind_some,if_pos ⟨hr,by omega⟩,
   bK hr l _ _ (fun z hz=>h z (List.mem_cons_of_mem _ hz)) (by rw [List.length_append]; simp; omega),List.map_cons,List.append_assoc]
  rfl
theorem fq {α:Type} {φ:α -> T} {fe:lH} {g:α -> O} {ρ:aA} (hr:bM ρ=true):∀ (l:List α) (u:Option Sl) (acc:List O),(∀ x ∈ l,fe (some (.sh (φ x)) :: ρ)=some (g x,some (.sh (φ x)) :: ρ)) -> acc.length + l.length ≤ sizeLine -> gU (ar 0) aD fe (l.map φ) (u :: ρ) acc=some (acc ++ l.map g)
 | [],u,acc,_,_=>by simp [gU]
 | x :: l,u,acc,h,hl=>by
  have hl':acc.length + (l.length + 1) ≤ sizeLine:=hl
  rw [List.map_cons,gU,show ar 0 (φ x) (u :: ρ)=some (some (.sh (φ x)) :: ρ) from rfl,Option.bind_some,show aD (some (.sh (φ x)) :: ρ)=some (true,some (.sh (φ x)) :: ρ) from rfl,Option.bind_some,if_pos rfl,h x List.mem_cons_self,Option.bind_some,if_pos ⟨hr,by omega⟩,
   fq hr l _ _ (fun z hz=>h z (List.mem_cons_of_mem _ hz)) (by rw [List.length_append]; simp; omega),List.map_cons,List.append_assoc]
  rfl
abbrev rK:FG:=cE (aM (ar 0) (aM (ar 1) cz))
theorem DA (x y:T) (u v:Option Sl) (ρ:aA):rK (.tup [x,y]) (u :: v :: ρ)=some (some (.sh x) :: some (.sh y) :: ρ):=rfl
theorem gp {α:Type} {φ ψ:α -> T} {fe:FE} {g:α -> T} {ρ:aA} (hr:bM ρ=true):∀ (l:List α) (u v:Option Sl) (acc:List T),(∀ x ∈ l,fe (some (.sh (φ x)) :: some (.sh (ψ x)) :: ρ)=some (g x,some (.sh (φ x)) :: some (.sh (ψ x)) :: ρ)) -> acc.length + l.length ≤ sizeLine ->
  gm rK aD fe (l.map fun x=>.tup [φ x,ψ x]) (u :: v :: ρ) acc=some (acc ++ l.map g)
 | [],u,v,acc,_,_=>by simp [gm]
 | x :: l,u,v,acc,h,hl=>by
  have hl':acc.length + (l.length + 1) ≤ sizeLine:=hl
  rw [List.map_cons,gm,DA,Option.bind_some,show aD (some (.sh (φ x)) :: some (.sh (ψ x)) :: ρ)=some (true,some (.sh (φ x)) :: some (.sh (ψ x)) :: ρ) from rfl,Option.bind_some,if_pos rfl,h x List.mem_cons_self,Option.bind_some,if_pos ⟨hr,by omega⟩,
   gp hr l _ _ _ (fun z hz=>h z (List.mem_cons_of_mem _ hz)) (by rw [List.length_append]; simp; omega),List.map_cons,List.append_assoc]
  rfl
theorem jy {α β:Type} (φ:α -> T) (ψ:β -> T):∀ (r:List α) (s:List β),iL (r.map φ) (s.map ψ)=(List.zip r s).map fun p=>.tup [φ p.1,ψ p.2]
 | [],s=>by simp [iL]
 | x :: r,[]=>by simp [iL]
 | x :: r,y :: s=>by simp [iL,jy φ ψ r s]
theorem xW:∀ (n:Nat) (lo:Int),TM.upTo lo n=(List.range n).map fun (i:Nat)=>T.int (lo + i):=by
 intro n lo
 apply List.ext_getElem?
 intro i
 by_cases h:i < n
 ·rw [pE n lo i h,List.getElem?_map,List.getElem?_range h]; rfl
 ·rw [List.getElem?_eq_none (by rw [gQ]; omega),List.getElem?_eq_none (by simp; omega)]
theorem vX (n:Nat):TM.upTo 0 n=(List.range n).map fun (i:Nat)=>T.int i:=by
 rw [xW]
 congr 1
 funext i
 congr 1
 omega
theorem bH {no:Nat} {cap:List Nat} {fi:FA} {fg:FG} {ft:FT} {fe:FE} {τ:aA} {ts us:List T} (h1:fi τ=some (ts,τ)) (h2:frzAll cap τ=τ) (h3:bM (bT no cap τ)=true) (h4:gm fg ft fe ts (bT no cap τ) []=some us):cq no cap fi fg ft fe τ=some (.lst us,τ):=by
 unfold cq
 rw [h1,Option.bind_some]
 dsimp only
 rw [h2,if_pos h3,h4]
 rfl
theorem jC {no:Nat} {cap:List Nat} {fi:FA} {fg:FG} {ft:FT} {fe:lH} {τ:aA} {ts:List T} {us:List O} (h1:fi τ=some (ts,τ)) (h2:frzAll cap τ=τ) (h3:bM (bT no cap τ)=true) (h4:gU fg ft fe ts (bT no cap τ) []=some us):eu no cap fi fg ft fe τ=some (.lst us,τ):=by
 unfold eu
 rw [h1,Option.bind_some]
 dsimp only
 rw [h2,if_pos h3,h4]
 rfl
theorem gh {fg:FG} {fb:FS} {t:T} {ts:List T} {τ τ1 τ2:aA} (h1:fg t τ=some τ1) (h2:fb τ1=some (.nx τ2)):dB fg fb (t :: ts) τ=dB fg fb ts τ2:=by
 rw [dB,h1,Option.bind_some,h2]
 rfl
theorem vJ {f:FE} {τ:aA} {n:Int} (h:f τ=some (.int n,τ)) (h0:0 ≤ n) (h1:n ≤ 1000):eH (aa f ai) τ=some (TM.upTo 0 n.toNat,τ):=by
 unfold eH aa ai
 rw [h]
 show (if _ then _ else _)=_
 rw [if_pos (by omega)]
theorem nJ {f:FE} {τ:aA} {n:Nat} (h:f τ=some (.int n,τ)) (h1:n ≤ 1000):eH (aa f ai) τ=some ((List.range n).map fun (i:Nat)=>T.int i,τ):=by
 have e:=vJ h (by omega) (by omega)
 rw [Int.toNat_natCast,vX] at e
 exact e
structure Gd (k m:Nat) (r:List Rat):Prop where
 len:r.length ≤ 8
 lq:∀ x ∈ r,Lq k m x
def Lw (k m:Nat):Prop:=k ≤ 6 /\ m ≤ 2 ^ 40
theorem Gd.sm {k m:Nat} {r:List Rat} (h:Gd k m r) (f:Lw k m) {x:Rat} (hx:x ∈ r):Sm x:=JK (h.lq x hx) (by have:=f.1; omega) (Nat.le_trans f.2 (by decide))
open PySem PySem.Spec PyProof.Rows L2 TM Qm Rq
theorem J1 {g:List T -> Option T} {f:FA} {ρ:aA} {t:T} (ts:List T) (h1:f ρ=some (ts,ρ)) (h2:g ts=some t):kC (aj g f) ρ=some (.val t,ρ):=by
 unfold kC aj
 rw [h1,Option.bind_some]
 dsimp only
 rw [h2]
 rfl
theorem tY {n:Nat} (h:n ≤ 8):([]:List O).length + n ≤ sizeLine:=by rw [List.length_nil,Nat.zero_add]; exact bR (by omega)
theorem eO {n:Nat} (h:n ≤ 8):([]:List T).length + n ≤ sizeLine:=by rw [List.length_nil,Nat.zero_add]; exact bR (by omega)
theorem uf {α β:Type} (r:List α) (s:List β) (h:r.length ≤ 8):(List.zip r s).length ≤ 8:=by rw [List.length_zip]; omega
theorem cJ {α β:Type} {r:List α} {s:List β} {p:α × β} (h:p ∈ List.zip r s):p.1 ∈ r /\ p.2 ∈ s:=⟨(List.of_mem_zip h).1,(List.of_mem_zip h).2⟩
def Io (r s:List Rat):List Rat:=(List.zip r s).map fun p=>p.1 + p.2
def mulR (b:Rat) (r:List Rat):List Rat:=r.map (b * ·)
structure Tb (k m:Nat) (A:List (List Rat)):Prop where
 len:A.length ≤ 8
 row:∀ r ∈ A,Gd k m r
def Ip (A B:List (List Rat)):List (List Rat):=(List.zip A B).map fun p=>Io p.1 p.2
theorem Dg {g:List T -> Option O} {f:FA} {ρ:aA} {t:O} (ts:List T) (h1:f ρ=some (ts,ρ)) (h2:g ts=some t):fO g f ρ=some (t,ρ):=by
 unfold fO
 rw [h1,Option.bind_some]
 dsimp only
 rw [h2]
 rfl
theorem aG {g:List T -> Option T} {f:FA} {ρ:aA} {t:T} (ts:List T) (h1:f ρ=some (ts,ρ)) (h2:g ts=some t):aj g f ρ=some (t,ρ):=by
 unfold aj
 rw [h1,Option.bind_some]
 dsimp only
 rw [h2]
 rfl
def Js (b:Rat) (A:List (List Rat)):List (List Rat):=A.map (mulR b)
open PySem PySem.Spec PyProof.Rows L2 TM Qm Rq
def aO (r:List Rat):Nat:=r.foldl (fun l x=>Nat.lcm l x.den) 1
theorem vi:∀ (r:List Rat) (l:Nat),l ∣ r.foldl (fun l x=>Nat.lcm l x.den) l
 | [],l=>Nat.dvd_refl l
 | x :: r,l=>Nat.dvd_trans (Nat.dvd_lcm_left _ _) (vi r _)
theorem ym:∀ (r:List Rat) (l:Nat) (x:Rat),x ∈ r -> x.den ∣ r.foldl (fun l x=>Nat.lcm l x.den) l
 | y :: r,l,x,h=>by
  rcases List.mem_cons.mp h with rfl | h
  ·exact Nat.dvd_trans (Nat.dvd_lcm_right _ _) (vi r _)
  ·exact ym r _ x h
theorem LO {k:Nat} (h:k ≤ 12):DD k < B:=by
 have hd:DD k ≤ DD 12:=Nat.pow_le_pow_right (by decide) h
 have:DD 12 < B:=by decide +kernel
 omega
theorem BQ {l b:Nat} (hl:0 < l) (hb:0 < b):((l:Int).fdiv (Int.gcd (l:Int) (b:Int):Nat)) * (b:Int)=(Nat.lcm l b:Nat):=by
 have hg:Int.gcd (l:Int) (b:Int)=Nat.gcd l b:=rfl
 rw [hg,Int.fdiv_eq_ediv_of_nonneg _ (by omega)]
 have:(l:Int) / (Nat.gcd l b:Nat)=((l / Nat.gcd l b:Nat):Int):=by rw [Int.natCast_ediv]
 rw [this,<- Int.natCast_mul]
 congr 1
 unfold Nat.lcm
 rw [Nat.div_mul_right_comm (Nat.gcd_dvd_left l b)]
def oV:FS:=bo 1 (aH aV (aH cS (af 1) (aj cT (aa (af 1) (aa (af 3) ai)))) (af 3))
theorem zi {D:Nat} (hB:D < B) (hp:0 < D) (x0:Option Sl):∀ (r:List Rat) (l:Nat) (u v:Option Sl),l ∣ D -> (∀ x ∈ r,x.den ∣ D) -> ∃ u' v',dB (cE (aM (ar 2) (aM (ar 3) cz))) oV (r.map bg) [x0,some (.sh (.int l)),u,v]
  = some (.nx [x0,some (.sh (.int (r.foldl (fun l x=>Nat.lcm l x.den) l:Nat))),u',v'])
 | [],l,u,v,_,_=>⟨u,v,by simp [dB]⟩
 | x :: r,l,u,v,h1,h2=>by
  have hl0:0 < l:=Nat.pos_of_dvd_of_pos h1 hp
  have hl:l ≤ D:=Nat.le_of_dvd hp h1
  have hd:=h2 x List.mem_cons_self
  have hd0:0 < x.den:=Nat.pos_of_ne_zero x.den_nz
  have hdl:x.den ≤ D:=Nat.le_of_dvd hp hd
  obtain ⟨u',v',ih⟩:=zi hB hp x0 r (Nat.lcm l x.den) (some (.sh (.int x.num))) (some (.sh (.int x.den))) (Nat.lcm_dvd h1 hd) fun z hz=>h2 z (List.mem_cons_of_mem _ hz)
  refine ⟨u',v',?_⟩
  have k1:=cU (a:=(l:Int)) (b:=(x.den:Int)) (by omega) (by omega)
  have e1:=BQ hl0 hd0
  have hg:Int.gcd (l:Int) (x.den:Int) ≤ l:=by
   show Nat.gcd l x.den ≤ l
   exact Nat.le_of_dvd hl0 (Nat.gcd_dvd_left _ _)
  have hg0:0 < Int.gcd (l:Int) (x.den:Int):=by
   show 0 < Nat.gcd l x.den
   exact Nat.gcd_pos_of_pos_left _ hl0
  have n1:¬ ((Int.gcd (l:Int) (x.den:Int):Nat):Int)=0:=by omega
  have n2:((Int.gcd (l:Int) (x.den:Int):Nat):Int).natAbs < B:=by omega
  have n3:((l:Int).fdiv ((Int.gcd (l:Int) (x.den:Int):Nat):Int)).natAbs < B:=by
   rw [Int.fdiv_eq_ediv_of_nonneg _ (by omega)]
   have:=Int.ediv_le_self ((Int.gcd (l:Int) (x.den:Int):Nat):Int) (show (0:Int) ≤ (l:Int) by omega)
   have:=Int.ediv_nonneg (show (0:Int) ≤ (l:Int) by omega) (show (0:Int) ≤ ((Int.gcd (l:Int) (x.den:Int):Nat):Int) by omega)
   omega
  have n4:(x.den:Int).natAbs < B:=by omega
  have hb:oV [x0,some (.sh (.int l)),some (.sh (.int x.num)),some (.sh (.int x.den))]=some (.nx [x0,some (.sh (.int (Nat.lcm l x.den:Nat))),some (.sh (.int x.num)),some (.sh (.int x.den))]):=by
   rw [<- e1]
   clear ih h1 h2 hB hp hl0 hl hd hd0 hdl e1 hg hg0
   unfold oV
   walk_at "ev"
  rw [List.map_cons,gh (τ1:=[x0,some (.sh (.int l)),some (.sh (.int x.num)),some (.sh (.int x.den))]) rfl hb,ih]
  rfl
structure Gn (D N:Nat) (r:List Rat):Prop where
 len:r.length ≤ 8
 den:∀ x ∈ r,x.den ∣ D
 num:∀ x ∈ r,x.num.natAbs ≤ N
 dp:0 < D
 db:D < B
 nb:N < B
theorem FU:2 ^ 40 * DD 6 < B:=by decide +kernel
theorem Gn.of {k m:Nat} {r:List Rat} (h:Gd k m r) (f:Lw k m):Gn (DD k) (m * DD k) r:=by
 have hd:DD k ≤ DD 6:=Nat.pow_le_pow_right (by decide) f.1
 exact ⟨h.len,fun x hx=>(h.lq x hx).bd.2,fun x hx=>(h.lq x hx).bd.1,dC k,LO (by have:=f.1; omega),Nat.lt_of_le_of_lt (Nat.mul_le_mul f.2 hd) FU⟩
def LU (ts:List T) (t:T):Prop:=∃ r D N,ts=[aq r] /\ Gn D N r /\ t=.int (aO r:Nat)
def Kh:List T -> Option T:=mk LU
theorem Cu {r r':List Rat} (e:([aq r]:List T)=[aq r']):r=r':=by
 injection e with e _
 exact oO e
theorem Jm {r:List Rat} {D N:Nat} (h1:Gn D N r):Kh [aq r]=some (.int (aO r:Nat)):=
 mk_eq ⟨r,D,N,rfl,h1,rfl⟩ fun t' ⟨r',_,_,e,_,e2⟩=>by rw [e2,Cu e]
theorem mz (ts:List T) (t:T) (h:Kh ts=some t):bX 4 1 (fM cT) ts=some t:=by
 obtain ⟨r,D,N,rfl,h1,rfl⟩:=xv h
 clear h
 obtain ⟨u,v,hl⟩:=zi h1.db h1.dp (some (.sh (aq r))) r 1 none none (Nat.one_dvd _) h1.den
 have e:bX 4 1 (fM cT) [aq r]=(((dB (cE (aM (ar 2) (aM (ar 3) cz))) oV (r.map bg) [some (.sh (aq r)),some (.sh (.int 1)),none,none]).bind fun r=>match r with | .nx τ'=>bG (af 1) τ' | r=>some r).bind fun r=>match r with | .rt t=>some t | .nx _=>some .non | _=>none):=rfl
 have hl':dB (cE (aM (ar 2) (aM (ar 3) cz))) oV (r.map bg) [some (.sh (aq r)),some (.sh (.int 1)),none,none]=_:=hl
 rw [e,hl']
 rfl
def bz (L:Nat) (x:Rat):Int:=x.num * ((L:Int).fdiv x.den)
theorem HC {L:Nat} {x:Rat} (hL:0 < L) (h:x.den ∣ L):Rat.divInt (bz L x) L=x:=by
 obtain ⟨c,hc⟩:=h
 have hc0:(c:Int) ≠ 0:=fun z=>by
  have:c=0:=by omega
  rw [this,Nat.mul_zero] at hc
  omega
 have hd:=den_pos x
 have e:(L:Int).fdiv x.den=c:=by
  rw [hc,Int.natCast_mul]
  exact Int.mul_fdiv_cancel_left _ (by omega)
 unfold bz
 rw [e,hc,Int.natCast_mul,Rat.divInt_mul_right hc0]
 exact cV x
def LS (ts:List T) (t:T):Prop:=∃ r D N,ts=[aq r,.int (aO r:Nat)] /\ Gn D N r /\ t=.lst (r.map fun x=>T.int (bz (aO r) x))
def Kg:List T -> Option T:=mk LS
theorem Jl {r:List Rat} {D N:Nat} (h1:Gn D N r):Kg [aq r,.int (aO r:Nat)]=some (.lst (r.map fun x=>T.int (bz (aO r) x))):=
 mk_eq ⟨r,D,N,rfl,h1,rfl⟩ fun t' hq__=>by
  obtain ⟨r',_,_,e,_,e2⟩:=hq__
  injection e with e3 e4
  rw [e2,oO e3]
theorem vh {D:Nat}:∀ (r:List Rat) (l:Nat),l ∣ D -> (∀ x ∈ r,x.den ∣ D) -> r.foldl (fun l x=>Nat.lcm l x.den) l ∣ D
 | [],l,h,_=>h
 | x :: r,l,h,hx=>vh r _ (Nat.lcm_dvd h (hx x List.mem_cons_self)) fun z hz=>hx z (List.mem_cons_of_mem _ hz)
theorem yO {r:List Rat} {D N:Nat} (h1:Gn D N r):aO r ∣ D /\ 0 < aO r /\ ∀ x ∈ r,x.den ∣ aO r:=by
 have h:aO r ∣ D:=vh r 1 (Nat.one_dvd _) h1.den
 exact ⟨h,Nat.pos_of_dvd_of_pos h h1.dp,fun x hx=>ym r 1 x hx⟩
theorem FJ {D N:Nat} {x:Rat} {L:Nat} (hx:x.num.natAbs ≤ N) (hp:0 < D) (hL:L ∣ D):(bz L x).natAbs ≤ N * D:=by
 have hl:L ≤ D:=Nat.le_of_dvd hp hL
 have hd:=den_pos x
 unfold bz
 rw [Int.natAbs_mul,Int.fdiv_eq_ediv_of_nonneg _ (by omega)]
 refine Nat.mul_le_mul hx ?_
 have:=Int.ediv_le_self (x.den:Int) (show (0:Int) ≤ (L:Int) by omega)
 have:=Int.ediv_nonneg (show (0:Int) ≤ (L:Int) by omega) (show (0:Int) ≤ (x.den:Int) by omega)
 omega
theorem Ax (ts:List T) (t:T) (h:Kg ts=some t):bX 2 2 uv ts=some t:=by
 obtain ⟨r,D,N,rfl,h1,rfl⟩:=xv h
 clear h
 obtain ⟨q1,q2,q3⟩:=yO h1
 have hB:=h1.db
 have hN:=h1.nb
 have hLk:aO r ≤ D:=Nat.le_of_dvd h1.dp q1
 have hc:=gp (φ:=fun x:Rat=>T.int x.num) (ψ:=fun x=>T.int x.den) (fe:=aH aV (af 0) (aH cS (af 2) (af 1))) (g:=fun x=>T.int (bz (aO r) x)) (ρ:=[some (.sh (.int (aO r:Nat)))]) rfl r none none [] (fun x hx=>by
  have hd:=den_pos x
  have hxd:x.den ≤ aO r:=Nat.le_of_dvd q2 (q3 x hx)
  have n1:¬ ((x.den:Int)=0):=by omega
  have n2:(x.den:Int).natAbs < B:=by omega
  have n3:x.num.natAbs < B:=by have:=h1.num x hx; omega
  have n4:((aO r:Nat):Int).fdiv (x.den:Int)=((aO r:Nat):Int) / (x.den:Int):=Int.fdiv_eq_ediv_of_nonneg _ (by omega)
  have n5:(((aO r:Nat):Int).fdiv (x.den:Int)).natAbs < B:=by
   rw [n4]
   have:=Int.ediv_le_self (x.den:Int) (show (0:Int) ≤ ((aO r:Nat):Int) by omega)
   have:=Int.ediv_nonneg (show (0:Int) ≤ ((aO r:Nat):Int) by omega) (show (0:Int) ≤ (x.den:Int) by omega)
   omega
  have e:bz (aO r) x=x.num * ((aO r:Nat):Int).fdiv (x.den:Int):=rfl
  rw [e]
  clear e n4 hd hxd q1 q2 q3 hB hN hLk h1 hx
  walk_at "ev") (eO h1.len)
 have e:=bH (no:=2) (cap:=[1]) (fi:=bf (af 0)) (fg:=rK) (ft:=aD) (τ:=[some (.sh (aq r)),some (.sh (.int (aO r:Nat)))]) (h1:=rfl) rfl rfl hc
 show (((cq 2 [1] _ rK aD _ [some (.sh (aq r)),some (.sh (.int (aO r:Nat)))]).bind fun p=>some (R.rt p.1)).bind _)=_
 rw [e]
 rfl
open PySem PySem.Spec PyProof.Rows L2 TM Qm Rq
def bitsQ (r:List Rat):List Int:=r.map fun x=>(Builtin.Int.intBits (x.den:Int):Int)
def longest (r:List Rat):Int:=if bitsQ r=[] then 1 else bestOf (bitsQ r)
def liftT (r:List Rat):T:=.tup [aq r,.lst (r.map fun x=>T.int (bz (aO r) x)),.int (aO r:Nat),.int (longest r)]
theorem EV {r s:List Rat} (f g:Rat -> Int):(List.zip r s).map (fun p=>f p.1 * g p.2)=List.zipWith (· * ·) (r.map f) (s.map g):=by
 rw [List.zipWith_map]
 induction r generalizing s with
 | nil=>simp
 | cons x r ih =>
  cases s with
  | nil=>simp
  | cons y s=>simp [ih]
theorem CL {M:Nat}:∀ l:List Int,(∀ n ∈ l,n.natAbs ≤ M) -> l.sum.natAbs ≤ l.length * M
 | [],_=>by simp
 | n :: l,h=>by
  rw [List.sum_cons,List.length_cons,Nat.add_mul,Nat.one_mul]
  have h1:=h n List.mem_cons_self
  have h2:=CL l fun z hz=>h z (List.mem_cons_of_mem _ hz)
  have:=Int.natAbs_add_le n l.sum
  omega
open PySem PySem.Spec PyProof.Rows L2 TM Qm Rq
theorem wK {no:Nat} {cap:List Nat} {fi:FA} {fg:FG} {ft:FT} {fe:lH} {τ τ1:aA} {ts:List T} {us:List O} (h1:fi τ=some (ts,τ1)) (h2:frzAll cap τ1=τ1) (h3:bM (bT no cap τ1)=true) (h4:gU fg ft fe ts (bT no cap τ1) []=some us):eu no cap fi fg ft fe τ=some (.lst us,τ1):=by
 unfold eu
 rw [h1,Option.bind_some]
 dsimp only
 rw [h2,if_pos h3,h4]
 rfl
theorem GI {r:List Rat} {j:Nat} (h:j < r.length):bB (aq r) (.int (j:Nat))=some (bg (r.getD j 0)):=by
 have e:(r.map bg)[j]? = some (bg (r.getD j 0)):=by
  rw [List.getElem?_map,List.getD_eq_getElem?_getD,List.getElem?_eq_getElem h]
  rfl
 exact qV e
def Wd (w:Nat) (A:List (List Rat)):Prop:=∀ r ∈ A,r.length=w
def dS (A:List (List Rat)) (w:Nat):List (List Rat):=(List.range w).map fun j=>fG A j
theorem yk {k m:Nat} {A:List (List Rat)} (h:Tb k m A) (j:Nat):Gd k m (fG A j):=by
 refine ⟨by unfold fG; rw [List.length_map]; exact h.len,fun x hx=>?_⟩
 obtain ⟨r,hr,rfl⟩:=List.mem_map.mp hx
 rw [List.getD_eq_getElem?_getD]
 cases e:r[j]? with
 | none=>exact (Lq.zero k).mono (Nat.zero_le _)
 | some y=>exact (h.row r hr).lq y (List.mem_of_getElem? e)
def LV (ts:List T) (o:O):Prop:=∃ A,∃ w:Nat,ts=[ao A,.int (w:Nat)] /\ A.length ≤ 8 /\ Wd w A /\ w ≤ 8 /\ o=qe (dS A w)
def Jp:List T -> Option O:=mk LV
theorem DH {a b:Nat} (h:T.int (a:Nat)=T.int (b:Nat)):a=b:=by
 injection h with h
 omega
theorem Jr {A:List (List Rat)} {w:Nat} (h1:A.length ≤ 8) (h2:Wd w A) (h3:w ≤ 8):Jp [ao A,.int (w:Nat)]=some (qe (dS A w)):=
 mk_eq ⟨A,w,rfl,h1,h2,h3,rfl⟩ fun t' hq__=>by
  obtain ⟨A',w',e,_,_,_,e2⟩:=hq__
  injection e with e3 e4
  injection e4 with e4 _
  rw [e2,CQ e3,DH e4]
theorem Az (ts:List T) (o:O) (h:Jp ts=some o):jc 2 2 ja ts=some o:=by
 obtain ⟨A,w,rfl,h1,h2,h3,rfl⟩:=xv h
 clear h
 have inner:∀ j:Nat,j < w -> eu 1 [0] (bf (af 1)) (ar 0) aD (kC (aH bB (af 0) (af 1))) [some (.sh (.int (j:Nat))),some (.sh (ao A))]=some (dX (fG A j),[some (.sh (.int (j:Nat))),some (.sh (ao A))]):=fun j hj=>by
  have hc:=fq (φ:=aq) (fe:=kC (aH bB (af 0) (af 1))) (g:=fun r=>O.val (bg (r.getD j 0))) (ρ:=[some (.sh (.int (j:Nat)))]) rfl A none [] (fun r hr=>by
   have e:=GI (r:=r) (j:=j) (by rw [h2 r hr]; exact hj)
   show (((bB (aq r) (.int (j:Nat))).bind fun t=>some (t,[some (Sl.sh (aq r)),some (Sl.sh (T.int (j:Nat)))])).bind fun p=>some (O.val p.1,p.2))=_
   rw [e]
   rfl) (tY h1)
  have e:=jC (no:=1) (cap:=[0]) (fi:=bf (af 1)) (fg:=ar 0) (ft:=aD) (τ:=[some (.sh (.int (j:Nat))),some (.sh (ao A))]) rfl rfl rfl hc
  rw [e]
  show some (O.lst (A.map fun r=>O.val (bg (r.getD j 0))),_)=some (O.lst (((fG A j).map bg).map O.val),_)
  unfold fG
  rw [List.map_map,List.map_map]
  rfl
 have hc:=fq (φ:=fun j:Nat=>T.int (j:Nat)) (fe:=eu 1 [0] (bf (af 1)) (ar 0) aD (kC (aH bB (af 0) (af 1)))) (g:=fun j=>dX (fG A j)) (ρ:=[some (.sh (ao A))]) rfl (List.range w) none [] (fun j hj=>inner j (List.mem_range.mp hj)) (tY (by rw [List.length_range]; exact h3))
 have e:=jC (no:=1) (cap:=[0]) (fi:=eH (aa (af 1) ai)) (fg:=ar 0) (ft:=aD) (τ:=[some (.sh (ao A)),some (.sh (.int (w:Nat)))]) (nJ (f:=af 1) rfl (by omega)) rfl rfl hc
 have e0:jc 2 2 ja [ao A,.int (w:Nat)]=ja [some (.sh (ao A)),some (.sh (.int (w:Nat)))]:=rfl
 rw [e0]
 unfold ja jN
 rw [e]
 show some (O.lst ((List.range w).map fun j=>dX (fG A j)))=some (O.lst ((dS A w).map dX))
 unfold dS
 rw [List.map_map]
 rfl
abbrev xp:List T -> Option T:=fun ts=>(Jp ts).bind fun o=>some o.tr
theorem GV {A:List (List Rat)} {w:Nat} (h1:A.length ≤ 8) (h2:Wd w A) (h3:w ≤ 8):xp [ao A,.int (w:Nat)]=some (ao (dS A w)):=by
 show (Jp _).bind _=_
 rw [Jr h1 h2 h3]
 show some (qe _).tr=_
 rw [nL]
open PySem PySem.Spec PyProof.Rows L2 TM Qm Rq
open PySem PySem.Spec PyProof.Rows L2 TM Qm Rq
mutual
theorem eqv_refl:∀ d:PyData,d.canLay0=true -> PyData.eqv d d=true
 | .none,_=>by simp [PyData.eqv]
 | .bool _,_=>by simp [PyData.eqv]
 | .int _,_=>by simp [PyData.eqv]
 | .str _,_=>by simp [PyData.eqv]
 | .list xs,h=>by
  simp only [PyData.canLay0] at h
  simp only [PyData.eqv]
  exact eqvAll_refl xs h
 | .tuple xs,h=>by
  simp only [PyData.canLay0] at h
  simp only [PyData.eqv]
  exact eqvAll_refl xs h
 | .dict _,h=>by simp [PyData.canLay0] at h
theorem eqvAll_refl:∀ ds:List PyData,PyData.canLayAll0 ds=true -> PyData.eqvAll ds ds=true
 | [],_=>by simp [PyData.eqvAll]
 | d :: ds,h=>by
  simp only [PyData.canLayAll0,Bool.and_eq_true] at h
  simp only [PyData.eqvAll,eqv_refl d h.1,eqvAll_refl ds h.2,Bool.and_self]
end
def Fz (n:Nat) (t:T):Prop:=∃ d,C4 t=some d /\ d.canLay0=true /\ d.depth ≤ n
theorem zm {n:Nat}:∀ {ts:List T},(∀ x ∈ ts,Fz n x) -> ∃ ds,pB ts=some ds /\ PyData.canLayAll0 ds=true /\ PyData.depthAll ds ≤ n
 | [],_=>⟨[],rfl,rfl,Nat.zero_le _⟩
 | t :: ts,h=>by
  obtain ⟨d,h1,h2,h3⟩:=h t List.mem_cons_self
  obtain ⟨ds,g1,g2,g3⟩:=zm fun x hx=>h x (List.mem_cons_of_mem _ hx)
  refine ⟨d :: ds,by simp only [pB,h1,g1,Option.bind_some],by simp only [PyData.canLayAll0,h2,g2,Bool.and_self],by simp only [PyData.depthAll]; omega⟩
theorem zo {n:Nat} {ts:List T} (h:∀ x ∈ ts,Fz n x):Fz (n + 1) (.lst ts):=by
 obtain ⟨ds,h1,h2,h3⟩:=zm h
 exact ⟨.list ds,by simp only [C4,h1,Option.map_some],by simp only [PyData.canLay0,h2],by simp only [PyData.depth]; omega⟩
theorem JJ (q:Rat):Fz 1 (bg q):=⟨.tuple [.int q.num,.int q.den],rfl,rfl,Nat.le_of_ble_eq_true rfl⟩
theorem tV (r:List Rat):Fz 2 (aq r):=zo fun x hx=>by
 obtain ⟨q,_,rfl⟩:=List.mem_map.mp hx
 exact JJ q
theorem tW (A:List (List Rat)):Fz 3 (ao A):=zo fun x hx=>by
 obtain ⟨q,_,rfl⟩:=List.mem_map.mp hx
 exact tV q
theorem cmp_self {neg:Bool} {t:T} {n:Nat} (h:Fz n t) (hn:n ≤ 60):zV neg t t=some (.bl (!neg)):=by
 obtain ⟨d,h1,h2,h3⟩:=h
 have hs:SeqAt.shaped d=true:=by
  unfold SeqAt.shaped
  rw [h2,Bool.true_and]
  exact decide_eq_true (by omega)
 unfold zV
 rw [h1,Option.bind_some,Option.bind_some,if_pos ⟨hs,hs⟩,eqv_refl d h2]
 cases neg <;> rfl
open PySem PySem.Spec PyProof.Rows L2 TM Qm Rq
structure LC (n:Nat) (A:List (List Rat)):Prop where
 sq:Sq n A
 n4:n ≤ 4
 lq:∀ r ∈ A,∀ x ∈ r,Lq 1 9 x
theorem LC.tb {n:Nat} {A:List (List Rat)} (h:LC n A):Tb 1 9 A:=⟨by have:=h.sq.1; have:=h.n4; omega,fun r hr=>⟨by have:=h.sq.2 r hr; have:=h.n4; omega,h.lq r hr⟩⟩
theorem yz {f:FE} {s:FS} {τ:aA} (h:f τ=some (.bl true,τ)):cn (cH (dk f)) s bQ τ=some (.nx τ):=by
 unfold cn cH dk
 rw [h]
 rfl
theorem bA {t u:FS} {τ τ':aA} (h:t τ=some (.nx τ')):aT t u τ=u τ':=by
 unfold aT
 rw [h]
 rfl
theorem eV {f:FE} {τ:aA} {t:T} (h:f τ=some (t,τ)):aa f ai τ=some ([t],τ):=by
 unfold aa
 rw [h]
 rfl
theorem dv {f g:FE} {τ:aA} {t u:T} (h:f τ=some (t,τ)) (h':g τ=some (u,τ)):aa f (aa g ai) τ=some ([t,u],τ):=by
 unfold aa
 rw [h,Option.bind_some]
 dsimp only
 rw [h']
 rfl
theorem Tb.add {k m m':Nat} {A B:List (List Rat)} (h1:Tb k m A) (h2:Tb k m' B):Tb k (m + m') (Ip A B):=by
 refine ⟨by unfold Ip; rw [List.length_map]; exact uf A B h1.len,fun r hr=>?_⟩
 obtain ⟨p,hp,rfl⟩:=List.mem_map.mp hr
 refine ⟨by unfold Io; rw [List.length_map]; exact uf _ _ (h1.row _ (cJ hp).1).len,fun x hx=>?_⟩
 obtain ⟨q,hq,rfl⟩:=List.mem_map.mp hx
 exact ((h1.row _ (cJ hp).1).lq _ (cJ hq).1).add ((h2.row _ (cJ hp).2).lq _ (cJ hq).2)
theorem Tb.scale {k m k' m':Nat} {b:Rat} {A:List (List Rat)} (h1:Lq k m b) (h2:Tb k' m' A):Tb (k + k') (m * m') (Js b A):=by
 refine ⟨by unfold Js; rw [List.length_map]; exact h2.len,fun r hr=>?_⟩
 obtain ⟨p,hp,rfl⟩:=List.mem_map.mp hr
 refine ⟨by unfold mulR; rw [List.length_map]; exact (h2.row p hp).len,fun x hx=>?_⟩
 obtain ⟨q,hq,rfl⟩:=List.mem_map.mp hx
 exact h1.mul ((h2.row p hp).lq q hq)
theorem Tb.turn {k m w:Nat} {A:List (List Rat)} (h:Tb k m A) (hw:w ≤ 8):Tb k m (dS A w):=by
 refine ⟨by unfold dS; rw [List.length_map,List.length_range]; exact hw,fun r hr=>?_⟩
 obtain ⟨j,_,rfl⟩:=List.mem_map.mp hr
 exact yk h j
theorem Tb.mul {k m k' m' w:Nat} {A B:List (List Rat)} (h1:Tb k m A) (h2:Tb k' m' B) (hw:w ≤ 8):Tb (k + k') (8 * (m * m')) (mulM A B w):=by
 refine ⟨by unfold mulM; rw [List.length_map]; exact h1.len,fun r hr=>?_⟩
 obtain ⟨p,hp,rfl⟩:=List.mem_map.mp hr
 refine ⟨by rw [vK]; exact hw,fun x hx=>?_⟩
 obtain ⟨j,_,rfl⟩:=List.mem_map.mp hx
 exact (zF (h1.row p hp).lq (yk h2 j).lq).mono (Nat.mul_le_mul_right _ (h1.row p hp).len)
open PySem PySem.Spec PyProof.Rows L2 TM Qm Rq
structure Dr (w:Nat) (A:List (List Rat)):Prop where
 len:A.length ≤ 4
 wd:Wd w A
 w4:w ≤ 4
 lq:∀ r ∈ A,∀ x ∈ r,Lq 1 9 x
theorem Dr.tb {w:Nat} {A:List (List Rat)} (h:Dr w A):Tb 1 9 A:=⟨by have:=h.len; omega,fun r hr=>⟨by have:=h.wd r hr; have:=h.w4; omega,h.lq r hr⟩⟩
theorem uJ {fi:FA} {fg:FG} {fb:FS} {τ:aA} {ts:List T} {r:R} (h1:fi τ=some (ts,τ)) (h2:dB fg fb ts τ=some r):jU fi fg fb τ=some r:=by
 unfold jU
 rw [h1,Option.bind_some]
 exact h2
theorem eY {f:FE} {τ τ':aA} {t:T} (h:f τ=some (t,τ')):bG f τ=some (.rt t):=by
 unfold bG
 rw [h]
 rfl
open PySem PySem.Spec PyProof.Rows L2 TM Qm Rq
theorem gF {f g i:FE} {τ:aA} {t u v:T} (h:f τ=some (t,τ)) (h':g τ=some (u,τ)) (h'':i τ=some (v,τ)):aa f (aa g (aa i ai)) τ=some ([t,u,v],τ):=by
 have e:=dv h' h''
 generalize hg:aa g (aa i ai)=G at *
 unfold aa
 rw [h,Option.bind_some]
 dsimp only
 rw [e]
 rfl
theorem dc {i:Nat} {f:FE} {τ τ1 τ2:aA} {t:T} (h:f τ=some (t,τ1)) (h2:bo i (fC t) τ1=some (.nx τ2)):bo i f τ=some (.nx τ2):=by
 unfold bo at *
 rw [h]
 exact h2
open PySem PySem.Spec PyProof.Rows L2 TM Qm Rq
theorem BG {L:List T} {i:Int} (h0:0 ≤ i) (h1:i < (L.length:Int)):∃ t,bB (.lst L) (.int i)=some t /\ t ∈ L:=by
 obtain ⟨j,rfl⟩:=Int.eq_ofNat_of_zero_le h0
 have hj:j < L.length:=by omega
 exact ⟨L[j],qV (List.getElem?_eq_getElem hj),List.getElem_mem hj⟩
theorem cX {i:Int} (h1 : -1000000 ≤ i) (h2:i ≤ 1000000):i.natAbs < B:=by
 have:=Ir
 omega
theorem ET (a:Int):T.tup [.int a,.int 1]=bg (Rat.divInt a 1):=by
 have e:=Rat.divInt_ofNat a 1
 rw [show ((1:Nat):Int)=1 from rfl] at e
 rw [e,Rat.mkRat_one]
 rfl
def drawn (d:Int):Rat:=Rat.divInt (d.fmod 19 - 9) (1 + d.fdiv 19)
open PySem PySem.Spec PyProof.Rows L2 TM Qm Rq
theorem uG {i no:Nat} {cap:List Nat} {fi:FA} {fg:FG} {ft:FT} {fe:FE} {τ:aA} {ts us:List T} (h1:fi τ=some (ts,τ)) (h2:frzAll cap τ=τ) (h3:bM (bT no cap τ)=true) (h4:gm fg ft fe ts (bT no cap τ) []=some us):fH i no cap fi fg ft fe τ=some (.nx (τ.set i (some (.own us)))):=by
 unfold fH
 rw [h1,Option.bind_some]
 dsimp only
 rw [h2,if_pos h3,h4]
 rfl
theorem yT {f:FE} {τ:aA} (h:f τ=some (.bl true,τ)):cH (dk f) τ=some (false,τ):=by
 unfold cH dk
 rw [h]
 rfl
open PySem PySem.Spec PyProof.Rows L2 TM Qm Rq
def LL (M:Nat) (x:Dt.Row):Prop:=∀ j,(x j).natAbs ≤ M
theorem dq {m n:Nat} {fb:FS} {ts:List T} {t:T} (hl:ts.length=n) (h:fb (ts.map (fun t=>some (Sl.sh t)) ++ List.replicate (m - n) none)=some (.rt t)):bX m n fb ts=some t:=by
 unfold bX
 rw [if_pos hl,h]
 rfl
theorem iQ {α β γ:Type} (f:α -> β -> γ):∀ (r:List α) (s:List β),(List.zip r s).map (fun p=>f p.1 p.2)=List.zipWith f r s
 | [],_=>by simp
 | _ :: _,[]=>by simp
 | a :: r,b :: s=>by simp [iQ f r s]
open PySem PySem.Spec PyProof.Rows L2 TM Qm Rq
theorem Fd {i:Nat} {f:FE} {τ:aA} {ts:List T} {t:T} (h:τ[i]? = some (some (.own ts))) (hf:f τ=some (t,τ)) (hl:ts.length < sizeLine):mS i f τ=some (.nx (τ.set i (some (.own (ts ++ [t]))))):=by
 unfold mS
 rw [h]
 dsimp only
 rw [hf,Option.bind_some]
 dsimp only
 rw [h]
 dsimp only
 rw [if_pos hl]
structure LN (M L:Nat) (R:List Dt.Row) (ps:List Nat) (ks:List (Nat × List Int)):Prop where
 fw:Dt.Fw L [] [] ks R ps
 bd:∀ y ∈ R,LL M y
 lr:R.length ≤ 5
 lp:ps.length ≤ 5
open PySem PySem.Spec PyProof.Rows L2 TM Qm Rq
theorem yH {L:List T} {t:T}:bB (.lst (L ++ [t])) (.int (-1))=some t:=by
 show ng (L ++ [t]) (-1)=_
 unfold ng yF
 rw [if_neg (by decide),List.length_append,List.length_cons,List.length_nil]
 rw [if_pos (by omega)]
 rw [Option.bind_some,show (-1:Int) + ((L.length + (0 + 1):Nat):Int)=(L.length:Nat) by omega,Int.toNat_natCast,List.getElem?_append_right (Nat.le_refl _),Nat.sub_self]
 rfl
def Ls (r:List Rat):List Int:=r.map (bz (aO r))
theorem Dh {g:List T -> Option T} {f:FA} {ρ ρ':aA} {t:T} (ts:List T) (h1:f ρ=some (ts,ρ')) (h2:g ts=some t):aj g f ρ=some (t,ρ'):=by
 unfold aj
 rw [h1,Option.bind_some,h2]
 rfl
theorem oa {f:FE} {g:FA} {τ τ1 τ2:aA} {t:T} {ts:List T} (h1:f τ=some (t,τ1)) (h2:g τ1=some (ts,τ2)):aa f g τ=some (t :: ts,τ2):=by
 unfold aa
 rw [h1,Option.bind_some,h2]
 rfl
theorem br {g:T -> T -> Option T} {fa fb:FE} {τ:aA} {a b t:T} (h1:fa τ=some (a,τ)) (h2:fb τ=some (b,τ)) (h:g a b=some t):aH g fa fb τ=some (t,τ):=by
 unfold aH
 rw [h1,Option.bind_some,h2,Option.bind_some]
 show (g a b).bind _=_
 rw [h]
 rfl
theorem len_tab (A:List (List Rat)):cm [ao A]=some (.int (A.length:Nat)):=by
 show some (T.int ((A.map aq).length:Nat))=_
 rw [List.length_map]
theorem K1 {f g:FE} {τ:aA} {a b:Nat} (h1:f τ=some (.int (a:Nat),τ)) (h2:g τ=some (.int (b:Nat),τ)):eG (aH HS f g) τ=some (decide (a < b),τ):=by
 unfold eG aH
 rw [h1,Option.bind_some]
 dsimp only
 rw [h2,Option.bind_some]
 show some (decide ((a:Int) < (b:Int)),τ)=_
 congr 2
 simp only [Int.ofNat_lt]
theorem GK {A:List (List Rat)} {i:Nat} (h:i < A.length):bB (ao A) (.int (i:Nat))=some (aq (A.getD i [])):=by
 show ng (A.map aq) (i:Int)=_
 unfold ng yF
 rw [if_pos (by omega),List.length_map,if_pos (by omega),Option.bind_some,Int.toNat_natCast,List.getElem?_map,List.getElem?_eq_getElem h,List.getD_eq_getElem?_getD,List.getElem?_eq_getElem h]
 rfl
theorem zZ {l:List Rat} {c:Nat} (h:c < l.length):l.getD c 0 ∈ l:=by
 rw [List.getD_eq_getElem?_getD,List.getElem?_eq_getElem h]
 exact List.getElem_mem h
theorem Bd {N d:Int} (hd:¬ d=0) (bd:d.natAbs < B):cS (.int N) (.int d)=some (.int (N.fdiv d)):=if_pos ⟨hd,bd⟩
theorem oC {a b:Int} (h1:a.natAbs < B) (h2:b.natAbs < B):aV (.int a) (.int b)=some (.int (a * b)):=if_pos ⟨h1,h2⟩
def J0 (m i:Nat) (low:Nat):List Int:=(List.range m).map fun o=>if o=i then (low:Int) else 0
def HD (m i:Nat) (r:List Rat):List Int:=Ls r ++ J0 m i (aO r)
def AK (A:List (List Rat)):List (List Int):=(List.range A.length).map fun i=>HD A.length i (A.getD i [])
theorem me {f:FE} {τ:aA} {k:Int} (h:f τ=some (.int k,τ)):eE f τ=some (some k,τ):=by
 unfold eE
 rw [h]
 rfl
theorem CF {f:FE} {fl fh:FO} {τ:aA} {a t:T} {lo hi:Option Int} (h:f τ=some (a,τ)) (h1:fl τ=some (lo,τ)) (h2:fh τ=some (hi,τ)) (h3:HU a lo hi=some t):uH f fl fh τ=some (t,τ):=by
 unfold uH
 rw [h,Option.bind_some]
 dsimp only
 rw [h1,Option.bind_some]
 dsimp only
 rw [h2,Option.bind_some]
 dsimp only
 rw [h3]
 rfl
theorem wF {a b:Int} (hb:b ≠ 0):(Rat.divInt a b).den ∣ b.natAbs:=by
 rw [Rat.den_divInt,if_neg hb]
 exact Nat.div_dvd_of_dvd (by
  have:=Int.natAbs_dvd_natAbs.mpr (Int.gcd_dvd_left b a)
  rwa [Int.natAbs_natCast] at this)
theorem wG {a b:Int} (hb:b ≠ 0):(Rat.divInt a b).num.natAbs ≤ a.natAbs:=by
 rw [Rat.num_divInt]
 have h1:((Int.gcd b a:Nat):Int) ∣ b.sign * a:=Int.dvd_mul_of_dvd_right (Int.gcd_dvd_right _ _)
 rw [Int.natAbs_ediv_of_dvd h1,Int.natAbs_mul]
 have h2:b.sign.natAbs=1:=by
  rcases Int.lt_or_gt_of_ne hb with h | h
  ·rw [Int.sign_eq_neg_one_of_neg h]; rfl
  ·rw [Int.sign_eq_one_of_pos h]; rfl
 rw [h2,Nat.one_mul]
 exact Nat.div_le_self _ _
theorem tU {t:FS} {u:wa} {τ τ':aA} (h:t τ=some (.nx τ')):iN t u τ=u τ':=by
 unfold iN
 rw [h]
 rfl
theorem oB {N d:Int} (hd:¬ d=0):cu (.int N) (.int d)=some (.int (N.fmod d)):=if_pos hd
theorem DJ {i:Nat} {f:FE} {τ:aA} {us:List T} {k t:T} (h:τ[i]? = some (some (.own us))) (hf:f τ=some (k,τ)) (hx:bB (.lst us) k=some t):jV i f τ=some (t,τ):=by
 unfold jV
 rw [h]
 dsimp only
 rw [hf,Option.bind_some]
 dsimp only
 rw [h]
 dsimp only
 rw [hx]
 rfl
structure Bw (w M:Nat) (A:List (List Rat)):Prop where
 wd:∀ r ∈ A,r.length=w
 lq:∀ r ∈ A,∀ x ∈ r,Lq 1 M x
theorem B9 {f:FE} {c:FT} {s:FS} {τ τ' τ'':aA} (h1:f τ=some (.bl true,τ')) (h2:c τ'=some (false,τ'')):cn (lT (cH (dk f)) c) s bQ τ=some (.nx τ''):=by
 have e:cH (dk f) τ=some (false,τ'):=by
  unfold cH dk
  rw [h1]
  rfl
 unfold cn lT
 rw [e,Option.bind_some]
 dsimp only
 rw [if_neg (by decide),h2]
 rfl
theorem kL {c:FT} {s:FS} {τ τ':aA} (h:c τ=some (false,τ')):cn c s bQ τ=some (.nx τ'):=by
 unfold cn
 rw [h]
 rfl
theorem iq:∀ ts:List T,O.trs (ts.map O.val)=ts
 | []=>rfl
 | t :: ts=>by rw [List.map_cons,O.trs,iq ts]; rfl
open PySem PySem.Spec PyProof.Rows L2 TM Qm Rq
def Tr (w m:Nat) (Jq:Nat -> Nat -> Rat) (x:Dt.Row):Prop:=∀ j < w + 1,((x j:Int):Rat)=Dq.sm (List.range m) fun k=>((x (w + 1 + k):Int):Rat) * Jq k j
theorem Tr.sp {w m:Nat} {Jq:Nat -> Nat -> Rat}:∀ {W:List Dt.Row} {x:Dt.Row},Dt.Sp W x -> (∀ y ∈ W,Tr w m Jq y) -> Tr w m Jq x
 | _,_,.nil h,_=>fun j _=>by
  rw [h j,Dq.pf (g:=fun _=>0) fun k _=>by rw [h]; exact Rat.zero_mul _,Dq.zr]
  rfl
 | _,_,.cons (w:=v) (y:=y) a h hy,hw=>fun j hj=>by
  have h1:=hw v List.mem_cons_self j hj
  have h2:=Tr.sp hy (fun z hz=>hw z (List.mem_cons_of_mem _ hz)) j hj
  have e3:(Dq.sm (List.range m) fun k=>((a:Int):Rat) * (((v (w + 1 + k):Int):Rat) * Jq k j) + 1 * (((y (w + 1 + k):Int):Rat) * Jq k j))=((a:Int):Rat) * (Dq.sm (List.range m) fun k=>((v (w + 1 + k):Int):Rat) * Jq k j) + 1 * (Dq.sm (List.range m) fun k=>((y (w + 1 + k):Int):Rat) * Jq k j):=Dq.CH _ _ _ _ _
  rw [Rat.one_mul,<- h1,<- h2] at e3
  rw [h j,Rat.intCast_add,Rat.intCast_mul,<- e3]
  refine Dq.pf fun k _=>?_
  rw [h,Rat.intCast_add,Rat.intCast_mul]
  grind
open PySem PySem.Spec PyProof.Rows L2 TM Qm Rq
open PySem PySem.Spec PyProof.Rows L2 TM Qm Rq
def Ov (D N:Nat) (q:Rat):Prop:=∃ a:Int,q=Rat.divInt a (D:Int) /\ a.natAbs ≤ N
theorem Ov.zero (D:Nat):Ov D 0 0:=⟨0,by rw [Rat.zero_divInt],by simp⟩
theorem Ov.mono {D N N':Nat} {q:Rat} (h:Ov D N q) (hn:N ≤ N'):Ov D N' q:=by
 obtain ⟨a,h1,h2⟩:=h
 exact ⟨a,h1,Nat.le_trans h2 hn⟩
theorem Ov.add {D N N':Nat} (hD:0 < D) {x y:Rat} (h:Ov D N x) (h':Ov D N' y):Ov D (N + N') (x + y):=by
 obtain ⟨a,rfl,ha⟩:=h
 obtain ⟨b,rfl,hb⟩:=h'
 have hd:(D:Int) ≠ 0:=by omega
 refine ⟨a + b,?_,by have:=Int.natAbs_add_le a b; omega⟩
 rw [Rat.divInt_add_divInt _ _ hd hd,<- Int.add_mul,Rat.divInt_mul_right hd]
theorem Ov.mul {D D' N N':Nat} {x y:Rat} (h:Ov D N x) (h':Ov D' N' y):Ov (D * D') (N * N') (x * y):=by
 obtain ⟨a,rfl,ha⟩:=h
 obtain ⟨b,rfl,hb⟩:=h'
 refine ⟨a * b,?_,by rw [Int.natAbs_mul]; exact Nat.mul_le_mul ha hb⟩
 rw [Rat.divInt_mul_divInt,Int.natCast_mul]
theorem Ov.num {D N:Nat} (hD:0 < D) {q:Rat} (h:Ov D N q):q.num.natAbs ≤ N:=by
 obtain ⟨a,rfl,ha⟩:=h
 exact Nat.le_trans (wG (by omega)) ha
theorem Ov.den {D N:Nat} (hD:0 < D) {q:Rat} (h:Ov D N q):q.den ∣ D:=by
 obtain ⟨a,rfl,ha⟩:=h
 have:=wF (a:=a) (b:=(D:Int)) (by omega)
 rw [Int.natAbs_natCast] at this
 exact this
theorem Ov.sm {D N:Nat} (hD:0 < D) (hd:D < C) (hn:N < C) {q:Rat} (h:Ov D N q):Sm q:=⟨Nat.lt_of_le_of_lt (h.num hD) hn,Nat.lt_of_le_of_lt (Nat.le_of_dvd hD (h.den hD)) hd⟩
theorem Ov.lq {k m:Nat} {q:Rat} (h:Lq k m q):Ov (DD k) (m * DD k) q:=h
structure Gv (D N:Nat) (r:List Rat):Prop where
 len:r.length ≤ 8
 ov:∀ x ∈ r,Ov D N x
 dp:0 < D
 db:D < C
 nb:N < C
theorem Gv.gn {D N:Nat} {r:List Rat} (h:Gv D N r):Gn D N r:=⟨h.len,fun x hx=>(h.ov x hx).den h.dp,fun x hx=>(h.ov x hx).num h.dp,h.dp,Nat.lt_trans h.db CB,Nat.lt_trans h.nb CB⟩
theorem Gv.sm {D N:Nat} {r:List Rat} (h:Gv D N r) {x:Rat} (hx:x ∈ r):Sm x:=(h.ov x hx).sm h.dp h.db h.nb
structure yd (D N D' N':Nat):Prop where
 dd:D * D' < C
 nn:8 * (N * N') < C
def pF (P:List T -> Option T):FS:=bo 2 (aj P (aa (af 2) (aa (aj Jn (aa (af 3) (aa (af 4) ai))) ai)))
theorem vY {P:List T -> Option T} (hP:∀ x y:Rat,Sm x -> Sm y -> P [bg x,bg y]=some (bg (x + y))) {D N D' N':Nat} (hD:0 < D) (hD':0 < D') (hd:D < C) (hn:N < C) (hd':D' < C) (hn':N' < C) (hdd:D * D' < C) (x0 x1:Option Sl):∀ (r s:List Rat) (a:Rat) (M:Nat) (u v:Option Sl),(∀ x ∈ r,Ov D N x) -> (∀ y ∈ s,Ov D' N' y) -> Ov (D * D') M a -> M + r.length * (N * N') < C ->
  ∃ u' v',dB (cE (aM (ar 3) (aM (ar 4) cz))) (pF P) ((List.zip r s).map fun p=>T.tup [bg p.1,bg p.2]) [x0,x1,some (.sh (bg a)),u,v]=some (.nx [x0,x1,some (.sh (bg (a + wsum r s))),u',v'])
 | [],s,a,M,u,v,_,_,_,_=>⟨u,v,by rw [dF,Rat.add_zero]; simp [dB]⟩
 | x :: r,[],a,M,u,v,_,_,_,_=>⟨u,v,by
   have z:wsum (x :: r) []=0:=by unfold wsum; rw [List.zipWith_nil_right]; rfl
   rw [z,Rat.add_zero]; simp [dB]⟩
 | x :: r,y :: s,a,M,u,v,h1,h2,h3,h4=>by
  have hx:=h1 x List.mem_cons_self
  have hy:=h2 y List.mem_cons_self
  have lx:=hx.mul hy
  have hp:=Nat.mul_pos hD hD'
  have la:=h3.add hp lx
  rw [List.length_cons,Nat.add_mul,Nat.one_mul] at h4
  obtain ⟨u',v',ih⟩:=vY hP hD hD' hd hn hd' hn' hdd x0 x1 r s (a + x * y) (M + N * N') (some (.sh (bg x))) (some (.sh (bg y))) (fun z hz=>h1 z (List.mem_cons_of_mem _ hz)) (fun z hz=>h2 z (List.mem_cons_of_mem _ hz)) la (by omega)
  refine ⟨u',v',?_⟩
  have k1:=Jo (hx.sm hD hd hn) (hy.sm hD' hd' hn')
  have k2:=hP _ _ (h3.sm hp hdd (by omega)) (lx.sm hp hdd (by omega))
  have hb:(pF P) [x0,x1,some (.sh (bg a)),some (.sh (bg x)),some (.sh (bg y))]=some (.nx [x0,x1,some (.sh (bg (a + x * y))),some (.sh (bg x)),some (.sh (bg y))]):=by
   clear hP ih h1 h2 h3 h4 hx hy lx la hD hD' hd hn hd' hn' hdd hp
   unfold pF
   walk_at "ev"
  rw [List.zip_cons_cons,List.map_cons,gh (τ1:=[x0,x1,some (.sh (bg a)),some (.sh (bg x)),some (.sh (bg y))]) rfl hb,ih,bE,Rat.add_assoc]
theorem nM {D N D' N':Nat} (hD:0 < D) (hD':0 < D'):∀ {r s:List Rat},(∀ x ∈ r,Ov D N x) -> (∀ y ∈ s,Ov D' N' y) -> Ov (D * D') (r.length * (N * N')) (wsum r s)
 | [],s,_,_=>by rw [dF]; exact (Ov.zero _).mono (Nat.zero_le _)
 | x :: r,[],_,_=>by
  have z:wsum (x :: r) []=0:=by unfold wsum; rw [List.zipWith_nil_right]; rfl
  rw [z]; exact (Ov.zero _).mono (Nat.zero_le _)
 | x :: r,y :: s,h1,h2=>by
  rw [bE,List.length_cons,Nat.add_mul,Nat.one_mul,Nat.add_comm]
  exact ((h1 x List.mem_cons_self).mul (h2 y List.mem_cons_self)).add (Nat.mul_pos hD hD') (nM hD hD' (fun z hz=>h1 z (List.mem_cons_of_mem _ hz)) (fun z hz=>h2 z (List.mem_cons_of_mem _ hz)))
theorem HI {P:List T -> Option T} (hP:∀ x y:Rat,Sm x -> Sm y -> P [bg x,bg y]=some (bg (x + y))) {D N D' N':Nat} {r s:List Rat} (h1:Gv D N r) (h2:Gv D' N' s) (f:yd D N D' N') :
  ∃ u v,jU (eX (aa (af 0) (aa (af 1) ai))) (cE (aM (ar 3) (aM (ar 4) cz))) (pF P) [some (.sh (aq r)),some (.sh (aq s)),some (.sh (bg 0)),none,none]=some (.nx [some (.sh (aq r)),some (.sh (aq s)),some (.sh (bg (wsum r s))),u,v]):=by
 have hm:=Nat.mul_le_mul_right (N * N') h1.len
 obtain ⟨u,v,hl⟩:=vY hP h1.dp h2.dp h1.db h1.nb h2.db h2.nb f.dd (some (.sh (aq r))) (some (.sh (aq s))) r s 0 0 none none h1.ov h2.ov (Ov.zero _) (by have:=f.nn; omega)
 rw [Rat.zero_add] at hl
 have hi:eX (aa (af 0) (aa (af 1) ai)) [some (.sh (aq r)),some (.sh (aq s)),some (.sh (bg 0)),none,none]=some ((List.zip r s).map fun p=>T.tup [bg p.1,bg p.2],[some (.sh (aq r)),some (.sh (aq s)),some (.sh (bg 0)),none,none]):=by
  rw [<- jy]
  rfl
 exact ⟨u,v,uJ hi hl⟩
abbrev Kb:List T -> Option T:=bX 5 2 (qg Jn DS)
theorem IS {D N D' N':Nat} {r s:List Rat} (h1:Gv D N r) (h2:Gv D' N' s) (f:yd D N D' N'):Kb [aq r,aq s]=some (bg (wsum r s)):=by
 obtain ⟨u,v,hl⟩:=HI (P:=DS) (fun _ _=>Ft) h1 h2 f
 refine dq rfl ?_
 show aT (bo 2 (fC (.tup [.int 0,.int 1]))) (aT (jU (eX (aa (af 0) (aa (af 1) ai))) (cE (aM (ar 3) (aM (ar 4) cz))) (pF DS)) (bG (af 2))) [some (.sh (aq r)),some (.sh (aq s)),none,none,none]=_
 rw [bA (τ':=[some (.sh (aq r)),some (.sh (aq s)),some (.sh (bg 0)),none,none]) rfl,bA hl]
 rfl
theorem qB {r:List Rat} {D N:Nat} (h:Gv D N r):0 ≤ longest r /\ longest r ≤ 4000:=by
 have hb:∀ n ∈ bitsQ r,0 ≤ n /\ n ≤ 4000:=fun n hn=>by
  obtain ⟨x,hx,rfl⟩:=List.mem_map.mp hn
  have h1:(x.den:Int).natAbs < B:=by have:=(h.sm hx).d; have:=CB; omega
  have:=wu h1
  omega
 unfold longest
 split
 ·omega
 ·unfold bestOf
  rw [List.getD_eq_getElem?_getD]
  cases e:(bitsQ r)[argBest (fun i j=>decide ((bitsQ r).getD i 0 > (bitsQ r).getD j 0)) ((bitsQ r).length - 1)]? with
  | none=>show (0:Int) ≤ 0 /\ (0:Int) ≤ 4000; omega
  | some n=>exact hb n (List.mem_of_getElem? e)
abbrev A8:List T -> Option T:=bX 2 1 (nY Kh Kg)
theorem Fh {r:List Rat} {D N:Nat} (h1:Gv D N r):A8 [aq r]=some (liftT r):=by
 have k1:=Jm h1.gn
 have k2:=Jl h1.gn
 have hc:=gp (φ:=fun x:Rat=>T.int x.num) (ψ:=fun x=>T.int x.den) (fe:=mT iO (af 1)) (g:=fun x=>T.int (Builtin.Int.intBits (x.den:Int):Int)) (ρ:=[]) rfl r none none [] (fun x hx=>rfl) (eO h1.len)
 have e:=bH (no:=2) (cap:=[]) (fi:=bf (af 0)) (fg:=rK) (ft:=aD) (τ:=[some (.sh (aq r)),some (.sh (.int (aO r:Nat)))]) (h1:=rfl) rfl rfl hc
 rw [List.nil_append] at e
 have e2:(r.map fun x:Rat=>T.int (Builtin.Int.intBits (x.den:Int):Int))=(bitsQ r).map T.int:=by unfold bitsQ; rw [List.map_map]; rfl
 rw [e2] at e
 have e3:yy (.lst ((bitsQ r).map T.int)) (.int 1)=some (.int (longest r)):=by
  show ((intsOf ((bitsQ r).map T.int)).bind fun ns=>some (T.int (if ns=[] then 1 else bestOf ns)))=_
  rw [jX]
  rfl
 have l4:=KZ
 clear h1 hc e2
 unfold A8 bX nY liftT
 walk_at "ev"
theorem pC {r:List Rat} {D N:Nat} (h:Gn D N r):(r.map (bz (aO r))).map (fun n=>Rat.divInt n (aO r:Nat))=r:=by
 obtain ⟨q1,q2,q3⟩:=yO h
 rw [List.map_map]
 have:r.map ((fun n=>Rat.divInt n (aO r:Nat)) ∘ bz (aO r))=r.map id:=List.map_congr_left fun x hx=>HC q2 (q3 x hx)
 rw [this,List.map_id]
theorem LM:C * C * C < B:=by decide +kernel
abbrev CZ:List T -> Option T:=bX 10 2 (fm Kb vm)
set_option maxHeartbeats 1000000 in
theorem IT {D N D' N':Nat} {r s:List Rat} (h1:Gv D N r) (h2:Gv D' N' s) (f:yd D N D' N'):CZ [liftT r,liftT s]=some (bg (wsum r s)):=by
 obtain ⟨q1,q2,q3⟩:=yO h1.gn
 obtain ⟨p1,p2,p3⟩:=yO h2.gn
 have kW:=IS h1 h2 f
 have bl:=qB h1
 have bl':=qB h2
 have hL:aO r ≤ D:=Nat.le_of_dvd h1.dp q1
 have hL':aO s ≤ D':=Nat.le_of_dvd h2.dp p1
 have cc:=LM
 have hcc:C ≤ C * C:=Nat.le_mul_of_pos_left C EX
 have hccc:C * C ≤ C * C * C:=Nat.le_mul_of_pos_right _ EX
 have t1:∀ x ∈ r,(bz (aO r) x).natAbs ≤ N * D:=fun x hx=>FJ ((h1.ov x hx).num h1.dp) h1.dp q1
 have t2:∀ x ∈ s,(bz (aO s) x).natAbs ≤ N' * D':=fun x hx=>FJ ((h2.ov x hx).num h2.dp) h2.dp p1
 have hND:N * D < B:=by
  have:=Nat.mul_le_mul (Nat.le_of_lt h1.nb) (Nat.le_of_lt h1.db)
  omega
 have hND':N' * D' < B:=by
  have:=Nat.mul_le_mul (Nat.le_of_lt h2.nb) (Nat.le_of_lt h2.db)
  omega
 have hc:=gp (φ:=fun p:Rat × Rat=>T.int (bz (aO r) p.1)) (ψ:=fun p=>T.int (bz (aO s) p.2)) (fe:=aH aV (af 0) (af 1)) (g:=fun p=>T.int (bz (aO r) p.1 * bz (aO s) p.2)) (ρ:=[]) rfl (List.zip r s) none none [] (fun p hp=>by
  have a1:=t1 _ (cJ hp).1
  have a2:=t2 _ (cJ hp).2
  exact br rfl rfl (oC (by omega) (by omega))) (eO (uf r s h1.len))
 rw [List.nil_append] at hc
 have hsum:(List.zip r s).map (fun p=>bz (aO r) p.1 * bz (aO s) p.2)=List.zipWith (· * ·) (r.map (bz (aO r))) (s.map (bz (aO s))):=EV _ _
 have hlst:((List.zip r s).map fun p:Rat × Rat=>T.int (bz (aO r) p.1 * bz (aO s) p.2))=(List.zipWith (· * ·) (r.map (bz (aO r))) (s.map (bz (aO s)))).map T.int:=by rw [<- hsum,List.map_map]; rfl
 rw [hlst] at hc
 have hbs:(List.zipWith (· * ·) (r.map (bz (aO r))) (s.map (bz (aO s)))).sum.natAbs < B:=by
  have hM:∀ n ∈ List.zipWith (· * ·) (r.map (bz (aO r))) (s.map (bz (aO s))),n.natAbs ≤ (N * D) * (N' * D'):=fun n hn=>by
   rw [<- hsum] at hn
   obtain ⟨p,hp,rfl⟩:=List.mem_map.mp hn
   rw [Int.natAbs_mul]
   exact Nat.mul_le_mul (t1 _ (cJ hp).1) (t2 _ (cJ hp).2)
  have h3:=CL _ hM
  have h4:(List.zipWith (· * ·) (r.map (bz (aO r))) (s.map (bz (aO s)))).length ≤ 8:=by
   rw [List.length_zipWith,List.length_map]
   have:=h1.len
   omega
  have h5:=Nat.mul_le_mul_right ((N * D) * (N' * D')) h4
  have h6:8 * ((N * D) * (N' * D'))=(8 * (N * N')) * (D * D'):=by rw [Nat.mul_mul_mul_comm N D N' D']; exact (Nat.mul_assoc 8 (N * N') (D * D')).symm
  have h7:=Nat.mul_le_mul (Nat.le_of_lt f.nn) (Nat.le_of_lt f.dd)
  omega
 have hbl:(((aO r:Nat):Int) * ((aO s:Nat):Int)).natAbs < B:=by
  rw [Int.natAbs_mul,Int.natAbs_natCast,Int.natAbs_natCast]
  have:=Nat.mul_le_mul hL hL'
  have:=f.dd
  omega
 have hpos:(0:Int) < ((aO r:Nat):Int) * ((aO s:Nat):Int):=Int.mul_pos (by omega) (by omega)
 have kF:=BU hbs hbl (Int.ne_of_gt hpos)
 rw [nq hpos,<- qN (by omega) (by omega),pC h1.gn,pC h2.gn] at kF
 have hi:eX (aa (af 3) (aa (af 7) ai)) [some (.sh (liftT r)),some (.sh (liftT s)),some (.sh (aq r)),some (.sh (.lst (r.map fun x=>T.int (bz (aO r) x)))),some (.sh (.int (aO r:Nat))),some (.sh (.int (longest r))),some (.sh (aq s)),some (.sh (.lst (s.map fun x=>T.int (bz (aO s) x)))),some (.sh (.int (aO s:Nat))),some (.sh (.int (longest s)))]
   = some ((List.zip r s).map fun p=>T.tup [T.int (bz (aO r) p.1),T.int (bz (aO s) p.2)],[some (.sh (liftT r)),some (.sh (liftT s)),some (.sh (aq r)),some (.sh (.lst (r.map fun x=>T.int (bz (aO r) x)))),some (.sh (.int (aO r:Nat))),some (.sh (.int (longest r))),some (.sh (aq s)),some (.sh (.lst (s.map fun x=>T.int (bz (aO s) x)))),some (.sh (.int (aO s:Nat))),some (.sh (.int (longest s)))]):=by
  have z:=jy (fun x:Rat=>T.int (bz (aO r) x)) (fun x:Rat=>T.int (bz (aO s) x)) r s
  rw [<- z]
  rfl
 have e:=bH (no:=2) (cap:=[]) (fg:=rK) (ft:=aD) hi rfl rfl hc
 have eS:Ds [.lst ((List.zipWith (· * ·) (r.map (bz (aO r))) (s.map (bz (aO s)))).map T.int)]=some (.int (List.zipWith (· * ·) (r.map (bz (aO r))) (s.map (bz (aO s)))).sum):=by
  show ((intsOf _).bind fun ns=>some (T.int ns.sum))=_
  rw [jX]
  rfl
 have b4:(4:Int).natAbs < B:=by decide +kernel
 have bL:(longest r + longest s).natAbs < B:=by
  have:(8000:Nat) < B:=by decide +kernel
  omega
 have c1:((aO r:Nat):Int).natAbs < B:=by have:=h1.db; have:=CB; omega
 have c2:((aO s:Nat):Int).natAbs < B:=by have:=h2.db; have:=CB; omega
 have hgt:∃ b,zX (.int ((Builtin.Int.intBits ((aO r:Nat):Int):Int) + (Builtin.Int.intBits ((aO s:Nat):Int):Int))) (.int (4 * (longest r + longest s) + 128))=some (.bl b):=⟨_,rfl⟩
 obtain ⟨b,hgt⟩:=hgt
 have Ke:liftT r=.tup [aq r,.lst (r.map fun x=>T.int (bz (aO r) x)),.int (aO r:Nat),.int (longest r)]:=rfl
 have IW:liftT s=.tup [aq s,.lst (s.map fun x=>T.int (bz (aO s) x)),.int (aO s:Nat),.int (longest s)]:=rfl
 have e':cq 2 [] (eX (aa (af 3) (aa (af 7) ai))) (cE (aM (ar 0) (aM (ar 1) cz))) aD (aH aV (af 0) (af 1)) _=_:=e
 rw [Ke,IW] at e' ⊢
 clear e Ke IW t1 t2 hND hND' cc hcc hccc
 generalize wsum r s=W at *
 generalize (List.zipWith (· * ·) (r.map (bz (aO r))) (s.map (bz (aO s))))=zw at *
 clear hc hlst hsum hi hbs hbl hpos bl bl' hL hL' q1 q2 q3 p1 p2 p3 h1 h2 f
 unfold CZ bX fm
 generalize Kb=dW at *
 cases b with
 | true=>walk_at "ev"
 | false=>walk_at "ev"
open PySem PySem.Spec PyProof.Rows L2 TM Qm Rq
structure Tv (D N:Nat) (A:List (List Rat)):Prop where
 len:A.length ≤ 8
 row:∀ r ∈ A,r.length ≤ 8 /\ ∀ x ∈ r,Ov D N x
 dp:0 < D
 db:D < C
 nb:N < C
theorem Tv.gv {D N:Nat} {A:List (List Rat)} (h:Tv D N A) {r:List Rat} (hr:r ∈ A):Gv D N r:=⟨(h.row r hr).1,(h.row r hr).2,h.dp,h.db,h.nb⟩
theorem Tv.col {D N:Nat} {A:List (List Rat)} (h:Tv D N A) (j:Nat):Gv D N (fG A j):=by
 refine ⟨by unfold fG; rw [List.length_map]; exact h.len,fun x hx=>?_,h.dp,h.db,h.nb⟩
 obtain ⟨r,hr,rfl⟩:=List.mem_map.mp hx
 rw [List.getD_eq_getElem?_getD]
 cases e:r[j]? with
 | none=>exact (Ov.zero D).mono (Nat.zero_le _)
 | some y=>exact (h.row r hr).2 y (List.mem_of_getElem? e)
abbrev J9:List T -> Option O:=jc 5 3 (gd A8 xp CZ)
theorem IJ {D N D' N' w:Nat} {A X:List (List Rat)} (h1:Tv D N A) (h2:Tv D' N' X) (h3:Wd w X) (h4:w ≤ 8) (f:yd D N D' N'):J9 [ao A,ao X,.int (w:Nat)]=some (qe (mulM A X w)):=by
 have cA:=bK (φ:=aq) (fe:=aj A8 (aa (af 0) ai)) (g:=liftT) (ρ:=[]) rfl A none [] (fun r hr=>aG [aq r] rfl (Fh (h1.gv hr))) (eO h1.len)
 have cB:=bK (φ:=aq) (fe:=aj A8 (aa (af 0) ai)) (g:=liftT) (ρ:=[]) rfl (dS X w) none [] (fun r hr=>by
  obtain ⟨j,_,rfl⟩:=List.mem_map.mp hr
  exact aG [aq (fG X j)] rfl (Fh (h2.col j))) (eO (by unfold dS; rw [List.length_map,List.length_range]; exact h4))
 rw [List.nil_append] at cA cB
 have kT:=GV h2.len h3 h4
 have eA:fH 3 1 [] (bf (af 0)) (ar 0) aD (aj A8 (aa (af 0) ai)) [some (.sh (ao A)),some (.sh (ao X)),some (.sh (.int (w:Nat))),none,none]
   = some (.nx [some (.sh (ao A)),some (.sh (ao X)),some (.sh (.int (w:Nat))),some (.own (A.map liftT)),none]):=by
  show (if bM [none]=true then (gm (ar 0) aD (aj A8 (aa (af 0) ai)) (A.map aq) [none] []).bind _ else none)=_
  rw [if_pos (show bM [none]=true from rfl),cA]
  rfl
 have eI:bf (aj xp (aa (af 1) (aa (af 2) ai))) [some (.sh (ao A)),some (.sh (ao X)),some (.sh (.int (w:Nat))),some (.own (A.map liftT)),none]=some ((dS X w).map aq,[some (.sh (ao A)),some (.sh (ao X)),some (.sh (.int (w:Nat))),some (.own (A.map liftT)),none]):=by
  have q:aj xp (aa (af 1) (aa (af 2) ai)) [some (.sh (ao A)),some (.sh (ao X)),some (.sh (.int (w:Nat))),some (.own (A.map liftT)),none]=some (ao (dS X w),[some (.sh (ao A)),some (.sh (ao X)),some (.sh (.int (w:Nat))),some (.own (A.map liftT)),none]):=aG [ao X,.int (w:Nat)] rfl kT
  unfold bf
  rw [q]
  rfl
 have eB:=bH (no:=1) (cap:=[]) (fg:=ar 0) (ft:=aD) eI rfl rfl cB
 have inner:∀ r ∈ A,eu 1 [0] (bf (af 1)) (ar 0) aD (kC (aj CZ (aa (af 1) (aa (af 0) ai)))) [some (.sh (liftT r)),some (.sh (.lst ((dS X w).map liftT)))]=some (dX (kX r X w),[some (.sh (liftT r)),some (.sh (.lst ((dS X w).map liftT)))]):=fun r hr=>by
  have hc:=fq (φ:=fun j:Nat=>liftT (fG X j)) (fe:=kC (aj CZ (aa (af 1) (aa (af 0) ai)))) (g:=fun j=>O.val (bg (wsum r (fG X j)))) (ρ:=[some (.sh (liftT r))]) rfl (List.range w) none [] (fun j hj=>J1 [liftT r,liftT (fG X j)] rfl (IT (h1.gv hr) (h2.col j) f)) (tY (by rw [List.length_range]; exact h4))
  have hm:(List.range w).map (fun j=>liftT (fG X j))=(dS X w).map liftT:=by unfold dS; rw [List.map_map]; rfl
  rw [hm] at hc
  have e:=jC (no:=1) (cap:=[0]) (fi:=bf (af 1)) (fg:=ar 0) (ft:=aD) (τ:=[some (.sh (liftT r)),some (.sh (.lst ((dS X w).map liftT)))]) rfl rfl rfl hc
  rw [e]
  show some (O.lst ((List.range w).map fun j=>O.val (bg (wsum r (fG X j)))),_)=some (O.lst (((kX r X w).map bg).map O.val),_)
  unfold kX
  rw [List.map_map,List.map_map]
  rfl
 have hc:=fq (φ:=liftT) (fe:=eu 1 [0] (bf (af 1)) (ar 0) aD (kC (aj CZ (aa (af 1) (aa (af 0) ai))))) (g:=fun r=>dX (kX r X w)) (ρ:=[some (.sh (.lst ((dS X w).map liftT)))]) rfl A none [] inner (tY h1.len)
 have eC:=wK (no:=1) (cap:=[4]) (fi:=bf (af 3)) (fg:=ar 0) (ft:=aD) (τ:=[some (.sh (ao A)),some (.sh (ao X)),some (.sh (.int (w:Nat))),some (.own (A.map liftT)),some (.sh (.lst ((dS X w).map liftT)))]) (τ1:=[some (.sh (ao A)),some (.sh (ao X)),some (.sh (.int (w:Nat))),some (.sh (.lst (A.map liftT))),some (.sh (.lst ((dS X w).map liftT)))]) rfl rfl rfl hc
 have e1:jc 5 3 (gd A8 xp CZ) [ao A,ao X,.int (w:Nat)]=gd A8 xp CZ [some (.sh (ao A)),some (.sh (ao X)),some (.sh (.int (w:Nat))),none,none]:=rfl
 show jc 5 3 (gd A8 xp CZ) [ao A,ao X,.int (w:Nat)]=_
 rw [e1]
 unfold gd iN
 rw [eA,Option.bind_some]
 dsimp only
 unfold bo
 rw [eB]
 show jN _ [some (.sh (ao A)),some (.sh (ao X)),some (.sh (.int (w:Nat))),some (.own (A.map liftT)),some (.sh (.lst ((dS X w).map liftT)))]=_
 unfold jN
 rw [eC]
 show some (O.lst (A.map fun r=>dX (kX r X w)))=some (O.lst ((mulM A X w).map dX))
 unfold mulM
 rw [List.map_map]
 rfl
abbrev wD:List T -> Option T:=fun ts=>(J9 ts).bind fun o=>some o.tr
theorem Bh {D N D' N' w:Nat} {A X:List (List Rat)} (h1:Tv D N A) (h2:Tv D' N' X) (h3:Wd w X) (h4:w ≤ 8) (f:yd D N D' N'):wD [ao A,ao X,.int (w:Nat)]=some (ao (mulM A X w)):=by
 show (J9 _).bind _=_
 rw [IJ h1 h2 h3 h4 f,Option.bind_some,nL]
theorem Lc {f:FE} {τ τ':aA} {ts:List T} (h:f τ=some (.lst ts,τ')):bf f τ=some (ts,τ'):=by
 unfold bf
 rw [h]
 rfl
theorem Dj (xs:List Rat):fG (xs.map fun x=>[x]) 0=xs:=by
 unfold fG
 rw [List.map_map]
 exact List.map_id xs
theorem qo {α:Type} (f:α -> Bool):∀ l:List α,boolsOf (l.map fun x=>T.bl (f x))=some (l.map f)
 | []=>rfl
 | x :: l=>by rw [List.map_cons,boolsOf,qo f l]; rfl
theorem all_map {α:Type} (f:α -> Bool) (l:List α):pM [.lst (l.map fun x=>T.bl (f x))]=some (.bl (l.all f)):=by
 show (boolsOf _).bind _=_
 rw [qo,Option.bind_some,List.all_map]
 rfl
abbrev HP:List T -> Option T:=bX 1 1 jR
abbrev A5:List T -> Option T:=bX 3 1 (fB HP cT)
theorem sE (n:Int):HP [.int n]=some (.bl true):=by
 unfold HP bX jR
 walk_at "ev"
theorem GD {x:Rat} (h:Sm x):A5 [bg x]=some (.bl true):=by
 have k1:=cU (a:=x.num) (b:=(x.den:Int)) (ltB h.n) (ltB (by rw [Int.natAbs_natCast]; exact h.d))
 have hg:Int.gcd x.num (x.den:Int)=1:=x.reduced
 rw [hg] at k1
 have k2:=sE x.num
 have k3:=sE (x.den:Int)
 have hp:Kd (.int (x.den:Int)) (.int 1)=some (.bl true):=by
  have:=x.den_nz
  show some (T.bl (decide ((x.den:Int) ≥ 1)))=_
  rw [decide_eq_true (by omega)]
 have k4:kH (.int ((1:Nat):Int)) (.int 1)=some (.bl true):=rfl
 unfold bg
 have c2:decide (((2:Nat):Int)=2)=true:=rfl
 generalize hw:HP=w at *
 generalize x.num=a at *
 generalize (x.den:Int)=b at *
 unfold A5 bX fB
 rw [hw]
 walk_at "ev"
open PySem PySem.Spec PyProof.Rows L2 TM Qm Rq
theorem qL:∀ (n:Nat) (x y:Nat),y < n -> dO (eG (aH zX (af 1) (fC (.int 0)))) (rB 0 1 (aa (af 1) (aa (aH cu (af 0) (af 1)) ai))) n [some (.sh (.int x)),some (.sh (.int y))]
  = some (.nx [some (.sh (.int (Nat.gcd x y))),some (.sh (.int 0))])
 | 0,_,_,h=>by omega
 | n + 1,x,y,h=>by
  unfold dO
  by_cases hy:y=0
  ·subst hy
   have h0:((0:Nat):Int)=0:=rfl
   walk_at "ev"
   simp
  ·have hy':¬ ((y:Int)=0):=by omega
   have hy2:(0:Int) < y:=by omega
   have hm:Int.fmod (x:Int) (y:Int)=((x % y:Nat):Int):=by rw [Int.fmod_eq_emod_of_nonneg _ (by omega)]; rfl
   have hg:Nat.gcd x y=Nat.gcd y (x % y):=by rw [Nat.gcd_comm x y,Nat.gcd_rec y x,Nat.gcd_comm]
   have ih:=qL n y (x % y) (by have:=Nat.mod_lt x (Nat.pos_of_ne_zero hy); omega)
   rw [hg]
   clear hg h hy
   walk_at "ev"
theorem pj (ts:List T) (t:T) (h:cT ts=some t):bX 2 2 (gj B) ts=some t:=by
 unfold cT at h
 split at h
 ·next a b =>
  split at h
  ·next hb =>
   cases h
   have hw:=qL B a.natAbs b.natAbs (hb.2)
   have hg:Nat.gcd a.natAbs b.natAbs=Int.gcd a b:=rfl
   unfold bX gj
   clear hb
   walk_at "ev"
  ·cases h
 ·cases h
def yQ:List T -> Option T
 | [.int a,.int b]=>if a.natAbs < B /\ b.natAbs < B /\ 0 < b then some (bg (Rat.divInt a b)) else none
 | _=>none
theorem sI {a b:Int} (ha:a.natAbs < B) (hb:b.natAbs < B) (h0:0 < b):yQ [.int a,.int b]=some (bg (Rat.divInt a b)):=if_pos ⟨ha,hb,h0⟩
theorem vR (ts:List T) (t:T) (h:yQ ts=some t):bX 3 2 (iZ cT) ts=some t:=by
 unfold yQ at h
 split at h
 ·next a b =>
  split at h
  ·next hb =>
   cases h
   obtain ⟨ha,hb,h0⟩:=hb
   have h2:=By (a:=a) (b:=b) (by omega)
   have h3:=qA (a:=a) hb (by omega)
   have h4:((Int.gcd a b:Nat):Int).natAbs < B:=by omega
   have hc:=cU ha hb
   have e:rF a b=.tup [.int (a.fdiv (Int.gcd a b:Int)),.int (b.fdiv (Int.gcd a b:Int))]:=by unfold rF sg; rw [if_neg (by omega)]
   rw [<- nq h0,e]
   unfold bX iZ
   clear e h0
   walk_at "ev"
  ·cases h
 ·cases h
def BX (c k:Int):Int:=
 let a:=(c + 7919 * k + 12345).fmod 2147483629
 let b:=(a * a + 48271 * k).fmod 2147483629
 (b * b).fmod 2147483587
abbrev AH:List T -> Option T:=bX 3 2 iw
theorem oh {c k:Int} (h0:0 ≤ k) (h1:k ≤ 1000):AH [.int c,.int k]=some (.int (BX c k)):=by
 have r1:=fI (c + 7919 * k + 12345) (b:=2147483629) (by decide)
 have r2:=fI ((c + 7919 * k + 12345).fmod 2147483629 * (c + 7919 * k + 12345).fmod 2147483629 + 48271 * k) (b:=2147483629) (by decide)
 have bb:2147483629 < B:=by decide +kernel
 have bk:k.natAbs < B:=by omega
 have b1:((c + 7919 * k + 12345).fmod 2147483629).natAbs < B:=by omega
 have b2:(((c + 7919 * k + 12345).fmod 2147483629 * (c + 7919 * k + 12345).fmod 2147483629 + 48271 * k).fmod 2147483629).natAbs < B:=by omega
 have b3:(7919:Int).natAbs < B:=by omega
 have b4:(48271:Int).natAbs < B:=by omega
 have n1:¬ (2147483629:Int)=0:=by decide
 have n2:¬ (2147483587:Int)=0:=by decide
 unfold BX
 dsimp only
 clear r1 r2 bb h0 h1
 unfold AH bX iw
 walk_at "ev"
theorem Av {i:Nat} {f g:FE} {τ:aA} {us:List T} {u t:T} (h:τ[i]? = some (some (.own (us ++ [u])))) (hf:f τ=some (t,τ)) (hg:g τ=some (.int (-1),τ)):om i f g τ=some (.nx (τ.set i (some (.own (us ++ [t]))))):=by
 unfold om
 rw [hf,Option.bind_some]
 dsimp only
 rw [h]
 dsimp only
 rw [hg,Option.bind_some]
 dsimp only
 rw [h]
 dsimp only
 rw [show yF (us ++ [u]).length (-1)=some us.length from by
  unfold yF
  rw [if_neg (by decide),List.length_append,List.length_cons,List.length_nil,if_pos (by omega)]
  rw [show (-1:Int) + ((us.length + (0 + 1):Nat):Int)=(us.length:Nat) by omega,Int.toNat_natCast]]
 rw [Option.bind_some,List.set_append_right _ _ (Nat.le_refl _),Nat.sub_self]
 rfl
def BZ:FS:=(aT (mS 2 (aj yQ (aa (aH rJ (aH cu (af 3) (fC (.int 19))) (fC (.int 9))) (aa (aH bS (fC (.int 1)) (aH cu (aH cS (af 3) (fC (.int 19))) (fC (.int 12)))) ai))))
  (bo 3 (aH cS (af 3) (fC (.int 228)))))
def oF:FE:=(aH bB (dw (aa (dU (aa (fC (.int 0)) (aa (fC (.int 1)) ai))) (aa (dU (aa (aH rJ (aH cu (aH cS (af 5) (fC (.int 4))) (fC (.int 3))) (fC (.int 1))) (aa (fC (.int 1)) ai))) (aa (dU (aa (fC (.int 1)) (aa (fC (.int 2)) ai))) (aa (dU (aa (fC (.int 0)) (aa (fC (.int 1)) ai))) ai))))) (af 6))
def DZ:FE:=(aj yQ (aa (aH rJ (aH cu (aH cS (af 5) (fC (.int 4))) (fC (.int 19))) (fC (.int 9))) (aa (aH bS (fC (.int 1)) (aH cu (aH cS (af 5) (fC (.int 76))) (fC (.int 12)))) ai)))
def sN:FS:=(aT (bo 5 (aj AH (aa (af 0) (aa (af 4) ai))))
  (aT (bo 6 (aH cu (af 5) (fC (.int 4))))
  (aT (mS 2 oF)
  (cn (eG (aH kH (af 6) (fC (.int 2)))) (om 2 DZ (mT kI (fC (.int 1)))) bQ))))
def oE:FS:=(cn (eG (aH kH (aH cu (af 0) (fC (.int 2))) (fC (.int 1)))) BZ sN)
abbrev lJ (c n:Int) (ts:List T) (r:Int) (x4 x5 x6:Option Sl):aA:=[some (.sh (.int c)),some (.sh (.int n)),some (.own ts),some (.sh (.int r)),x4,x5,x6]
theorem DB:Lq 1 9 (Rat.divInt 1 2):=Lq.small (a:=1) (b:=2) (by decide) (by decide) (by decide)
theorem GZ (c n r:Int) (ts:List T) (x4 x5 x6:Option Sl) (hl:ts.length < 1000):∃ q:Rat,Lq 1 9 q /\ BZ (lJ c n ts r x4 x5 x6)=some (.nx (lJ c n (ts ++ [bg q]) (r.fdiv 228) x4 x5 x6)):=by
 have r19:=fI r (b:=19) (by decide)
 have r12:=fI (r.fdiv 19) (b:=12) (by decide)
 have hf:=sI (a:=r.fmod 19 - 9) (b:=1 + (r.fdiv 19).fmod 12) (cX (by omega) (by omega)) (cX (by omega) (by omega)) (by omega)
 have hn:=Lq.small (a:=r.fmod 19 - 9) (b:=1 + (r.fdiv 19).fmod 12) (by omega) (by omega) (by omega)
 generalize Rat.divInt (r.fmod 19 - 9) (1 + (r.fdiv 19).fmod 12)=q at *
 refine ⟨q,hn,?_⟩
 have hz:ts.length < sizeLine:=dR (by omega)
 have n228:¬ (228:Int)=0:=by decide
 have n19:¬ (19:Int)=0:=by decide
 have n12:¬ (12:Int)=0:=by decide
 have b228:(228:Int).natAbs < B:=cX (by decide) (by decide)
 have b19:(19:Int).natAbs < B:=cX (by decide) (by decide)
 have b12:(12:Int).natAbs < B:=cX (by decide) (by decide)
 clear r19 r12 hn hl
 generalize bg q=Q at *
 unfold BZ
 walk_at "ev"
theorem D0 (c n r k:Int) (ts:List T) (x5 x6:Option Sl) (hk:0 ≤ k /\ k ≤ 1000) (hl:ts.length < 1000):∃ q:Rat,∃ y5 y6,Lq 1 9 q /\ sN (lJ c n ts r (some (.sh (.int k))) x5 x6)=some (.nx (lJ c n (ts ++ [bg q]) r (some (.sh (.int k))) y5 y6)):=by
 have hm:=oh (c:=c) (k:=k) hk.1 hk.2
 generalize BX c k=m at *
 have r3:=fI (m.fdiv 4) (b:=3) (by decide)
 have r4:=fI m (b:=4) (by decide)
 have r19:=fI (m.fdiv 4) (b:=19) (by decide)
 have r12:=fI (m.fdiv 76) (b:=12) (by decide)
 have hf:=sI (a:=(m.fdiv 4).fmod 19 - 9) (b:=1 + (m.fdiv 76).fmod 12) (cX (by omega) (by omega)) (cX (by omega) (by omega)) (by omega)
 have hn:=Lq.small (a:=(m.fdiv 4).fmod 19 - 9) (b:=1 + (m.fdiv 76).fmod 12) (by omega) (by omega) (by omega)
 have hn2:=Lq.small (a:=(m.fdiv 4).fmod 3 - 1) (b:=1) (by omega) (by omega) (by omega)
 generalize Rat.divInt ((m.fdiv 4).fmod 19 - 9) (1 + (m.fdiv 76).fmod 12)=fr at *
 obtain ⟨t,ht,hmem⟩:=BG (L:=[.tup [.int 0,.int 1],.tup [.int ((m.fdiv 4).fmod 3 - 1),.int 1],.tup [.int 1,.int 2],.tup [.int 0,.int 1]]) (i:=m.fmod 4) (by omega) (by simp; omega)
 have hz:ts.length < sizeLine:=dR (by omega)
 have n4:¬ (4:Int)=0:=by decide
 have n3:¬ (3:Int)=0:=by decide
 have n19:¬ (19:Int)=0:=by decide
 have n76:¬ (76:Int)=0:=by decide
 have n12:¬ (12:Int)=0:=by decide
 have b4:(4:Int).natAbs < B:=cX (by decide) (by decide)
 have b3:(3:Int).natAbs < B:=cX (by decide) (by decide)
 have b19:(19:Int).natAbs < B:=cX (by decide) (by decide)
 have b76:(76:Int).natAbs < B:=cX (by decide) (by decide)
 have b12:(12:Int).natAbs < B:=cX (by decide) (by decide)
 have l4:(4:Nat) ≤ sizeLine:=bR (by decide)
 have l2:=KW
 have hq:∃ q,t=bg q /\ Lq 1 9 q:=by
  simp only [List.mem_cons,List.not_mem_nil,or_false] at hmem
  rcases hmem with rfl | rfl | rfl | rfl
  ·exact ⟨0,rfl,(Lq.zero 1).mono (Nat.zero_le _)⟩
  ·exact ⟨_,ET _,hn2⟩
  ·exact ⟨Rat.divInt 1 2,rfl,DB⟩
  ·exact ⟨0,rfl,(Lq.zero 1).mono (Nat.zero_le _)⟩
 obtain ⟨q,rfl,hq⟩:=hq
 have e1:bo 5 (aj AH (aa (af 0) (aa (af 4) ai))) (lJ c n ts r (some (.sh (.int k))) x5 x6)=some (.nx (lJ c n ts r (some (.sh (.int k))) (some (.sh (.int m))) x6)):=dc (aG [.int c,.int k] (dv rfl rfl) hm) rfl
 have e2:bo 6 (aH cu (af 5) (fC (.int 4))) (lJ c n ts r (some (.sh (.int k))) (some (.sh (.int m))) x6)=some (.nx (lJ c n ts r (some (.sh (.int k))) (some (.sh (.int m))) (some (.sh (.int (m.fmod 4)))))):=dc (br (g:=cu) rfl rfl (oB n4)) rfl
 have e3:oF (lJ c n ts r (some (.sh (.int k))) (some (.sh (.int m))) (some (.sh (.int (m.fmod 4)))))=some (bg q,lJ c n ts r (some (.sh (.int k))) (some (.sh (.int m))) (some (.sh (.int (m.fmod 4))))):=by
  clear hm hf hn hn2 hmem hq e1 e2 r3 r4 r19 r12 hk hl
  generalize bg q=Q at *
  unfold oF
  walk_at "ev"
 have e4:=Fd (i:=2) (f:=oF) (τ:=lJ c n ts r (some (.sh (.int k))) (some (.sh (.int m))) (some (.sh (.int (m.fmod 4))))) rfl e3 hz
 have e4':mS 2 oF (lJ c n ts r (some (.sh (.int k))) (some (.sh (.int m))) (some (.sh (.int (m.fmod 4)))))=some (.nx (lJ c n (ts ++ [bg q]) r (some (.sh (.int k))) (some (.sh (.int m))) (some (.sh (.int (m.fmod 4)))))):=e4
 have t5:eG (aH kH (af 6) (fC (.int 2))) (lJ c n (ts ++ [bg q]) r (some (.sh (.int k))) (some (.sh (.int m))) (some (.sh (.int (m.fmod 4)))))=some (decide (m.fmod 4=2),lJ c n (ts ++ [bg q]) r (some (.sh (.int k))) (some (.sh (.int m))) (some (.sh (.int (m.fmod 4))))):=by
  have e:=br (g:=kH) (fa:=af 6) (fb:=fC (.int 2)) (τ:=lJ c n (ts ++ [bg q]) r (some (.sh (.int k))) (some (.sh (.int m))) (some (.sh (.int (m.fmod 4))))) rfl rfl (nv _ _)
  unfold eG
  rw [e]
  rfl
 by_cases h2:m.fmod 4=2
 ·refine ⟨fr,some (.sh (.int m)),some (.sh (.int (m.fmod 4))),hn,?_⟩
  have e6:DZ (lJ c n (ts ++ [bg q]) r (some (.sh (.int k))) (some (.sh (.int m))) (some (.sh (.int (m.fmod 4)))))=some (bg fr,lJ c n (ts ++ [bg q]) r (some (.sh (.int k))) (some (.sh (.int m))) (some (.sh (.int (m.fmod 4))))):=by
   clear hm hn hn2 hmem hq e1 e2 e3 e4 e4' t5 r3 r4 r19 r12 hk hl ht h2
   generalize bg q=Q at *
   generalize bg fr=Q2 at *
   unfold DZ
   walk_at "ev"
  have e7:=Av (i:=2) (f:=DZ) (g:=mT kI (fC (.int 1))) (us:=ts) (u:=bg q) (τ:=lJ c n (ts ++ [bg q]) r (some (.sh (.int k))) (some (.sh (.int m))) (some (.sh (.int (m.fmod 4))))) rfl e6 rfl
  unfold sN
  rw [bA e1,bA e2,bA e4']
  unfold cn
  rw [t5,Option.bind_some]
  refine (if_pos (decide_eq_true h2)).trans ?_
  exact e7
 ·refine ⟨q,some (.sh (.int m)),some (.sh (.int (m.fmod 4))),hq,?_⟩
  unfold sN
  rw [bA e1,bA e2,bA e4']
  refine kL ?_
  rw [t5,decide_eq_false h2]
theorem D5 (c n r k:Int) (ts:List T) (x5 x6:Option Sl) (hk:0 ≤ k /\ k ≤ 1000) (hl:ts.length < 1000):∃ q:Rat,∃ r' y5 y6,Lq 1 9 q /\ oE (lJ c n ts r (some (.sh (.int k))) x5 x6)=some (.nx (lJ c n (ts ++ [bg q]) r' (some (.sh (.int k))) y5 y6)):=by
 have t5:eG (aH kH (aH cu (af 0) (fC (.int 2))) (fC (.int 1))) (lJ c n ts r (some (.sh (.int k))) x5 x6)=some (decide (c.fmod 2=1),lJ c n ts r (some (.sh (.int k))) x5 x6):=by
  have e:=br (g:=kH) (fa:=aH cu (af 0) (fC (.int 2))) (fb:=fC (.int 1)) (τ:=lJ c n ts r (some (.sh (.int k))) x5 x6) (br (g:=cu) rfl rfl (oB (by decide))) rfl (nv _ _)
  unfold eG
  rw [e]
  rfl
 by_cases h:c.fmod 2=1
 ·obtain ⟨q,h1,h2⟩:=GZ c n r ts (some (.sh (.int k))) x5 x6 hl
  refine ⟨q,r.fdiv 228,x5,x6,h1,?_⟩
  unfold oE cn
  rw [t5,Option.bind_some]
  exact (if_pos (decide_eq_true h)).trans h2
 ·obtain ⟨q,y5,y6,h1,h2⟩:=D0 c n r k ts x5 x6 hk hl
  refine ⟨q,r,y5,y6,h1,?_⟩
  unfold oE cn
  rw [t5,Option.bind_some]
  refine (if_neg ?_).trans h2
  intro z
  exact h (of_decide_eq_true z)
theorem yS (c n:Int):∀ (m:Nat) (lo r:Int) (ts:List T) (x4 x5 x6:Option Sl),0 ≤ lo -> lo + m ≤ 1000 -> ts.length + m < 1000 -> ∃ us:List Rat,∃ r' y4 y5 y6,(∀ t ∈ us,Lq 1 9 t) /\ us.length=m /\ dB (ar 4) oE (TM.upTo lo m) (lJ c n ts r x4 x5 x6)=some (.nx (lJ c n (ts ++ us.map bg) r' y4 y5 y6))
 | 0,lo,r,ts,x4,x5,x6,_,_,_=>⟨[],r,x4,x5,x6,fun t ht=>(by cases ht),rfl,by simp [TM.upTo,dB]⟩
 | m + 1,lo,r,ts,x4,x5,x6,h0,h1,h2=>by
  obtain ⟨t,r',y5,y6,ht,hb⟩:=D5 c n r lo ts x5 x6 (by omega) (by omega)
  obtain ⟨us,r2,z4,z5,z6,g1,g2,g3⟩:=yS c n m (lo + 1) r' (ts ++ [bg t]) (some (.sh (.int lo))) y5 y6 (by omega) (by omega) (by simp; omega)
  refine ⟨t :: us,r2,z4,z5,z6,fun x hx=>?_,by simp [g2],?_⟩
  ·rcases List.mem_cons.mp hx with rfl | hx
   ·exact ht
   ·exact g1 x hx
  ·rw [show TM.upTo lo (m + 1)=T.int lo :: TM.upTo (lo + 1) m from rfl,gh rfl hb,g3]
   simp
abbrev A9:List T -> Option T:=bX 7 2 (dZ yQ AH)
theorem De:dZ yQ AH=aT (cR 2 ai) (aT (bo 3 (aH cS (af 0) (fC (.int 2)))) (aT (jU (eH (aa (af 1) ai)) (ar 4) oE) (bG (af 2)))):=rfl
theorem jT (c:Int) (n:Nat) (hn:n ≤ 100):∃ r:List Rat,A9 [.int c,.int (n:Nat)]=some (aq r) /\ r.length=n /\ ∀ x ∈ r,Lq 1 9 x:=by
 obtain ⟨us,r',y4,y5,y6,h1,h2,h3⟩:=yS c (n:Nat) n 0 (c.fdiv 2) [] none none none (by decide) (by omega) (by simp; omega)
 refine ⟨us,?_,h2,h1⟩
 have hr:=vJ (f:=af 1) (τ:=lJ c (n:Nat) [] (c.fdiv 2) none none none) (n:=(n:Int)) rfl (by omega) (by omega)
 rw [Int.toNat_natCast] at hr
 rw [List.nil_append] at h3
 have e1:cR 2 ai [some (.sh (.int c)),some (.sh (.int (n:Nat))),none,none,none,none,none]=some (.nx [some (.sh (.int c)),some (.sh (.int (n:Nat))),some (.own []),none,none,none,none]):=by
  have:=LH
  walk_at "ev"
 have e2:bo 3 (aH cS (af 0) (fC (.int 2))) [some (.sh (.int c)),some (.sh (.int (n:Nat))),some (.own []),none,none,none,none]=some (.nx (lJ c (n:Nat) [] (c.fdiv 2) none none none)):=dc (br (g:=cS) rfl rfl (Bd (by decide) (cX (by decide) (by decide)))) rfl
 refine dq rfl ?_
 show dZ yQ AH [some (.sh (.int c)),some (.sh (.int (n:Nat))),none,none,none,none,none]=_
 rw [De,bA e1,bA e2,bA (uJ hr h3)]
 rfl
open PySem PySem.Spec PyProof.Rows L2 TM Qm Rq
abbrev uA:List T -> Option T:=bX 2 2 gG
theorem nk (ns:List Int) (k:Nat):uA [.scr (ns.map T.int),.int (k:Nat)]=some (.int (ns.getD k 0)):=by
 have hl:aj cm (aa (af 0) ai) [some (.sh (.scr (ns.map T.int))),some (.sh (.int (k:Nat)))]=some (.int (ns.length:Nat),[some (.sh (.scr (ns.map T.int))),some (.sh (.int (k:Nat)))]):=aG [.scr (ns.map T.int)] (eV rfl) (by
  show some (T.int ((ns.map T.int).length:Nat))=_
  rw [List.length_map])
 have ht:=K1 (f:=af 1) (g:=aj cm (aa (af 0) ai)) (τ:=[some (.sh (.scr (ns.map T.int))),some (.sh (.int (k:Nat)))]) (a:=k) (b:=ns.length) rfl hl
 refine dq rfl ?_
 show gG [some (.sh (.scr (ns.map T.int))),some (.sh (.int (k:Nat)))]=_
 unfold gG
 by_cases h:k < ns.length
 ·have e:=DK (ns:=ns) (k:=(k:Nat)) (by omega) (by omega)
  rw [Int.toNat_natCast] at e
  unfold aT cn
  rw [ht,Option.bind_some]
  dsimp only
  rw [if_pos (decide_eq_true h),eY (br (g:=bB) (fa:=af 0) (fb:=af 1) rfl rfl e)]
  rfl
 ·rw [bA (kL (by rw [ht,decide_eq_false h]))]
  rw [List.getD_eq_getElem?_getD,List.getElem?_eq_none (by omega)]
  rfl
theorem lZ {a b:Nat} (ha:a ≤ 1000) (hb:b ≤ 1000):aV (.int (a:Nat)) (.int (b:Nat))=some (.int ((a * b:Nat):Nat)):=by
 rw [oC (Fu (by omega)) (Fu (by omega)),Int.natCast_mul]
theorem qT {a b:Nat}:bS (.int (a:Nat)) (.int (b:Nat))=some (.int ((a + b:Nat):Nat)):=by
 rw [jg,Int.natCast_add]
theorem Dl (xs:List Rat) (a b:Nat) (h:a + b ≤ xs.length):HU (aq xs) (some (a:Nat)) (some ((a + b:Nat):Nat))=some (aq ((xs.drop a).take b)):=by
 show some (T.lst (rk (xs.map bg) (some (a:Nat)) (some ((a + b:Nat):Nat))))=_
 unfold rk
 rw [HT.tJ,HT.tJ,List.length_map,Nat.min_eq_left h,Nat.min_eq_left (by omega:a ≤ xs.length),Nat.add_sub_cancel_left,<- List.map_drop,<- List.map_take]
 rfl
theorem ni (xs:List Rat) (a:Nat) (h:a ≤ xs.length):HU (aq xs) (some (a:Nat)) none=some (aq (xs.drop a)):=by
 show some (T.lst (rk (xs.map bg) (some (a:Nat)) none))=_
 unfold rk
 rw [HT.tJ,HT.Cy,List.length_map,Nat.min_eq_left h,<- List.map_drop,List.take_of_length_le (by rw [List.length_map,List.length_drop]; omega)]
 rfl
def kY (xs:List Rat) (m w:Nat):List (List Rat):=(List.range m).map fun k=>(xs.drop (w * k)).take w
structure Tw (m w:Nat) (A:List (List Rat)):Prop where
 len:A.length=m
 bw:Bw w 9 A
theorem kZ {xs:List Rat} {m w:Nat} (h:m * w ≤ xs.length) (hq:∀ x ∈ xs,Lq 1 9 x):Tw m w (kY xs m w):=by
 unfold kY
 refine ⟨by rw [List.length_map,List.length_range],fun r hr=>?_,fun r hr x hx=>?_⟩
 ·obtain ⟨k,hk,rfl⟩:=List.mem_map.mp hr
  have hkm:=List.mem_range.mp hk
  have hkw:w * k + w ≤ m * w:=by
   have:(k + 1) * w ≤ m * w:=Nat.mul_le_mul_right w hkm
   rw [Nat.add_mul,Nat.one_mul,Nat.mul_comm] at this
   exact this
  rw [List.length_take,List.length_drop]
  omega
 ·obtain ⟨k,hk,rfl⟩:=List.mem_map.mp hr
  exact hq x (List.mem_of_mem_drop (List.mem_of_mem_take hx))
abbrev AI:List T -> Option T:=bX 3 3 gK
theorem ky {xs:List Rat} {m w:Nat} (hm:m ≤ 8) (hw:w ≤ 8) (h:m * w ≤ xs.length):AI [aq xs,.int (m:Nat),.int (w:Nat)]=some (ao (kY xs m w)):=by
 have hc:=bK (φ:=fun j:Nat=>T.int (j:Nat)) (fe:=uH (af 1) (eE (aH aV (af 2) (af 0))) (eE (aH bS (aH aV (af 2) (af 0)) (af 2)))) (g:=fun k=>aq ((xs.drop (w * k)).take w)) (ρ:=[some (.sh (aq xs)),some (.sh (.int (w:Nat)))]) rfl (List.range m) none [] (fun k hk=>by
  have hkm:=List.mem_range.mp hk
  have hkw:w * k + w ≤ m * w:=by
   have:(k + 1) * w ≤ m * w:=Nat.mul_le_mul_right w hkm
   rw [Nat.add_mul,Nat.one_mul,Nat.mul_comm] at this
   exact this
  have m1:=br (g:=aV) (fa:=af 2) (fb:=af 0) (τ:=[some (.sh (.int (k:Nat))),some (.sh (aq xs)),some (.sh (.int (w:Nat)))]) (a:=.int (w:Nat)) (b:=.int (k:Nat)) rfl rfl (lZ (by omega) (by omega))
  exact CF (a:=aq xs) rfl (me m1) (me (br (g:=bS) (b:=.int (w:Nat)) m1 rfl qT)) (Dl xs (w * k) w (by omega))) (eO (by rw [List.length_range]; omega))
 have e:=bH (no:=1) (cap:=[0,2]) (fi:=eH (aa (af 1) ai)) (fg:=ar 0) (ft:=aD) (τ:=[some (.sh (aq xs)),some (.sh (.int (m:Nat))),some (.sh (.int (w:Nat)))]) (nJ (f:=af 1) (n:=m) rfl (by omega)) rfl rfl hc
 refine dq rfl ?_
 show gK [some (.sh (aq xs)),some (.sh (.int (m:Nat))),some (.sh (.int (w:Nat)))]=_
 unfold gK
 rw [eY e]
 unfold ao kY
 rw [List.map_map]
 rfl
theorem wo {f g i j:FE} {τ:aA} {t u v x:T} (h:f τ=some (t,τ)) (h':g τ=some (u,τ)) (h'':i τ=some (v,τ)) (h3:j τ=some (x,τ)):aa f (aa g (aa i (aa j ai))) τ=some ([t,u,v,x],τ):=oa h (gF h' h'' h3)
theorem Fs {f:FA} {τ τ':aA} {ts:List T} (h:f τ=some (ts,τ')) (hl:ts.length ≤ 1000):dw f τ=some (.lst ts,τ'):=by
 unfold dw
 rw [h,Option.bind_some]
 exact if_pos (bR hl)
abbrev HN:List T -> Option T:=bX 8 4 (gH A9 AI)
structure iT (m i o:Nat) (A B C D:List (List Rat)):Prop where
 a:Tw m m A
 b:Tw m i B
 c:Tw o m C
 d:Tw o i D
abbrev fT (A B C D:List (List Rat)):T:=.lst [ao A,ao B,ao C,ao D]
theorem Dv (c:Int) {m i o:Nat} (hm:m ≤ 5) (hi:i ≤ 2) (ho:o ≤ 2):∃ A B C D,HN [.int c,.int (m:Nat),.int (i:Nat),.int (o:Nat)]=some (fT A B C D) /\ iT m i o A B C D:=by
 have p1:m * m ≤ 25:=Nat.mul_le_mul hm hm
 have p2:m * i ≤ 10:=Nat.mul_le_mul hm hi
 have p3:o * m ≤ 10:=Nat.mul_le_mul ho hm
 have p4:o * i ≤ 4:=Nat.mul_le_mul ho hi
 obtain ⟨xs,e1,e2,e3⟩:=jT c (m * m + m * i + o * m + o * i) (by omega)
 have q1:=ky (xs:=xs) (m:=m) (w:=m) (by omega) (by omega) (by omega)
 have l2:(xs.drop (m * m)).length=m * i + o * m + o * i:=by rw [List.length_drop]; omega
 have m2:∀ x ∈ xs.drop (m * m),Lq 1 9 x:=fun x hx=>e3 x (List.mem_of_mem_drop hx)
 have q2:=ky (xs:=xs.drop (m * m)) (m:=m) (w:=i) (by omega) (by omega) (by omega)
 have l3:((xs.drop (m * m)).drop (m * i)).length=o * m + o * i:=by rw [List.length_drop]; omega
 have m3:∀ x ∈ (xs.drop (m * m)).drop (m * i),Lq 1 9 x:=fun x hx=>m2 x (List.mem_of_mem_drop hx)
 have q3:=ky (xs:=(xs.drop (m * m)).drop (m * i)) (m:=o) (w:=m) (by omega) (by omega) (by omega)
 have l4:(((xs.drop (m * m)).drop (m * i)).drop (o * m)).length=o * i:=by rw [List.length_drop]; omega
 have m4:∀ x ∈ ((xs.drop (m * m)).drop (m * i)).drop (o * m),Lq 1 9 x:=fun x hx=>m3 x (List.mem_of_mem_drop hx)
 have q4:=ky (xs:=((xs.drop (m * m)).drop (m * i)).drop (o * m)) (m:=o) (w:=i) (by omega) (by omega) (by omega)
 have t1:=kZ (m:=m) (w:=m) (show m * m ≤ xs.length by omega) e3
 have t2:=kZ (m:=m) (w:=i) (show m * i ≤ (xs.drop (m * m)).length by omega) m2
 have t3:=kZ (m:=o) (w:=m) (show o * m ≤ ((xs.drop (m * m)).drop (m * i)).length by omega) m3
 have t4:=kZ (m:=o) (w:=i) (show o * i ≤ (((xs.drop (m * m)).drop (m * i)).drop (o * m)).length by omega) m4
 have c1:=ni xs (m * m) (by omega)
 have c2:=ni (xs.drop (m * m)) (m * i) (by omega)
 have c3:=ni ((xs.drop (m * m)).drop (m * i)) (o * m) (by omega)
 refine ⟨_,_,_,_,?_,t1,t2,t3,t4⟩
 generalize kY xs m m=A at *
 generalize kY (xs.drop (m * m)) m i=B at *
 generalize kY ((xs.drop (m * m)).drop (m * i)) o m=C at *
 generalize kY (((xs.drop (m * m)).drop (m * i)).drop (o * m)) o i=D at *
 generalize hx3:((xs.drop (m * m)).drop (m * i)).drop (o * m)=x3 at *
 generalize hx2:(xs.drop (m * m)).drop (m * i)=x2 at *
 generalize hx1:xs.drop (m * m)=x1 at *
 refine dq rfl ?_
 show gH A9 AI [some (.sh (.int c)),some (.sh (.int (m:Nat))),some (.sh (.int (i:Nat))),some (.sh (.int (o:Nat))),none,none,none,none]=_
 have v:∀ {s4 s5 s6 s7:Option Sl},aH aV (af 1) (af 1) [some (.sh (.int c)),some (.sh (.int (m:Nat))),some (.sh (.int (i:Nat))),some (.sh (.int (o:Nat))),s4,s5,s6,s7]=some (.int ((m * m:Nat):Nat),_):=fun {s4 s5 s6 s7}=>br (g:=aV) rfl rfl (lZ (by omega) (by omega))
 have v2:∀ {s4 s5 s6 s7:Option Sl},aH aV (af 1) (af 2) [some (.sh (.int c)),some (.sh (.int (m:Nat))),some (.sh (.int (i:Nat))),some (.sh (.int (o:Nat))),s4,s5,s6,s7]=some (.int ((m * i:Nat):Nat),_):=fun {s4 s5 s6 s7}=>br (g:=aV) rfl rfl (lZ (by omega) (by omega))
 have v3:∀ {s4 s5 s6 s7:Option Sl},aH aV (af 3) (af 1) [some (.sh (.int c)),some (.sh (.int (m:Nat))),some (.sh (.int (i:Nat))),some (.sh (.int (o:Nat))),s4,s5,s6,s7]=some (.int ((o * m:Nat):Nat),_):=fun {s4 s5 s6 s7}=>br (g:=aV) rfl rfl (lZ (by omega) (by omega))
 have v4:∀ {s4 s5 s6 s7:Option Sl},aH aV (af 3) (af 2) [some (.sh (.int c)),some (.sh (.int (m:Nat))),some (.sh (.int (i:Nat))),some (.sh (.int (o:Nat))),s4,s5,s6,s7]=some (.int ((o * i:Nat):Nat),_):=fun {s4 s5 s6 s7}=>br (g:=aV) rfl rfl (lZ (by omega) (by omega))
 have s1:=dc (i:=4) (τ:=[some (.sh (.int c)),some (.sh (.int (m:Nat))),some (.sh (.int (i:Nat))),some (.sh (.int (o:Nat))),none,none,none,none]) (aG (g:=A9) (f:=aa (af 0) (aa (aH bS (aH bS (aH bS (aH aV (af 1) (af 1)) (aH aV (af 1) (af 2))) (aH aV (af 3) (af 1))) (aH aV (af 3) (af 2))) ai)) _ (dv rfl (br (g:=bS) (br (g:=bS) (br (g:=bS) v v2 qT) v3 qT) v4 qT)) e1) rfl
 have s2:=dc (i:=5) (τ:=[some (.sh (.int c)),some (.sh (.int (m:Nat))),some (.sh (.int (i:Nat))),some (.sh (.int (o:Nat))),some (.sh (aq xs)),none,none,none]) (aG (g:=AI) (f:=aa (af 4) (aa (af 1) (aa (af 1) ai))) _ (gF rfl rfl rfl) q1) rfl
 have s3:=dc (i:=4) (τ:=[some (.sh (.int c)),some (.sh (.int (m:Nat))),some (.sh (.int (i:Nat))),some (.sh (.int (o:Nat))),some (.sh (aq xs)),some (.sh (ao A)),none,none]) (f:=uH (af 4) (eE (aH aV (af 1) (af 1))) dy) (CF (a:=aq xs) rfl (me v) rfl c1) rfl
 have s4:=dc (i:=6) (τ:=[some (.sh (.int c)),some (.sh (.int (m:Nat))),some (.sh (.int (i:Nat))),some (.sh (.int (o:Nat))),some (.sh (aq x1)),some (.sh (ao A)),none,none]) (aG (g:=AI) (f:=aa (af 4) (aa (af 1) (aa (af 2) ai))) _ (gF rfl rfl rfl) q2) rfl
 have s5:=dc (i:=4) (τ:=[some (.sh (.int c)),some (.sh (.int (m:Nat))),some (.sh (.int (i:Nat))),some (.sh (.int (o:Nat))),some (.sh (aq x1)),some (.sh (ao A)),some (.sh (ao B)),none]) (f:=uH (af 4) (eE (aH aV (af 1) (af 2))) dy) (CF (a:=aq x1) rfl (me v2) rfl c2) rfl
 have s6:=dc (i:=7) (τ:=[some (.sh (.int c)),some (.sh (.int (m:Nat))),some (.sh (.int (i:Nat))),some (.sh (.int (o:Nat))),some (.sh (aq x2)),some (.sh (ao A)),some (.sh (ao B)),none]) (aG (g:=AI) (f:=aa (af 4) (aa (af 3) (aa (af 1) ai))) _ (gF rfl rfl rfl) q3) rfl
 have s7:=aG (g:=AI) (f:=aa (uH (af 4) (eE (aH aV (af 3) (af 1))) dy) (aa (af 3) (aa (af 2) ai))) (ρ:=[some (.sh (.int c)),some (.sh (.int (m:Nat))),some (.sh (.int (i:Nat))),some (.sh (.int (o:Nat))),some (.sh (aq x2)),some (.sh (ao A)),some (.sh (ao B)),some (.sh (ao C))]) _ (gF (CF (a:=aq x2) rfl (me v3) rfl c3) rfl rfl) q4
 unfold gH
 rw [bA s1]
 show aT _ _ [some (.sh (.int c)),some (.sh (.int (m:Nat))),some (.sh (.int (i:Nat))),some (.sh (.int (o:Nat))),some (.sh (aq xs)),none,none,none]=_
 rw [bA s2]
 show aT _ _ [some (.sh (.int c)),some (.sh (.int (m:Nat))),some (.sh (.int (i:Nat))),some (.sh (.int (o:Nat))),some (.sh (aq xs)),some (.sh (ao A)),none,none]=_
 rw [bA s3]
 show aT _ _ [some (.sh (.int c)),some (.sh (.int (m:Nat))),some (.sh (.int (i:Nat))),some (.sh (.int (o:Nat))),some (.sh (aq x1)),some (.sh (ao A)),none,none]=_
 rw [bA s4]
 show aT _ _ [some (.sh (.int c)),some (.sh (.int (m:Nat))),some (.sh (.int (i:Nat))),some (.sh (.int (o:Nat))),some (.sh (aq x1)),some (.sh (ao A)),some (.sh (ao B)),none]=_
 rw [bA s5]
 show aT _ _ [some (.sh (.int c)),some (.sh (.int (m:Nat))),some (.sh (.int (i:Nat))),some (.sh (.int (o:Nat))),some (.sh (aq x2)),some (.sh (ao A)),some (.sh (ao B)),none]=_
 rw [bA s6]
 exact eY (Fs (wo rfl rfl rfl s7) (by show 4 ≤ 1000; decide))
open PySem PySem.Spec PyProof.Rows L2 TM Qm Rq
theorem dg {n:Nat} (h:n ≤ 100):([]:List T).length + n ≤ sizeLine:=by rw [List.length_nil,Nat.zero_add]; exact bR (by omega)
theorem gS {fa fb:FE} {τ τ':aA} (h:fa τ=some (.bl true,τ')):ek fa fb τ=fb τ':=by
 unfold ek
 rw [h]
 rfl
theorem AS {fa fb:FE} {τ τ':aA} (h:fa τ=some (.bl false,τ')):ek fa fb τ=some (.bl false,τ'):=by
 unfold ek
 rw [h]
 rfl
theorem yM (ts:List T):cm [.lst ts]=some (.int (ts.length:Nat)):=rfl
theorem yN (r:List Rat):cm [aq r]=some (.int (r.length:Nat)):=by
 show some (T.int ((r.map bg).length:Nat))=_
 rw [List.length_map]
theorem wH (a b:Nat):kH (.int (a:Nat)) (.int (b:Nat))=some (.bl (decide (a=b))):=by
 rw [nv]
 exact congrArg (fun z=>some (T.bl z)) (decide_eq_decide.mpr (by omega))
abbrev pP:List T -> Option T:=bX 2 2 (ur A5)
def BE:FE:=cq 1 [] (bf (af 0)) (ar 0) aD (aj A5 (aa (af 0) ai))
theorem Je (t:T) (n:Nat):pP [t,.int (n:Nat)]=((bG (ek (aj bp (aa (af 0) (aa (fC (.ty "list")) ai))) (ek (aH kH (aj cm (aa (af 0) ai)) (af 1)) (aj pM (aa BE ai)))) [some (.sh t),some (.sh (.int (n:Nat)))]).bind fun r=>match r with | .rt t=>some t | .nx _=>some .non | _=>none):=rfl
theorem wU {α:Type} {φ:α -> T} {f:α -> Bool} (l:List α) (hl:l.length ≤ 100) (h:∀ x ∈ l,A5 [φ x]=some (.bl (f x))) (n:Nat):pP [.lst (l.map φ),.int (n:Nat)]=some (.bl (decide (l.length=n) && l.all f)):=by
 have c1:=bK (φ:=φ) (fe:=aj A5 (aa (af 0) ai)) (g:=fun x=>T.bl (f x)) (ρ:=[]) rfl l none [] (fun x hx=>aG [φ x] rfl (h x hx)) (dg hl)
 have e1:=bH (no:=1) (cap:=[]) (fi:=bf (af 0)) (fg:=ar 0) (ft:=aD) (τ:=[some (.sh (.lst (l.map φ))),some (.sh (.int (n:Nat)))]) (h1:=rfl) rfl rfl c1
 rw [List.nil_append] at e1
 have e2:aj bp (aa (af 0) (aa (fC (.ty "list")) ai)) [some (.sh (.lst (l.map φ))),some (.sh (.int (n:Nat)))]=some (.bl true,[some (.sh (.lst (l.map φ))),some (.sh (.int (n:Nat)))]):=rfl
 have e3:aH kH (aj cm (aa (af 0) ai)) (af 1) [some (.sh (.lst (l.map φ))),some (.sh (.int (n:Nat)))]=some (.bl (decide (l.length=n)),[some (.sh (.lst (l.map φ))),some (.sh (.int (n:Nat)))]):=br (aG _ (eV rfl) (yM _)) rfl (by rw [List.length_map]; exact wH _ _)
 rw [Je]
 unfold bG
 rw [gS e2]
 by_cases hn:l.length=n
 ·rw [decide_eq_true hn] at e3
  rw [gS e3,show aj pM (aa BE ai) [some (.sh (.lst (l.map φ))),some (.sh (.int (n:Nat)))]=_ from aG _ (eV e1) (all_map f l),decide_eq_true hn]
  rfl
 ·rw [decide_eq_false hn] at e3
  rw [AS e3,decide_eq_false hn]
  rfl
theorem GX {alts:List (Addr × (List T -> Option T))} {m:Str} {fo:FE} {g:FA} {τ τ1 τ2:aA} {C:Addr} {ns:List Str} {ts qs:List T} {d:List T -> Option T} {t:T} (h:fo τ=some (.obj C ns ts,τ1)) (hm:¬ m ∈ ns) (hf:uI C alts=some d) (hg:g τ1=some (qs,τ2)) (hd:d (.obj C ns ts :: qs)=some t):gu alts m fo g τ=some (t,τ2):=by
 unfold gu
 rw [h,Option.bind_some]
 dsimp only
 rw [if_neg hm,hf,Option.bind_some,hg,Option.bind_some]
 dsimp only
 rw [hd]
 rfl
theorem oA {f:FE} {τ:aA} {u:T} (h:f τ=some (u,τ)):dw (aa f ai) τ=some (.lst [u],τ):=by
 unfold dw
 rw [eV h,Option.bind_some]
 exact if_pos KS
theorem ES (a b:Int) (τ:aA):dU (aa (fC (.int a)) (aa (fC (.int b)) ai)) τ=some (.tup [.int a,.int b],τ):=by
 unfold dU
 rw [dv (f:=fC (.int a)) (g:=fC (.int b)) rfl rfl,Option.bind_some]
 exact if_pos KW
theorem qC {c1 c2:FT} {τ τ' τ'':aA} (h1:c1 τ=some (false,τ')) (h2:c2 τ'=some (false,τ'')):lT c1 c2 τ=some (false,τ''):=by
 unfold lT
 rw [h1,Option.bind_some]
 exact (if_neg Bool.false_ne_true).trans h2
theorem yi {a b c:Int} {fb fc:FE} {τ:aA} (hb:fb τ=some (.int b,τ)) (hc:fc τ=some (.int c,τ)) (h1:a ≤ b) (h2:b ≤ c):je zY zY (fC (.int a)) fb fc τ=some (.bl true,τ):=by
 unfold je
 rw [show fC (.int a) τ=some (.int a,τ) from rfl,Option.bind_some,hb,Option.bind_some]
 rw [show zY (.int a) (.int b)=some (.bl (decide (a ≤ b))) from rfl,decide_eq_true h1,Option.bind_some]
 dsimp only
 rw [hc,Option.bind_some,show zY (.int b) (.int c)=some (.bl (decide (b ≤ c))) from rfl,decide_eq_true h2]
 rfl
theorem B5 {f:FE} {τ τ':aA} (h:f τ=some (.bl true,τ')):cH (eG f) τ=some (false,τ'):=by
 unfold cH eG
 rw [h]
 rfl
theorem IB {m n:Nat} {fb:FS} {ts:List T} {τ:aA} (hl:ts.length=n) (h:fb (ts.map (fun t=>some (Sl.sh t)) ++ List.replicate (m - n) none)=some (.nx τ)):bX m n fb ts=some .non:=by
 unfold bX
 rw [if_pos hl,h]
 rfl
theorem Jj {x:Rat} (h:Lq 1 9 x):Sm x:=(Ov.lq h).sm (dC 1) (by decide +kernel) (by decide +kernel)
structure Tn (m w:Nat) (A:List (List Rat)):Prop where
 len:A.length=m
 wd:∀ r ∈ A,r.length=w
 sm:∀ r ∈ A,∀ x ∈ r,Sm x
theorem Tw.tn {m w:Nat} {A:List (List Rat)} (h:Tw m w A):Tn m w A:=⟨h.len,h.bw.wd,fun r hr x hx=>Jj (h.bw.lq r hr x hx)⟩
structure Sy (m i o:Nat) (A B C D:List (List Rat)):Prop where
 a:Tn m m A
 b:Tn m i B
 c:Tn o m C
 d:Tn o i D
theorem iT.sy {m i o:Nat} {A B C D:List (List Rat)} (h:iT m i o A B C D):Sy m i o A B C D:=⟨h.a.tn,h.b.tn,h.c.tn,h.d.tn⟩
theorem yp {r:List Rat} {w:Nat} (hl:r.length=w) (h8:w ≤ 100) (h:∀ x ∈ r,Sm x):pP [aq r,.int (w:Nat)]=some (.bl true):=by
 have e:=wU (φ:=bg) (f:=fun _=>true) r (by omega) (fun x hx=>GD (h x hx)) w
 rw [decide_eq_true hl,show (r.all fun _=>true)=true by simp] at e
 exact e
abbrev A7:List T -> Option T:=bX 3 3 (fj pP)
theorem qx {m w:Nat} {A:List (List Rat)} (h:Tn m w A) (hm:m ≤ 100) (hw:w ≤ 100):A7 [ao A,.int (m:Nat),.int (w:Nat)]=some (.bl true):=by
 have c1:=bK (φ:=aq) (fe:=aj pP (aa (af 0) (aa (af 1) ai))) (g:=fun _=>T.bl true) (ρ:=[some (.sh (.int (w:Nat)))]) rfl A none [] (fun r hr=>aG [aq r,.int (w:Nat)] rfl (yp (h.wd r hr) hw (h.sm r hr))) (dg (by rw [h.len]; exact hm))
 have e1:=bH (no:=1) (cap:=[2]) (fi:=bf (af 0)) (fg:=ar 0) (ft:=aD) (τ:=[some (.sh (ao A)),some (.sh (.int (m:Nat))),some (.sh (.int (w:Nat)))]) (ts:=A.map aq) rfl rfl rfl c1
 rw [List.nil_append] at e1
 have e2:aj bp (aa (af 0) (aa (fC (.ty "list")) ai)) [some (.sh (ao A)),some (.sh (.int (m:Nat))),some (.sh (.int (w:Nat)))]=some (.bl true,[some (.sh (ao A)),some (.sh (.int (m:Nat))),some (.sh (.int (w:Nat)))]):=rfl
 have e3:aH kH (aj cm (aa (af 0) ai)) (af 1) [some (.sh (ao A)),some (.sh (.int (m:Nat))),some (.sh (.int (w:Nat)))]=some (.bl true,[some (.sh (ao A)),some (.sh (.int (m:Nat))),some (.sh (.int (w:Nat)))]):=br (aG _ (eV rfl) (len_tab A)) rfl (by rw [wH,decide_eq_true h.len])
 have e4:=aG (g:=pM) _ (eV e1) (all_map (fun _=>true) A)
 rw [show (A.all fun _=>true)=true by simp] at e4
 refine dq rfl ?_
 show fj pP [some (.sh (ao A)),some (.sh (.int (m:Nat))),some (.sh (.int (w:Nat)))]=_
 unfold fj
 exact eY ((gS e2).trans ((gS e3).trans e4))
abbrev A6:List T -> Option T:=bX 7 4 (gM A7)
section
variable {m i o:Nat} {A B C D:List (List Rat)}
theorem Sy.row0 (h:Sy m i o A B C D) (ho:0 < o):(D.getD 0 []).length=i:=by
 have hl:=h.d.len
 cases D with
 | nil=>simp at hl; omega
 | cons d D=>exact h.d.wd d List.mem_cons_self
theorem Gm (h:Sy m i o A B C D) (hm:m ≤ 100) (hi:1 ≤ i /\ i ≤ 2) (ho:1 ≤ o /\ o ≤ 2):A6 [ao A,ao B,ao C,ao D]=some (.bl true):=by
 have t1:=qx h.a hm hm
 have t2:=qx h.b hm (by omega)
 have t3:=qx h.c (by omega) hm
 have t4:=qx h.d (by omega) (by omega)
 have lA:=len_tab A
 have lD:=len_tab D
 have lR:=yN (D.getD 0 [])
 have ix:bB (ao D) (.int 0)=some (aq (D.getD 0 [])):=GK (i:=0) (by rw [h.d.len]; omega)
 rw [h.row0 (by omega)] at lR
 rw [h.a.len] at lA
 rw [h.d.len] at lD
 have iR:bp [aq (D.getD 0 []),.ty "list"]=some (.bl true):=rfl
 generalize D.getD 0 []=R at *
 have hi1:(1:Int) ≤ ((i:Nat):Int):=by omega
 have hi2:((i:Nat):Int) ≤ 2:=by omega
 have ho1:(1:Int) ≤ ((o:Nat):Int):=by omega
 have ho2:((o:Nat):Int) ≤ 2:=by omega
 have v3:∀ {s4 s5 s6:Option Sl},aH bB (af 3) (fC (.int 0)) [some (.sh (ao A)),some (.sh (ao B)),some (.sh (ao C)),some (.sh (ao D)),s4,s5,s6]=some (aq R,[some (.sh (ao A)),some (.sh (ao B)),some (.sh (ao C)),some (.sh (ao D)),s4,s5,s6]):=fun {s4 s5 s6}=>br rfl rfl ix
 have l0:aj cm (aa (af 0) ai) [some (.sh (ao A)),some (.sh (ao B)),some (.sh (ao C)),some (.sh (ao D)),none,none,none]=some (.int (m:Nat),_):=aG _ (eV rfl) lA
 have l3:aj cm (aa (af 3) ai) [some (.sh (ao A)),some (.sh (ao B)),some (.sh (ao C)),some (.sh (ao D)),none,none,none]=some (.int (o:Nat),_):=aG _ (eV rfl) lD
 have l30:aj cm (aa (aH bB (af 3) (fC (.int 0))) ai) [some (.sh (ao A)),some (.sh (ao B)),some (.sh (ao C)),some (.sh (ao D)),none,none,none]=some (.int (i:Nat),_):=aG _ (eV v3) lR
 have s1:cn (lT (cH (dk (aj bp (aa (af 0) (aa (fC (.ty "list")) ai))))) (lT (cH (dk (aj bp (aa (af 3) (aa (fC (.ty "list")) ai))))) (cH (eG (je zY zY (fC (.int 1)) (aj cm (aa (af 3) ai)) (fC (.int 2))))))) (bG (fC (.bl false))) bQ [some (.sh (ao A)),some (.sh (ao B)),some (.sh (ao C)),some (.sh (ao D)),none,none,none]=some (.nx [some (.sh (ao A)),some (.sh (ao B)),some (.sh (ao C)),some (.sh (ao D)),none,none,none]):=B9 rfl (qC (yT rfl) (B5 (yi l3 rfl ho1 ho2)))
 have s2:cn (lT (cH (dk (aj bp (aa (aH bB (af 3) (fC (.int 0))) (aa (fC (.ty "list")) ai))))) (cH (eG (je zY zY (fC (.int 1)) (aj cm (aa (aH bB (af 3) (fC (.int 0))) ai)) (fC (.int 2)))))) (bG (fC (.bl false))) bQ [some (.sh (ao A)),some (.sh (ao B)),some (.sh (ao C)),some (.sh (ao D)),none,none,none]=some (.nx [some (.sh (ao A)),some (.sh (ao B)),some (.sh (ao C)),some (.sh (ao D)),none,none,none]):=B9 (aG _ (dv v3 rfl) iR) (B5 (yi l30 rfl hi1 hi2))
 have s3:yr 4 5 6 (aa (aj cm (aa (af 0) ai)) (aa (aj cm (aa (aH bB (af 3) (fC (.int 0))) ai)) (aa (aj cm (aa (af 3) ai)) ai))) [some (.sh (ao A)),some (.sh (ao B)),some (.sh (ao C)),some (.sh (ao D)),none,none,none]=some (.nx [some (.sh (ao A)),some (.sh (ao B)),some (.sh (ao C)),some (.sh (ao D)),some (.sh (.int (m:Nat))),some (.sh (.int (i:Nat))),some (.sh (.int (o:Nat)))]):=by
  unfold yr
  rw [gF l0 l30 l3]
  rfl
 refine dq rfl ?_
 show gM A7 [some (.sh (ao A)),some (.sh (ao B)),some (.sh (ao C)),some (.sh (ao D)),none,none,none]=_
 unfold gM
 rw [bA s1,bA s2,bA s3]
 exact eY ((gS (aG _ (gF rfl rfl rfl) t1)).trans ((gS (aG _ (gF rfl rfl rfl) t2)).trans ((gS (aG _ (gF rfl rfl rfl) t3)).trans (aG _ (gF rfl rfl rfl) t4))))
abbrev fN:Addr:=300
abbrev Iu:Addr:=38
abbrev iz:Addr:=58
abbrev iU:Addr:=77
def m6 (r:List Rat):T:=.tup (r.map bg)
def pD (A:List (List Rat)):T:=.tup (A.map m6)
abbrev uK (A B C D:List (List Rat)):T:=.tup [pD A,pD B,pD C,pD D]
def bJ (A B C D:List (List Rat)):T:=.obj fN ["four"] [uK A B C D]
theorem BD {t:FS} {fr:Addr -> FI} {x:Addr} {τ:aA} {ns:List Str} {us:List T} (h:t τ=some (.nx τ)) (ha:bM τ=true) (h0:τ[0]? = some (some (.sh (.ptr x)))):BC t fr x τ ns us=fr x τ ns us:=by
 unfold BC
 rw [h,Option.bind_some]
 dsimp only
 rw [if_pos ha,h0]
 exact if_pos rfl
theorem GC {f:Str} {fe:FE} {fr:Addr -> FI} {x:Addr} {τ:aA} {ns:List Str} {us:List T} {t:T} (h:fe τ=some (t,τ)) (ha:bM τ=true) (hn:¬ f ∈ ns /\ ns.length < 999) (h0:τ[0]? = some (some (.sh (.ptr x)))):DF f fe fr x τ ns us=fr x τ (ns ++ [f]) (us ++ [t]):=by
 unfold DF
 rw [h,Option.bind_some]
 dsimp only
 rw [if_pos ⟨ha,hn⟩,h0]
 exact if_pos rfl
theorem Bq {P:List (List Rat) -> Prop} (a:P A) (b:P B) (c:P C) (d:P D):∀ X ∈ [A,B,C,D],P X:=by
 intro X hX
 simp only [List.mem_cons,List.not_mem_nil,or_false] at hX
 rcases hX with rfl | rfl | rfl | rfl
 ·exact a
 ·exact b
 ·exact c
 ·exact d
theorem Sy.len8 (h:Sy m i o A B C D) (hm:m ≤ 8) (ho:o ≤ 8):∀ X ∈ [A,B,C,D],X.length ≤ 8:=Bq (P:=fun X=>X.length ≤ 8) (by rw [h.a.len]; exact hm) (by rw [h.b.len]; exact hm) (by rw [h.c.len]; exact ho) (by rw [h.d.len]; exact ho)
theorem HF {f g p q:FE} {τ:aA} {t u v x:T} (h:f τ=some (t,τ)) (h':g τ=some (u,τ)) (h'':p τ=some (v,τ)) (h3:q τ=some (x,τ)):dU (aa f (aa g (aa p (aa q ai)))) τ=some (.tup [t,u,v,x],τ):=by
 unfold dU
 rw [wo h h' h'' h3,Option.bind_some]
 exact if_pos KZ
abbrev HQ:List T -> Option wb:=dI 5 4 (cP A6)
theorem IM (h:Sy m i o A B C D) (hm:m ≤ 8) (hi:1 ≤ i /\ i ≤ 2) (ho:1 ≤ o /\ o ≤ 2):HQ [ao A,ao B,ao C,ao D]=some (((["four"]:List Str),[uK A B C D]):wb):=by
 refine Iw ⟨rfl,fun x=>?_⟩
 show cP A6 x [some (.sh (.ptr x)),some (.sh (ao A)),some (.sh (ao B)),some (.sh (ao C)),some (.sh (ao D))] [] []=_
 have t1:=Gm h (by omega) hi ho
 have lA:=len_tab A
 rw [h.a.len] at lA
 have l8:=h.len8 hm (by omega)
 have s1:cn (cH (dk (aj A6 (aa (af 1) (aa (af 2) (aa (af 3) (aa (af 4) ai))))))) eD bQ [some (.sh (.ptr x)),some (.sh (ao A)),some (.sh (ao B)),some (.sh (ao C)),some (.sh (ao D))]=some (.nx [some (.sh (.ptr x)),some (.sh (ao A)),some (.sh (ao B)),some (.sh (ao C)),some (.sh (ao D))]):=yz (aG _ (wo rfl rfl rfl rfl) t1)
 have s2:cn (eG (aH zX (aj cm (aa (af 1) ai)) (fC (.int 8)))) eD bQ [some (.sh (.ptr x)),some (.sh (ao A)),some (.sh (ao B)),some (.sh (ao C)),some (.sh (ao D))]=some (.nx [some (.sh (.ptr x)),some (.sh (ao A)),some (.sh (ao B)),some (.sh (ao C)),some (.sh (ao D))]):=by
  refine kL ?_
  unfold eG
  rw [br (g:=zX) (t:=.bl (decide (((m:Nat):Int) > 8))) (aG (g:=cm) [ao A] (eV rfl) lA) rfl rfl,decide_eq_false (by omega)]
  rfl
 have hc:=bK (φ:=ao) (fe:=aj dt (aa (cq 1 [] (bf (af 0)) (ar 0) aD (aj dt (aa (af 0) ai))) ai)) (g:=pD) (ρ:=[]) rfl [A,B,C,D] none [] (fun X hX=>by
  have hc:=bK (φ:=aq) (fe:=aj dt (aa (af 0) ai)) (g:=m6) (ρ:=[]) rfl X none [] (fun r hr=>aG [aq r] rfl rfl) (eO (l8 X hX))
  have e:=bH (no:=1) (cap:=[]) (fi:=bf (af 0)) (fg:=ar 0) (ft:=aD) (τ:=[some (.sh (ao X))]) (ts:=X.map aq) rfl rfl rfl hc
  exact aG _ (eV e) rfl) (eO (by simp))
 have hi:bf (dU (aa (af 1) (aa (af 2) (aa (af 3) (aa (af 4) ai))))) [some (.sh (.ptr x)),some (.sh (ao A)),some (.sh (ao B)),some (.sh (ao C)),some (.sh (ao D))]=some ([A,B,C,D].map ao,[some (.sh (.ptr x)),some (.sh (ao A)),some (.sh (ao B)),some (.sh (ao C)),some (.sh (ao D))]):=by
  unfold bf
  rw [HF (t:=ao A) (u:=ao B) (v:=ao C) (x:=ao D) rfl rfl rfl rfl]
  rfl
 have e:=bH (no:=1) (cap:=[]) (fg:=ar 0) (ft:=aD) hi rfl rfl hc
 unfold cP
 rw [BD s1 rfl rfl,BD s2 rfl rfl,GC (aG _ (eV e) rfl) rfl ⟨by decide,by decide⟩ rfl]
 rfl
abbrev wc:List T -> Option T:=bX 1 1 (iM fN)
abbrev J8:List T -> Option T:=bX 1 1 (jL fN)
theorem Bg:wc [bJ A B C D]=some (.int (A.length:Nat)):=by
 refine dq rfl (eY (aG (t:=.int (A.length:Nat)) [pD A] (eV (br (g:=bB) (t:=pD A) (a:=uK A B C D) (b:=.int 0) rfl rfl rfl)) ?_))
 show some (T.int ((A.map m6).length:Nat))=_
 rw [List.length_map]
theorem DL {t:T} {ts:List T}:bB (.tup (t :: ts)) (.int 0)=some t:=by
 show ng (t :: ts) 0=_
 unfold ng yF
 rw [if_pos (by decide),if_pos (by rw [List.length_cons]; omega)]
 rfl
theorem IH (h:Sy m i o A B C D) (ho:0 < o):J8 [bJ A B C D]=some (.int (i:Nat)):=by
 have hr:=h.row0 ho
 have hl:=h.d.len
 cases D with
 | nil=>simp at hl; omega
 | cons d D =>
  refine dq rfl (eY (aG (t:=.int (i:Nat)) [m6 d] (eV (br (g:=bB) (t:=m6 d) (a:=pD (d :: D)) (b:=.int 0) (br (g:=bB) (a:=uK A B C (d :: D)) (b:=.int 3) rfl rfl rfl) rfl DL)) ?_))
  show some (T.int ((d.map bg).length:Nat))=_
  rw [List.length_map]
  exact congrArg (fun n:Nat=>some (T.int (n:Nat))) hr
abbrev IA:List T -> Option T:=bX 1 1 (ia fN)
theorem II (h:Sy m i o A B C D) (hm:m ≤ 8) (ho:o ≤ 8):IA [bJ A B C D]=some (.tup [ao A,ao B,ao C,ao D]):=by
 have l8:=h.len8 hm ho
 have hc:=bK (φ:=pD) (fe:=cq 1 [] (bf (af 0)) (ar 0) aD (aj dList (aa (af 0) ai))) (g:=ao) (ρ:=[]) rfl [A,B,C,D] none [] (fun X hX=>by
  have hc:=bK (φ:=m6) (fe:=aj dList (aa (af 0) ai)) (g:=aq) (ρ:=[]) rfl X none [] (fun r hr=>aG [m6 r] rfl rfl) (eO (l8 X hX))
  exact bH (no:=1) (cap:=[]) (fi:=bf (af 0)) (fg:=ar 0) (ft:=aD) (τ:=[some (.sh (pD X))]) (ts:=X.map m6) rfl rfl rfl hc) (eO (by simp))
 have e:=bH (no:=1) (cap:=[]) (fi:=bf (Bk [fN] "four" (af 0))) (fg:=ar 0) (ft:=aD) (τ:=[some (.sh (bJ A B C D))]) (ts:=[A,B,C,D].map pD) rfl rfl rfl hc
 exact dq rfl (eY (aG _ (eV e) rfl))
theorem Fm {c:FT} {f1 f2:FX} {τ τ':aA} (h:c τ=some (true,τ')):wL c f1 f2 τ=f1 τ':=by
 unfold wL
 rw [h]
 rfl
theorem Jc {c:FT} {f1 f2:FX} {τ τ':aA} (h:c τ=some (false,τ')):wL c f1 f2 τ=f2 τ':=by
 unfold wL
 rw [h]
 rfl
theorem Ht {f:FS} {fx:FX} {τ τ':aA} (h:f τ=some (.nx τ')):yt f fx τ=fx τ':=by
 unfold yt
 rw [h]
 rfl
theorem JB {f1 f2:FX} {τ:aA} (h:f1 τ=none):wM f1 f2 τ=f2 τ:=by
 unfold wM
 rw [h]
theorem JA {f1 f2:FX} {τ:aA} {z:Addr × aA} (h:f1 τ=some z):wM f1 f2 τ=some z:=by
 unfold wM
 rw [h]
theorem yZ {C:Addr} {x:Str} {τ:aA}:rC C (aa (fC (.str x)) ai) τ=some (C,τ):=rfl
end
open PySem PySem.Spec PyProof.Rows L2 TM Qm Rq
def cG (P:List (List Rat)) (u:List Rat):List Rat:=P.map fun r=>wsum r u
def fW (x y:List Rat):List Rat:=List.zipWith (· + ·) x y
theorem cO (r:List Rat):wsum r []=0:=by unfold wsum; rw [List.zipWith_nil_right]; rfl
theorem mP (f g:Nat -> Rat):∀ (js:List Nat) (u:List Rat),wsum (js.map fun j=>f j + g j) u=wsum (js.map f) u + wsum (js.map g) u
 | [],u=>by rw [List.map_nil,List.map_nil,List.map_nil,dF,Rat.add_zero]
 | j :: js,[]=>by rw [cO,cO,cO,Rat.add_zero]
 | j :: js,y :: u=>by
  rw [List.map_cons,List.map_cons,List.map_cons,bE,bE,bE,mP f g js u]
  grind
theorem iK (x:Rat) (f:Nat -> Rat):∀ (js:List Nat) (u:List Rat),wsum (js.map fun j=>x * f j) u=x * wsum (js.map f) u
 | [],u=>by rw [List.map_nil,List.map_nil,dF,Rat.mul_zero]
 | j :: js,[]=>by rw [cO,cO,Rat.mul_zero]
 | j :: js,y :: u=>by
  rw [List.map_cons,List.map_cons,bE,bE,iK x f js u]
  grind
theorem wO (p:List Rat):(List.range p.length).map (fun j=>p.getD j 0)=p:=by
 refine List.ext_getElem (by simp) fun n h1 h2=>?_
 rw [List.getElem_map,List.getElem_range,List.getD_eq_getElem?_getD,List.getElem?_eq_getElem h2]
 rfl
theorem vo (js:List Nat):(js.map fun _=>(0:Rat))=List.replicate js.length 0:=by
 induction js with
 | nil=>rfl
 | cons j js ih=>rw [List.map_cons,ih]; rfl
theorem qO:∀ (r:List Rat) (P:List (List Rat)) (i:Nat) (u:List Rat),(∀ p ∈ P,p.length=i) -> wsum (kX r P i) u=wsum r (cG P u)
 | [],P,i,u,_=>by
  unfold kX
  rw [show (fun j=>wsum [] (fG P j))=fun _:Nat=>(0:Rat) from funext fun j=>dF _,vo,kn,dF]
 | x :: r,[],i,u,_=>by
  unfold kX
  rw [show (fun j=>wsum (x :: r) (fG [] j))=fun _:Nat=>(0:Rat) from funext fun j=>cO _,vo,kn]
  exact (cO _).symm
 | x :: r,p :: P,i,u,h=>by
  have ih:=qO r P i u fun q hq=>h q (List.mem_cons_of_mem _ hq)
  have hp:=h p List.mem_cons_self
  unfold kX
  rw [show (fun j=>wsum (x :: r) (fG (p :: P) j))=fun j=>x * p.getD j 0 + wsum r (fG P j) from funext fun j=>bE _ _ _ _]
  rw [mP (fun j=>x * p.getD j 0),iK]
  show _=wsum (x :: r) (wsum p u :: cG P u)
  rw [bE,<- ih]
  unfold kX
  rw [<- hp,wO]
theorem C9 {A P:List (List Rat)} {i:Nat} {u:List Rat} (h:∀ p ∈ P,p.length=i):cG (mulM A P i) u=cG A (cG P u):=by
 unfold cG mulM
 rw [List.map_map]
 exact List.map_congr_left fun r _=>qO r P i u h
theorem yg (A:List (List Rat)) (u:List Rat):(cG A u).length=A.length:=List.length_map ..
theorem C7 {x y:List Rat} (h:x.length=y.length):(fW x y).length=x.length:=by
 unfold fW
 rw [List.length_zipWith]
 omega
theorem vj {x:Rat} (h:Lq 1 9 x):Ov (DD 1) 249480 x:=Ov.lq h
theorem Ov.scale {D N E:Nat} {q:Rat} (h:Ov D N q) (hE:0 < E):Ov (D * E) (N * E) q:=by
 obtain ⟨a,rfl,ha⟩:=h
 refine ⟨a * (E:Int),?_,by rw [Int.natAbs_mul,Int.natAbs_natCast]; exact Nat.mul_le_mul_right _ ha⟩
 rw [Int.natCast_mul,Rat.divInt_mul_right (by omega)]
def lL (X Y:List (List Rat)):List (List Rat):=List.zipWith fW X Y
theorem qM:∀ (x y u:List Rat),x.length=y.length -> wsum (fW x y) u=wsum x u + wsum y u
 | [],[],u,_=>by unfold fW; rw [List.zipWith_nil_left,dF,Rat.add_zero]
 | [],_ :: _,_,h=>by simp at h
 | _ :: _,[],_,h=>by simp at h
 | a :: x,b :: y,[],_=>by rw [cO,cO,cO,Rat.add_zero]
 | a :: x,b :: y,c :: u,h=>by
  show wsum ((a + b) :: fW x y) (c :: u)=_
  rw [bE,bE,bE,qM x y u (by simpa using h)]
  grind
theorem uo {w:Nat}:∀ (X Y:List (List Rat)) (u:List Rat),(∀ x ∈ X,x.length=w) -> (∀ y ∈ Y,y.length=w) -> cG (lL X Y) u=fW (cG X u) (cG Y u)
 | [],Y,u,_,_=>by unfold lL cG fW; rw [List.zipWith_nil_left]; rfl
 | x :: X,[],u,_,_=>by unfold lL cG fW; rw [List.zipWith_nil_right,List.map_nil,List.zipWith_nil_right]
 | x :: X,y :: Y,u,h1,h2=>by
  have e:=uo X Y u (fun z hz=>h1 z (List.mem_cons_of_mem _ hz)) (fun z hz=>h2 z (List.mem_cons_of_mem _ hz))
  show wsum (fW x y) u :: cG (lL X Y) u=(wsum x u + wsum y u) :: fW (cG X u) (cG Y u)
  rw [e,qM x y u (by rw [h1 x List.mem_cons_self,h2 y List.mem_cons_self])]
theorem AO {X Y:List (List Rat)} (h:X.length=Y.length):(lL X Y).length=X.length:=by unfold lL; rw [List.length_zipWith,h,Nat.min_self]
theorem um:∀ {X Y:List (List Rat)} {r:List Rat},r ∈ lL X Y -> ∃ x ∈ X,∃ y ∈ Y,r=fW x y
 | [],Y,r,h=>by unfold lL at h; rw [List.zipWith_nil_left] at h; cases h
 | x :: X,[],r,h=>by unfold lL at h; rw [List.zipWith_nil_right] at h; cases h
 | x :: X,y :: Y,r,h=>by
  have h':r ∈ fW x y :: lL X Y:=h
  rcases List.mem_cons.mp h' with rfl | h'
  ·exact ⟨x,List.mem_cons_self,y,List.mem_cons_self,rfl⟩
  ·obtain ⟨a,ha,b,hb,e⟩:=um h'
   exact ⟨a,List.mem_cons_of_mem _ ha,b,List.mem_cons_of_mem _ hb,e⟩
theorem yf {P Q R:Rat -> Prop}:∀ {x y:List Rat},(∀ a ∈ x,P a) -> (∀ b ∈ y,Q b) -> (∀ a b,P a -> Q b -> R (a + b)) -> ∀ z ∈ fW x y,R z
 | [],y,_,_,_,z,hz=>by
  unfold fW at hz
  rw [List.zipWith_nil_left] at hz
  cases hz
 | a :: x,[],_,_,_,z,hz=>by
  unfold fW at hz
  rw [List.zipWith_nil_right] at hz
  cases hz
 | a :: x,b :: y,h1,h2,h3,z,hz=>by
  have hz':z ∈ (a + b) :: fW x y:=hz
  rcases List.mem_cons.mp hz' with rfl | hz'
  ·exact h3 a b (h1 a List.mem_cons_self) (h2 b List.mem_cons_self)
  ·exact yf (fun z hz=>h1 z (List.mem_cons_of_mem _ hz)) (fun z hz=>h2 z (List.mem_cons_of_mem _ hz)) h3 z hz'
theorem ug:∀ (x y:List Rat),(List.zip x y).map (fun p=>bg (p.1 + p.2))=(List.zipWith (· + ·) x y).map bg
 | [],_=>rfl
 | _ :: _,[]=>rfl
 | a :: x,b :: y=>by
  rw [List.zip_cons_cons,List.map_cons,List.zipWith_cons_cons,List.map_cons,ug x y]
theorem x9 (r s:List Rat) (z:List (Option Sl)):eX (aa (af 0) (aa (af 1) ai)) (some (.sh (aq r)) :: some (.sh (aq s)) :: z)=some ((List.zip r s).map fun p=>T.tup [bg p.1,bg p.2],some (.sh (aq r)) :: some (.sh (aq s)) :: z):=by
 have e:=dv (f:=af 0) (g:=af 1) (τ:=some (.sh (aq r)) :: some (.sh (aq s)) :: z) rfl rfl
 unfold eX
 rw [e]
 show some (iL (r.map bg) (s.map bg),_)=_
 rw [jy]
theorem HJ (A B:List (List Rat)) (z:List (Option Sl)):eX (aa (af 0) (aa (af 1) ai)) (some (.sh (ao A)) :: some (.sh (ao B)) :: z)=some ((List.zip A B).map fun p=>T.tup [aq p.1,aq p.2],some (.sh (ao A)) :: some (.sh (ao B)) :: z):=by
 have e:=dv (f:=af 0) (g:=af 1) (τ:=some (.sh (ao A)) :: some (.sh (ao B)) :: z) rfl rfl
 unfold eX
 rw [e]
 show some (iL (A.map aq) (B.map aq),_)=_
 rw [jy]
abbrev IC:List T -> Option T:=bX 2 2 (jA DS)
theorem IL {x y:List Rat} (hl:x.length ≤ 100) (hx:∀ z ∈ x,Sm z) (hy:∀ z ∈ y,Sm z):IC [aq x,aq y]=some (aq (fW x y)):=by
 have hc:=gp (φ:=fun p:Rat × Rat=>bg p.1) (ψ:=fun p=>bg p.2) (fe:=aj DS (aa (af 0) (aa (af 1) ai))) (g:=fun p=>bg (p.1 + p.2)) (ρ:=[]) rfl (List.zip x y) none none [] (fun p hp=>aG [bg p.1,bg p.2] rfl (Ft (hx _ (cJ hp).1) (hy _ (cJ hp).2))) (dg (by rw [List.length_zip]; omega))
 rw [List.nil_append] at hc
 have e:=bH (no:=2) (cap:=[]) (fg:=rK) (ft:=aD) (x9 x y []) rfl rfl hc
 refine dq rfl ?_
 show jA DS [some (.sh (aq x)),some (.sh (aq y))]=_
 unfold jA
 rw [eY e]
 unfold aq fW
 rw [ug]
abbrev Ka:List T -> Option T:=bX 2 2 (gO IC)
theorem IQ {X Y:List (List Rat)} (hl:X.length ≤ 100) (hX:∀ r ∈ X,r.length ≤ 100 /\ ∀ z ∈ r,Sm z) (hY:∀ r ∈ Y,∀ z ∈ r,Sm z):Ka [ao X,ao Y]=some (ao (lL X Y)):=by
 have hc:=gp (φ:=fun p:List Rat × List Rat=>aq p.1) (ψ:=fun p=>aq p.2) (fe:=aj IC (aa (af 0) (aa (af 1) ai))) (g:=fun p=>aq (fW p.1 p.2)) (ρ:=[]) rfl (List.zip X Y) none none [] (fun p hp=>aG [aq p.1,aq p.2] rfl (IL (hX _ (cJ hp).1).1 (hX _ (cJ hp).1).2 (hY _ (cJ hp).2))) (dg (by rw [List.length_zip]; omega))
 rw [List.nil_append] at hc
 have e:=bH (no:=2) (cap:=[]) (fg:=rK) (ft:=aD) (HJ X Y []) rfl rfl hc
 refine dq rfl ?_
 show gO IC [some (.sh (ao X)),some (.sh (ao Y))]=_
 unfold gO
 rw [eY e]
 unfold ao lL
 rw [<- iQ fW,List.map_map]
 rfl
open PySem PySem.Spec PyProof.Rows L2 TM Qm Rq
def Q2 (x:Rat):Prop:=Ov (DD 2) (2 ^ 40) x
theorem Fx {x:Rat} (h:Lq 1 9 x):Q2 x:=by
 have z:=(vj h).scale (dC 1)
 rw [<- nP] at z
 exact z.mono (by decide +kernel)
theorem Ih:DD 2 < C:=by decide +kernel
theorem Fy {x:Rat} (h:Q2 x):Sm x:=h.sm (dC 2) Ih (by decide +kernel)
theorem Ii:DD 1 < C:=by decide +kernel
theorem Kw:249480 < C:=by decide +kernel
theorem mO {n w:Nat} {X:List (List Rat)} (hX:Tw n w X) (hn:n ≤ 8) (hw:w ≤ 8):Tv (DD 1) 249480 X:=⟨by rw [hX.len]; exact hn,fun r hr=>⟨by rw [hX.bw.wd r hr]; exact hw,fun x hx=>vj (hX.bw.lq r hr x hx)⟩,dC 1,Ii,Kw⟩
theorem KJ:yd (DD 1) 249480 (DD 1) 249480:=⟨by decide +kernel,by decide +kernel⟩
theorem sM {n k w:Nat} {X Y:List (List Rat)} (hX:Tw n k X) (hY:Tw k w Y) (hk:k ≤ 5):(mulM X Y w).length=n /\ ∀ r ∈ mulM X Y w,r.length=w /\ ∀ x ∈ r,Q2 x:=by
 unfold mulM
 refine ⟨by rw [List.length_map,hX.len],fun r hr=>?_⟩
 obtain ⟨s,hs,rfl⟩:=List.mem_map.mp hr
 unfold kX
 refine ⟨by rw [List.length_map,List.length_range],fun x hx=>?_⟩
 obtain ⟨j,hj,rfl⟩:=List.mem_map.mp hx
 have z:=nM (dC 1) (dC 1) (r:=s) (s:=fG Y j) (fun x hx=>vj (hX.bw.lq s hs x hx)) fun y hy=>by
  unfold fG at hy
  obtain ⟨t,ht,rfl⟩:=List.mem_map.mp hy
  have hl:=hY.bw.wd t ht
  exact vj (hY.bw.lq t ht _ (zZ (by rw [hl]; exact List.mem_range.mp hj)))
 rw [<- nP] at z
 refine z.mono ?_
 rw [hX.bw.wd s hs]
 exact Nat.le_trans (Nat.mul_le_mul_right _ hk) (by decide +kernel)
theorem Ba {m n:Nat} {fb:wa} {ts:List T} {o:O} (hl:ts.length=n) (h:fb (ts.map (fun t=>some (Sl.sh t)) ++ List.replicate (m - n) none)=some o):jc m n fb ts=some o:=by
 unfold jc
 rw [if_pos hl,h]
theorem Ho {f:lH} {τ τ':aA} {o:O} (h:f τ=some (o,τ')):jN f τ=some o:=by
 unfold jN
 rw [h]
 rfl
abbrev pN:List T -> Option O:=jc 2 2 (jz wD)
theorem Gk {D N D' N':Nat} {A:List (List Rat)} {xs:List Rat} (h1:Tv D N A) (h2:Gv D' N' xs) (f:yd D N D' N'):pN [ao A,aq xs]=some (dX (A.map fun r=>wsum r xs)):=by
 have hX:Tv D' N' (xs.map fun x=>[x]):=⟨by rw [List.length_map]; exact h2.len,fun r hr=>by
  obtain ⟨x,hx,rfl⟩:=List.mem_map.mp hr
  exact ⟨by simp,fun y hy=>by rw [List.mem_singleton.mp hy]; exact h2.ov x hx⟩,h2.dp,h2.db,h2.nb⟩
 have c1:=bK (φ:=bg) (fe:=dw (aa (af 0) ai)) (g:=fun x=>T.lst [bg x]) (ρ:=[]) rfl xs none [] (fun x _=>by
  have l1:=KS
  walk_at "ev") (eO h2.len)
 have e1:=bH (no:=1) (cap:=[]) (fi:=bf (af 1)) (fg:=ar 0) (ft:=aD) (τ:=[some (.sh (ao A)),some (.sh (aq xs))]) (h1:=rfl) rfl rfl c1
 rw [List.nil_append,show T.lst (xs.map fun x=>T.lst [bg x])=ao (xs.map fun x=>[x]) by unfold ao; rw [List.map_map]; rfl] at e1
 have e2:aj wD (aa (af 0) (aa (cq 1 [] (bf (af 1)) (ar 0) aD (dw (aa (af 0) ai))) (aa (fC (.int 1)) ai))) [some (.sh (ao A)),some (.sh (aq xs))]=some (ao (mulM A (xs.map fun x=>[x]) 1),[some (.sh (ao A)),some (.sh (aq xs))]):=aG [ao A,ao (xs.map fun x=>[x]),.int 1] (gF rfl e1 rfl) (Bh (w:=1) h1 hX (fun r hr=>by
  obtain ⟨x,_,rfl⟩:=List.mem_map.mp hr
  rfl) (by decide) f)
 have e3:bf (aj wD (aa (af 0) (aa (cq 1 [] (bf (af 1)) (ar 0) aD (dw (aa (af 0) ai))) (aa (fC (.int 1)) ai)))) [some (.sh (ao A)),some (.sh (aq xs))]=some (A.map fun r=>aq [wsum r xs],[some (.sh (ao A)),some (.sh (aq xs))]):=by
  refine (Lc e2).trans ?_
  unfold mulM
  rw [List.map_map]
  refine congrArg (fun z=>some (z,_)) (List.map_congr_left fun r _=>?_)
  show aq ([wsum r (fG (xs.map fun x=>[x]) 0)])=_
  rw [Dj]
 have c4:=fq (φ:=fun r:List Rat=>aq [wsum r xs]) (fe:=kC (aH bB (af 0) (fC (.int 0)))) (g:=fun r=>O.val (bg (wsum r xs))) (ρ:=[]) rfl A none [] (fun r _=>rfl) (by rw [List.length_nil,Nat.zero_add]; exact bR (by have:=h1.len; omega))
 have e4:=jC (no:=1) (cap:=[]) (fg:=ar 0) (ft:=aD) e3 rfl rfl c4
 refine Ba rfl ?_
 show jz wD [some (.sh (ao A)),some (.sh (aq xs))]=_
 unfold jz
 rw [Ho e4,List.nil_append]
 unfold dX p9
 rw [List.map_map,List.map_map]
 rfl
theorem LG {c:FT} {u:FS} {τ τ':aA} (h:c τ=some (true,τ')):cn c eD u τ=none:=by
 unfold cn
 rw [h]
 rfl
theorem Bb {m n:Nat} {fb:FS} {ts:List T} (h:fb (ts.map (fun t=>some (Sl.sh t)) ++ List.replicate (m - n) none)=none):bX m n fb ts=none:=by
 unfold bX
 rw [h]
 split <;> rfl
theorem wC {m n:Nat} {fx:FX} {ts:List T} {C:Addr} {τ:aA} (hl:ts.length=n) (h:fx (ts.map (fun t=>some (Sl.sh t)) ++ List.replicate (m - n) none)=some (C,τ)):uC m n fx ts=some C:=by
 unfold uC
 rw [if_pos hl,h]
 rfl
theorem GW {C:Addr} {d:List T -> Option wb} {g:FA} {τ τ':aA} {ts:List T} {ns:List Str} {us:List T} (h:g τ=some (ts,τ')) (hd:d ts=some (ns,us)):uF C d g τ=some (.obj C ns us,τ'):=by
 unfold uF
 rw [h,Option.bind_some,hd]
 rfl
theorem yh {dx:List T -> Option Addr} {g:FA} {τ τ':aA} {ts:List T} {C:Addr} (h:g τ=some (ts,τ')) (hd:dx ts=some C):oj dx g τ=some (C,τ'):=by
 unfold oj
 rw [h,Option.bind_some,hd]
 rfl
theorem Iq {f:FE} {g:FG} {τ τ1 τ2:aA} {t:T} (h:f τ=some (t,τ1)) (hg:g t τ1=some τ2):oi f g τ=some (.nx τ2):=by
 unfold oi
 rw [h,Option.bind_some,hg]
 rfl
theorem BW {d:List T -> Option T} {mn:Str} {A B C D:List (List Rat)} {f:FE} {τ:aA} {t:T} (h:f τ=some (bJ A B C D,τ)) (hm:¬ mn ∈ (["four"]:List Str)) (hd:d [bJ A B C D]=some t):gu [(fN,d)] mn f ai τ=some (t,τ):=
 GX (C:=fN) (ns:=["four"]) (ts:=[uK A B C D]) (qs:=[]) (d:=d) h hm rfl rfl hd
abbrev Mn (a b c d:Nat):FG:=cE (aM (ar a) (aM (ar b) (aM (ar c) (aM (ar d) cz))))
abbrev jD (A B K:List (List Rat)) (m:Nat):List (List Rat):=lL A (mulM B K m)
theorem xj {m i:Nat} {A B K:List (List Rat)} (hA:Tw m m A) (hB:Tw m i B) (hK:Tw i m K) (hi:i ≤ 5) {r:List Rat} (hr:r ∈ jD A B K m):r.length=m /\ ∀ x ∈ r,Ov (DD 2) (2 ^ 41) x:=by
 obtain ⟨x,hx,y,hy,rfl⟩:=um hr
 have h2:=(sM hB hK hi).2 y hy
 have h1:∀ z ∈ x,Q2 z:=fun z hz=>Fx (hA.bw.lq x hx z hz)
 have hl:=hA.bw.wd x hx
 refine ⟨by rw [C7 (by rw [hl,h2.1]),hl],yf h1 h2.2 fun a b p q=>?_⟩
 exact (Ov.add (dC 2) p q).mono (by decide +kernel)
theorem BJ {m i:Nat} {A B K:List (List Rat)} (hA:Tw m m A) (hB:Tw m i B) (hK:Tw i m K) (hi:i ≤ 5):(jD A B K m).length=m:=by
 rw [AO (by rw [hA.len,(sM hB hK hi).1]),hA.len]
theorem Jg {m i:Nat} {A B K:List (List Rat)} (hA:Tw m m A) (hB:Tw m i B) (hK:Tw i m K) (hi:i ≤ 5) (hm:m ≤ 8):Tv (DD 2) (2 ^ 41) (jD A B K m):=
 ⟨by rw [BJ hA hB hK hi]; exact hm,fun r hr=>⟨by rw [(xj hA hB hK hi hr).1]; exact hm,(xj hA hB hK hi hr).2⟩,dC 2,Ih,by decide +kernel⟩
abbrev Gh:List T -> Option T:=bX 6 2 (gN fN wD Ka IA)
theorem IE {m i o:Nat} {A B C D K:List (List Rat)} (h:iT m i o A B C D) (hK:Tw i m K) (hm:m ≤ 8) (hi:i ≤ 2) (ho:o ≤ 8):Gh [bJ A B C D,ao K]=some (ao (jD A B K m)):=by
 have t1:=II h.sy hm ho
 have lA:=len_tab A
 rw [h.a.len] at lA
 have p1:=Bh (w:=m) (mO h.b hm (by omega)) (mO hK (by omega) hm) (fun r hr=>hK.bw.wd r hr) hm KJ
 have p2:=IQ (X:=A) (Y:=mulM B K m) (by rw [h.a.len]; omega) (fun r hr=>⟨by rw [h.a.bw.wd r hr]; omega,fun z hz=>Fy (Fx (h.a.bw.lq r hr z hz))⟩) (fun r hr z hz=>Fy (((sM h.b hK (by omega)).2 r hr).2 z hz))
 have s1:oi (gu [(fN,IA)] "tables" (af 0) ai) (Mn 2 3 4 5) [some (.sh (bJ A B C D)),some (.sh (ao K)),none,none,none,none]=some (.nx [some (.sh (bJ A B C D)),some (.sh (ao K)),some (.sh (ao A)),some (.sh (ao B)),some (.sh (ao C)),some (.sh (ao D))]):=Iq (BW (mn := "tables") rfl (by decide) t1) rfl
 refine dq rfl ?_
 show gN fN wD Ka IA [some (.sh (bJ A B C D)),some (.sh (ao K)),none,none,none,none]=_
 unfold gN
 rw [bA s1]
 exact eY (aG _ (dv (t:=ao A) rfl (aG _ (gF (t:=ao B) (u:=ao K) rfl rfl (aG [ao A] (eV rfl) lA)) p1)) p2)
abbrev AG:List T -> Option T:=bX 2 2 (iy fN A7 J8 wc)
theorem Be {m i o:Nat} {A B C D:List (List Rat)} (h:iT m i o A B C D) (ho:0 < o) {t u:T} (hb:A7 [t,.int (i:Nat),.int (m:Nat)]=some u):AG [bJ A B C D,t]=some u:=by
 have c1:wc [bJ A B C D]=some (.int (m:Nat)):=by rw [Bg,h.a.len]
 have c2:=IH h.sy ho
 refine dq rfl ?_
 show iy fN A7 J8 wc [some (.sh (bJ A B C D)),some (.sh t)]=_
 unfold iy
 exact eY (aG _ (gF (t:=t) rfl (BW (mn := "ins") rfl (by decide) c2) (BW (mn := "cells") rfl (by decide) c1)) hb)
abbrev Fg:List T -> Option T:=bX 2 2 (kq fN pP wc)
abbrev Bc:List T -> Option Addr:=uC 2 2 (jM fN iU pP wc)
section
variable {m i o:Nat} {A B C D:List (List Rat)}
theorem tH (h:iT m i o A B C D) {t:T} {b:Bool} (hb:pP [t,.int (m:Nat)]=some (.bl b)):cH (dk (aj pP (aa (af 1) (aa (gu [(fN,wc)] "cells" (af 0) ai) ai)))) [some (.sh (bJ A B C D)),some (.sh t)]=some (!b,[some (.sh (bJ A B C D)),some (.sh t)]):=by
 have c1:wc [bJ A B C D]=some (.int (m:Nat)):=by rw [Bg,h.a.len]
 unfold cH dk
 rw [aG _ (dv (t:=t) rfl (BW (mn := "cells") rfl (by decide) c1)) hb]
 rfl
theorem IK (h:iT m i o A B C D) {t:T} (hb:pP [t,.int (m:Nat)]=some (.bl true)):Fg [bJ A B C D,t]=some .non:=by
 refine IB (τ:=[some (.sh (bJ A B C D)),some (.sh t)]) rfl ?_
 exact kL (tH h hb)
theorem Et (h:iT m i o A B C D) {t:T} (hb:pP [t,.int (m:Nat)]=some (.bl false)):Fg [bJ A B C D,t]=none /\ Bc [bJ A B C D,t]=some iU:=
 ⟨Bb (LG (tH h hb)),wC rfl ((Fm (tH h hb)).trans yZ)⟩
end
open PySem PySem.Spec PyProof.Rows L2 TM Qm Rq
def SB (t:Nat):Nat:=2 ^ (44 * t + 18)
structure Vs (t m:Nat) (x:List Rat):Prop where
 len:x.length=m
 ov:∀ y ∈ x,Ov (DD (2 * t + 1)) (SB t) y
theorem zD {P:Nat -> Prop} (h0:P 0) (h1:P 1) (h2:P 2) (h3:P 3) {t:Nat} (h:t ≤ 3):P t:=by
 rcases t with _ | _ | _ | _ | t
 ·exact h0
 ·exact h1
 ·exact h2
 ·exact h3
 ·omega
theorem Eu {t:Nat} (h:t ≤ 3):DD (2 * t + 1) < C /\ SB t < C:=zD (P:=fun t=>DD (2 * t + 1) < C /\ SB t < C) (by decide +kernel) (by decide +kernel) (by decide +kernel) (by decide +kernel) h
theorem Bo {t:Nat} (h:t ≤ 3):DD 2 * DD (2 * t + 1) < C /\ 8 * (2 ^ 41 * SB t) < C:=zD (P:=fun t=>DD 2 * DD (2 * t + 1) < C /\ 8 * (2 ^ 41 * SB t) < C) (by decide +kernel) (by decide +kernel) (by decide +kernel) (by decide +kernel) h
theorem Vs.gv {t m:Nat} {x:List Rat} (h:Vs t m x) (ht:t ≤ 3) (hm:m ≤ 8):Gv (DD (2 * t + 1)) (SB t) x:=⟨by rw [h.len]; exact hm,h.ov,dC _,(Eu ht).1,(Eu ht).2⟩
theorem Vs.sm {t m:Nat} {x:List Rat} (h:Vs t m x) (ht:t ≤ 3):∀ y ∈ x,Sm y:=fun y hy=>(h.ov y hy).sm (dC _) (Eu ht).1 (Eu ht).2
theorem Vs.start {m:Nat} {x:List Rat} (hl:x.length=m) (hq:∀ y ∈ x,Lq 1 9 y):Vs 0 m x:=⟨hl,fun y hy=>(vj (hq y hy)).mono (by decide +kernel)⟩
theorem Ew (t:Nat):8 * (2 ^ 41 * SB t) ≤ SB (t + 1):=by
 unfold SB
 rw [show 44 * (t + 1) + 18=44 + (44 * t + 18) by omega,Nat.pow_add 2 44,<- Nat.mul_assoc]
 exact Nat.mul_le_mul_right _ (by decide)
theorem Vs.next {t m i:Nat} {x:List Rat} {A B K:List (List Rat)} (hA:Tw m m A) (hB:Tw m i B) (hK:Tw i m K) (hi:i ≤ 5) (hm:m ≤ 8) (h:Vs t m x):Vs (t + 1) m (cG (jD A B K m) x):=by
 refine ⟨by rw [yg,BJ hA hB hK hi],fun y hy=>?_⟩
 unfold cG at hy
 obtain ⟨r,hr,rfl⟩:=List.mem_map.mp hy
 have hr':=xj hA hB hK hi hr
 have z:=nM (dC 2) (dC (2 * t + 1)) hr'.2 h.ov
 rw [<- nP,show 2 + (2 * t + 1)=2 * (t + 1) + 1 by omega,hr'.1] at z
 exact z.mono (Nat.le_trans (Nat.mul_le_mul_right _ hm) (Ew t))
def BK (M:List (List Rat)):Nat -> List Rat -> List (List Rat)
 | 0,_=>[]
 | n + 1,x=>cG M x :: BK M n (cG M x)
theorem Gr (q:Rat):jf (bg q)=true:=rfl
theorem Bp (r:List Rat):kE (dX r)=true:=by
 unfold dX p9
 rw [kE]
 induction r with
 | nil=>rfl
 | cons q r ih =>
  rw [List.map_cons,List.map_cons,lU,ih,kE,Gr]
  rfl
theorem vW:∀ (os:List O) (o:O),O.trs (os ++ [o])=O.trs os ++ [o.tr]
 | [],o=>rfl
 | p :: os,o=>by rw [List.cons_append,O.trs,O.trs,vW os o,List.cons_append]
def KR:FL:=BM 4 (fO pN (aa (af 3) (aa (aH bB (af 4) (mT kI (fC (.int 1)))) ai)))
abbrev Fq (S K x0:T) (M:List (List Rat)) (p:Addr) (s:Option Sl):aA:=[some (.sh S),some (.sh K),some (.sh x0),some (.sh (ao M)),some (.sh (.ptr p)),s]
theorem DN {t m i:Nat} {x:List Rat} {A B K:List (List Rat)} (hA:Tw m m A) (hB:Tw m i B) (hK:Tw i m K) (hi:i ≤ 5) (hm:m ≤ 8) (ht:t ≤ 3) (h:Vs t m x) (S T0 x0:T) (p:Addr) (k:T) (os:List O) (ho:os.length < 100) :
  KR p (os ++ [dX x]) (Fq S T0 x0 (jD A B K m) p (some (.sh k)))=some (os ++ [dX x] ++ [dX (cG (jD A B K m) x)],Fq S T0 x0 (jD A B K m) p (some (.sh k))):=by
 have ap:pN [ao (jD A B K m),aq x]=some (dX (cG (jD A B K m) x)):=Gk (Jg hA hB hK hi hm) (h.gv ht hm) ⟨(Bo ht).1,(Bo ht).2⟩
 have e:fO pN (aa (af 3) (aa (aH bB (af 4) (mT kI (fC (.int 1)))) ai)) [some (.sh S),some (.sh T0),some (.sh x0),some (.sh (ao (jD A B K m))),some (.sh (.lst (O.trs (os ++ [dX x])))),some (.sh k)]=some (dX (cG (jD A B K m) x),[some (.sh S),some (.sh T0),some (.sh x0),some (.sh (ao (jD A B K m))),some (.sh (.lst (O.trs (os ++ [dX x])))),some (.sh k)]):=by
  refine Dg [ao (jD A B K m),aq x] (dv rfl (br (g:=bB) (b:=.int (-1)) rfl rfl ?_)) ap
  rw [vW,zc]
  exact yH
 show (fO pN (aa (af 3) (aa (aH bB (af 4) (mT kI (fC (.int 1)))) ai)) [some (.sh S),some (.sh T0),some (.sh x0),some (.sh (ao (jD A B K m))),some (.sh (.lst (O.trs (os ++ [dX x])))),some (.sh k)]).bind _=_
 rw [e,Option.bind_some]
 exact if_pos ⟨Bp _,dR (by rw [List.length_append,List.length_cons,List.length_nil]; omega)⟩
theorem yK {m i:Nat} {A B K:List (List Rat)} (hA:Tw m m A) (hB:Tw m i B) (hK:Tw i m K) (hi:i ≤ 5) (hm:m ≤ 8) (S T0 x0:T) (p:Addr):∀ (ks:List T) (t:Nat) (x:List Rat) (os:List O) (s:Option Sl),t + ks.length ≤ 4 -> Vs t m x -> os.length + ks.length < 100 ->
  ∃ s',kc 4 (ar 5) KR ks p (os ++ [dX x]) (Fq S T0 x0 (jD A B K m) p s)=some (os ++ [dX x] ++ (BK (jD A B K m) ks.length x).map dX,Fq S T0 x0 (jD A B K m) p s')
 | [],t,x,os,s,_,_,_=>⟨s,by rw [List.length_nil,BK,List.map_nil,List.append_nil]; rfl⟩
 | k :: ks,t,x,os,s,ht,hx,ho=>by
  rw [List.length_cons] at ht ho
  obtain ⟨s',e⟩:=yK hA hB hK hi hm S T0 x0 p ks (t + 1) (cG (jD A B K m) x) (os ++ [dX x]) (some (.sh k)) (by omega) (hx.next hA hB hK hi hm) (by rw [List.length_append,List.length_cons,List.length_nil]; omega)
  refine ⟨s',?_⟩
  have b:=DN hA hB hK hi hm (by omega) hx S T0 x0 p k os (by omega)
  rw [kc,show ar 5 k (Fq S T0 x0 (jD A B K m) p s)=some (Fq S T0 x0 (jD A B K m) p (some (.sh k))) from rfl,Option.bind_some,if_pos (oy rfl),b,Option.bind_some,e,List.length_cons,BK,List.map_cons,List.append_assoc,List.append_assoc,List.append_assoc]
  rfl
theorem DP {f:FE} {τ:aA} {r:List Rat} (h:f τ=some (aq r,τ)):rA f τ=some (dX r,τ):=by
 unfold rA
 rw [h]
 rfl
theorem GU {x:Nat} {fi:FA} {fg:FG} {fb:FL} {p:Addr} {os:List O} {τ τ1:aA} {ts:List T} (h:fi τ=some (ts,τ1)) (hp:kM x p τ1=true):BN x fi fg fb p os τ=kc x fg fb ts p os τ1:=by
 unfold BN
 rw [h,Option.bind_some]
 exact if_pos hp
theorem G0 {x:Nat} {fo:lH} {g:C6} {τ τ1:aA} {z o:O} (h:fo τ=some (z,τ1)) (hx:x < τ1.length) (hk:∀ p,g p [z] (τ1.set x (some (.sh (.ptr p))))=some o):yq x fo g τ=some o:=by
 unfold yq
 rw [h,Option.bind_some]
 dsimp only
 rw [if_pos hx]
 exact Ci hk fun o' w=>by
  have:=(w 0).symm.trans (hk 0)
  injection this
abbrev kv:List T -> Option O:=jc 6 3 (dm fN AG Fg Gh pN wc)
abbrev CY:List T -> Option T:=fun ts=>(kv ts).bind fun o=>some o.tr
abbrev zR:List T -> Option Addr:=uC 6 3 (dP iz AG Bc)
def HV (M:List (List Rat)) (m:Nat) (x:List Rat):List (List Rat):=x :: BK M m x
section
variable {m i o:Nat} {A B C D K:List (List Rat)}
theorem Bf (h:iT m i o A B C D) (hK:Tw i m K) (hm:m ≤ 4) (hi:i ≤ 2) (ho:1 ≤ o /\ o ≤ 8) {x:List Rat} (hx:Vs 0 m x):kv [bJ A B C D,ao K,aq x]=some (qe (HV (jD A B K m) m x)):=by
 have c1:=Be h (by omega) (qx (A:=K) hK.tn (by omega) (by omega))
 have c2:=IK h (yp (r:=x) hx.len (by omega) (hx.sm (by omega)))
 have c3:=IE h hK (by omega) hi ho.2
 have c4:wc [bJ A B C D]=some (.int (m:Nat)):=by rw [Bg,h.a.len]
 have s1:cn (cH (dk (aj AG (aa (af 0) (aa (af 1) ai))))) eD bQ [some (.sh (bJ A B C D)),some (.sh (ao K)),some (.sh (aq x)),none,none,none]=some (.nx [some (.sh (bJ A B C D)),some (.sh (ao K)),some (.sh (aq x)),none,none,none]):=yz (aG _ (dv rfl rfl) c1)
 have s2:kz (aj Fg (aa (af 0) (aa (af 2) ai))) [some (.sh (bJ A B C D)),some (.sh (ao K)),some (.sh (aq x)),none,none,none]=some (.nx [some (.sh (bJ A B C D)),some (.sh (ao K)),some (.sh (aq x)),none,none,none]):=by
  unfold kz
  rw [aG [bJ A B C D,aq x] (dv rfl rfl) c2]
  rfl
 have s3:bo 3 (aj Gh (aa (af 0) (aa (af 1) ai))) [some (.sh (bJ A B C D)),some (.sh (ao K)),some (.sh (aq x)),none,none,none]=some (.nx [some (.sh (bJ A B C D)),some (.sh (ao K)),some (.sh (aq x)),some (.sh (ao (jD A B K m))),none,none]):=dc (aG [bJ A B C D,ao K] (dv rfl rfl) c3) rfl
 refine Ba rfl ?_
 show dm fN AG Fg Gh pN wc [some (.sh (bJ A B C D)),some (.sh (ao K)),some (.sh (aq x)),none,none,none]=_
 unfold dm
 rw [tU s1,tU s2,tU s3]
 have key:∀ p:Addr,yL (BN 4 (eH (aa (gu [(fN,wc)] "cells" (af 0) ai) ai)) (ar 5) KR) Bl p [dX x] (Fq (bJ A B C D) (ao K) (aq x) (jD A B K m) p none)=some (qe (HV (jD A B K m) m x)):=fun p=>by
  have r:=nJ (f:=gu [(fN,wc)] "cells" (af 0) ai) (τ:=Fq (bJ A B C D) (ao K) (aq x) (jD A B K m) p none) (n:=m) (BW (mn := "cells") rfl (by decide) c4) (by omega)
  obtain ⟨s',e⟩:=yK h.a h.b hK (by omega) (by omega) (bJ A B C D) (ao K) (aq x) p ((List.range m).map fun (i:Nat)=>T.int i) 0 x [] none (by rw [List.length_map,List.length_range]; omega) hx (by rw [List.length_map,List.length_range,List.length_nil]; omega)
  unfold yL
  rw [GU r (oy rfl)]
  rw [List.nil_append] at e
  rw [e,Option.bind_some,List.length_map,List.length_range]
  rfl
 exact G0 (DP (r:=x) rfl) (show 4 < 6 by decide) key
theorem IF (h:iT m i o A B C D) (hK:Tw i m K) (hm:m ≤ 4) (hi:i ≤ 2) (ho:1 ≤ o /\ o ≤ 8) {x:List Rat} (hx:Vs 0 m x):CY [bJ A B C D,ao K,aq x]=some (ao (HV (jD A B K m) m x)):=by
 show (kv _).bind _=_
 rw [Bf h hK hm hi ho hx,Option.bind_some,nL]
theorem qw {m n:Nat} {fb:wa} {ts:List T} (h:fb (ts.map (fun t=>some (Sl.sh t)) ++ List.replicate (m - n) none)=none):jc m n fb ts=none:=by
 unfold jc
 split
 ·exact h
 ·rfl
theorem G1 {f:FE} {τ:aA} (h:f τ=some (.bl false,τ)):cH (dk f) τ=some (true,τ):=by
 unfold cH dk
 rw [h]
 rfl
theorem vg (h:iT m i o A B C D) (ho:0 < o) {t:T} (hb:A7 [t,.int (i:Nat),.int (m:Nat)]=some (.bl false)) (x:T):CY [bJ A B C D,t,x]=none /\ zR [bJ A B C D,t,x]=some iz:=by
 have c1:=Be h ho hb
 have tt:cH (dk (aj AG (aa (af 0) (aa (af 1) ai)))) [some (.sh (bJ A B C D)),some (.sh t),some (.sh x),none,none,none]=some (true,[some (.sh (bJ A B C D)),some (.sh t),some (.sh x),none,none,none]):=G1 (aG _ (dv rfl rfl) c1)
 refine ⟨?_,wC (τ:=[some (.sh (bJ A B C D)),some (.sh t),some (.sh x),none,none,none]) rfl ?_⟩
 ·have z:kv [bJ A B C D,t,x]=none:=qw (by
   show dm fN AG Fg Gh pN wc [some (.sh (bJ A B C D)),some (.sh t),some (.sh x),none,none,none]=_
   unfold dm iN
   rw [LG tt]
   rfl)
  show (kv _).bind _=_
  rw [z]
  rfl
 ·show dP iz AG Bc [some (.sh (bJ A B C D)),some (.sh t),some (.sh x),none,none,none]=_
  unfold dP
  exact JA ((Fm tt).trans yZ)
theorem BL (h:iT m i o A B C D) (ho:0 < o) (hK:Tw i m K) (hm:m ≤ 8) (hi:i ≤ 8) {x:T} (hb:pP [x,.int (m:Nat)]=some (.bl false)):CY [bJ A B C D,ao K,x]=none /\ zR [bJ A B C D,ao K,x]=some iU:=by
 have c1:=Be h ho (qx (A:=K) hK.tn (by omega) (by omega))
 have c2:=Et h hb
 have tt:cH (dk (aj AG (aa (af 0) (aa (af 1) ai)))) [some (.sh (bJ A B C D)),some (.sh (ao K)),some (.sh x),none,none,none]=some (false,[some (.sh (bJ A B C D)),some (.sh (ao K)),some (.sh x),none,none,none]):=yT (aG _ (dv rfl rfl) c1)
 refine ⟨?_,wC (τ:=[some (.sh (bJ A B C D)),some (.sh (ao K)),some (.sh x),none,none,none]) rfl ?_⟩
 ·have z:kv [bJ A B C D,ao K,x]=none:=qw (by
   show dm fN AG Fg Gh pN wc [some (.sh (bJ A B C D)),some (.sh (ao K)),some (.sh x),none,none,none]=_
   unfold dm
   rw [tU (kL tt)]
   unfold iN kz aj
   rw [show aa (af 0) (aa (af 2) ai) [some (.sh (bJ A B C D)),some (.sh (ao K)),some (.sh x),none,none,none]=some ([bJ A B C D,x],[some (.sh (bJ A B C D)),some (.sh (ao K)),some (.sh x),none,none,none]) from rfl,Option.bind_some,c2.1]
   rfl)
  show (kv _).bind _=_
  rw [z]
  rfl
 ·show dP iz AG Bc [some (.sh (bJ A B C D)),some (.sh (ao K)),some (.sh x),none,none,none]=_
  unfold dP
  rw [JB (Jc tt),Ht (kL tt)]
  exact yh (dv rfl rfl) c2.2
end
open PySem PySem.Spec PyProof.Rows L2 TM Qm Rq
abbrev Ff:List T -> Option T:=bX 2 2 (gJ yQ)
theorem Ig {a b:Nat} (ha:a < C) (hb:b < C):a * b ≤ C * C:=Nat.mul_le_mul (Nat.le_of_lt ha) (Nat.le_of_lt hb)
theorem Fi {x y:Rat} (hx:Sm x) (hy:Sm y):Ff [bg x,bg y]=some (bg (x + y)):=by
 have cb:=CB
 have ccb:=Kq
 have b1:x.num.natAbs < B:=ltB hx.n
 have b2:y.num.natAbs < B:=ltB hy.n
 have b3:((x.den:Nat):Int).natAbs < B:=by have:=hx.d; omega
 have b4:((y.den:Nat):Int).natAbs < B:=by have:=hy.d; omega
 have e1:=Ig hx.n hy.d
 have e2:=Ig hy.n hx.d
 have e3:=Ig hx.d hy.d
 have n1:(x.num * ((y.den:Nat):Int)).natAbs=x.num.natAbs * y.den:=by rw [Int.natAbs_mul,Int.natAbs_natCast]
 have n2:(y.num * ((x.den:Nat):Int)).natAbs=y.num.natAbs * x.den:=by rw [Int.natAbs_mul,Int.natAbs_natCast]
 have n3:(((x.den:Nat):Int) * ((y.den:Nat):Int)).natAbs=x.den * y.den:=by rw [Int.natAbs_mul,Int.natAbs_natCast,Int.natAbs_natCast]
 have hf:=sI (a:=x.num * ((y.den:Nat):Int) + y.num * ((x.den:Nat):Int)) (b:=((x.den:Nat):Int) * ((y.den:Nat):Int)) (by have:=Int.natAbs_add_le (x.num * ((y.den:Nat):Int)) (y.num * ((x.den:Nat):Int)); omega) (by omega) (Int.mul_pos (den_pos x) (den_pos y))
 have hd:Rat.divInt (x.num * ((y.den:Nat):Int) + y.num * ((x.den:Nat):Int)) (((x.den:Nat):Int) * ((y.den:Nat):Int))=x + y:=by
  rw [<- Rat.divInt_add_divInt _ _ (Int.ne_of_gt (den_pos x)) (Int.ne_of_gt (den_pos y)),cV,cV]
 rw [hd] at hf
 have i0:∀ (z w:Rat),aH bB (af 0) (fC (.int 0)) [some (.sh (bg z)),some (.sh (bg w))]=some (.int z.num,[some (.sh (bg z)),some (.sh (bg w))]):=fun z w=>br rfl rfl rfl
 have i1:∀ (z w:Rat),aH bB (af 0) (fC (.int 1)) [some (.sh (bg z)),some (.sh (bg w))]=some (.int (z.den:Nat),[some (.sh (bg z)),some (.sh (bg w))]):=fun z w=>br rfl rfl rfl
 have j0:∀ (z w:Rat),aH bB (af 1) (fC (.int 0)) [some (.sh (bg z)),some (.sh (bg w))]=some (.int w.num,[some (.sh (bg z)),some (.sh (bg w))]):=fun z w=>br rfl rfl rfl
 have j1:∀ (z w:Rat),aH bB (af 1) (fC (.int 1)) [some (.sh (bg z)),some (.sh (bg w))]=some (.int (w.den:Nat),[some (.sh (bg z)),some (.sh (bg w))]):=fun z w=>br rfl rfl rfl
 refine dq rfl ?_
 show gJ yQ [some (.sh (bg x)),some (.sh (bg y))]=_
 unfold gJ
 exact eY (aG _ (dv (br (g:=bS) (br (g:=aV) (i0 x y) (j1 x y) (oC b1 b4)) (br (g:=aV) (j0 x y) (i1 x y) (oC b2 b3)) jg) (br (g:=aV) (i1 x y) (j1 x y) (oC b3 b4))) hf)
def DR:FS:=bo 2 (aj Ff (aa (af 2) (aa (aj yQ (aa (aH aV (aH bB (af 3) (fC (.int 0))) (aH bB (af 4) (fC (.int 0)))) (aa (aH aV (aH bB (af 3) (fC (.int 1))) (aH bB (af 4) (fC (.int 1)))) ai))) ai)))
theorem Jk {x y t:Rat} (hx:Sm x) (hy:Sm y) (ht:Sm t) (hxy:Sm (x * y)) (s0 s1:Option Sl):DR [s0,s1,some (.sh (bg t)),some (.sh (bg x)),some (.sh (bg y))]=some (.nx [s0,s1,some (.sh (bg (t + x * y))),some (.sh (bg x)),some (.sh (bg y))]):=by
 have cb:=CB
 have ccb:=Kq
 have b1:x.num.natAbs < B:=ltB hx.n
 have b2:y.num.natAbs < B:=ltB hy.n
 have b3:((x.den:Nat):Int).natAbs < B:=by have:=hx.d; omega
 have b4:((y.den:Nat):Int).natAbs < B:=by have:=hy.d; omega
 have e1:=Ig hx.n hy.n
 have e3:=Ig hx.d hy.d
 have n1:(x.num * y.num).natAbs=x.num.natAbs * y.num.natAbs:=Int.natAbs_mul _ _
 have n3:(((x.den:Nat):Int) * ((y.den:Nat):Int)).natAbs=x.den * y.den:=by rw [Int.natAbs_mul,Int.natAbs_natCast,Int.natAbs_natCast]
 have hf:=sI (a:=x.num * y.num) (b:=((x.den:Nat):Int) * ((y.den:Nat):Int)) (by omega) (by omega) (Int.mul_pos (den_pos x) (den_pos y))
 have hd:Rat.divInt (x.num * y.num) (((x.den:Nat):Int) * ((y.den:Nat):Int))=x * y:=by
  rw [<- Rat.divInt_mul_divInt,cV,cV]
 rw [hd] at hf
 have hp:=Fi ht hxy
 have m1:aH aV (aH bB (af 3) (fC (.int 0))) (aH bB (af 4) (fC (.int 0))) [s0,s1,some (.sh (bg t)),some (.sh (bg x)),some (.sh (bg y))]=some (.int (x.num * y.num),[s0,s1,some (.sh (bg t)),some (.sh (bg x)),some (.sh (bg y))]):=br (g:=aV) (a:=.int x.num) (b:=.int y.num) (br rfl rfl rfl) (br rfl rfl rfl) (oC b1 b2)
 have m2:aH aV (aH bB (af 3) (fC (.int 1))) (aH bB (af 4) (fC (.int 1))) [s0,s1,some (.sh (bg t)),some (.sh (bg x)),some (.sh (bg y))]=some (.int (((x.den:Nat):Int) * ((y.den:Nat):Int)),[s0,s1,some (.sh (bg t)),some (.sh (bg x)),some (.sh (bg y))]):=br (g:=aV) (a:=.int (x.den:Nat)) (b:=.int (y.den:Nat)) (br rfl rfl rfl) (br rfl rfl rfl) (oC b3 b4)
 unfold DR
 exact dc (aG [bg t,bg (x * y)] (dv rfl (aG _ (dv m1 m2) hf)) hp) rfl
theorem vk {D N D' N':Nat} (hD:0 < D) (hD':0 < D') (hd:D < C) (hn:N < C) (hd':D' < C) (hn':N' < C) (hdd:D * D' < C) (s0 s1:Option Sl):∀ (r s:List Rat) (t:Rat) (M:Nat) (u v:Option Sl),(∀ x ∈ r,Ov D N x) -> (∀ y ∈ s,Ov D' N' y) -> Ov (D * D') M t -> M + r.length * (N * N') < C ->
  ∃ u' v',dB (cE (aM (ar 3) (aM (ar 4) cz))) DR ((List.zip r s).map fun p=>T.tup [bg p.1,bg p.2]) [s0,s1,some (.sh (bg t)),u,v]=some (.nx [s0,s1,some (.sh (bg (t + wsum r s))),u',v'])
 | [],s,t,M,u,v,_,_,h,_=>by
  rw [dF,Rat.add_zero]
  exact ⟨u,v,rfl⟩
 | x :: r,[],t,M,u,v,_,_,h,_=>by
  rw [cO,Rat.add_zero]
  exact ⟨u,v,rfl⟩
 | x :: r,y :: s,t,M,u,v,h1,h2,h3,h4=>by
  rw [List.length_cons,Nat.add_mul,Nat.one_mul] at h4
  have hx:=h1 x List.mem_cons_self
  have hy:=h2 y List.mem_cons_self
  have hp:=Ov.mul hx hy
  have dp:0 < D * D':=Nat.mul_pos hD hD'
  have ht1:=h3.add dp hp
  obtain ⟨u',v',g2⟩:=vk hD hD' hd hn hd' hn' hdd s0 s1 r s (t + x * y) (M + N * N') (some (.sh (bg x))) (some (.sh (bg y))) (fun z hz=>h1 z (List.mem_cons_of_mem _ hz)) (fun z hz=>h2 z (List.mem_cons_of_mem _ hz)) ht1 (by omega)
  have hb':=Jk (hx.sm hD hd hn) (hy.sm hD' hd' hn') (h3.sm dp hdd (by omega)) (hp.sm dp hdd (by omega)) s0 s1
  rw [bE,<- Rat.add_assoc]
  refine ⟨u',v',?_⟩
  rw [List.zip_cons_cons,List.map_cons,gh (τ1:=[s0,s1,some (.sh (bg t)),some (.sh (bg x)),some (.sh (bg y))]) rfl hb']
  exact g2
abbrev Iz:List T -> Option T:=bX 5 2 (ef yQ Ff)
theorem IG {D N D' N':Nat} {r s:List Rat} (h1:Gv D N r) (h2:Gv D' N' s) (f:yd D N D' N'):Iz [aq r,aq s]=some (bg (wsum r s)):=by
 obtain ⟨u,v,e⟩:=vk h1.dp h2.dp h1.db h1.nb h2.db h2.nb f.dd (some (.sh (aq r))) (some (.sh (aq s))) r s 0 0 none none h1.ov h2.ov ((Ov.zero _).mono (Nat.zero_le _)) (by
  have:=f.nn
  have:=Nat.mul_le_mul_right (N * N') h1.len
  omega)
 rw [Rat.zero_add] at e
 have s1:bo 2 (dU (aa (fC (.int 0)) (aa (fC (.int 1)) ai))) [some (.sh (aq r)),some (.sh (aq s)),none,none,none]=some (.nx [some (.sh (aq r)),some (.sh (aq s)),some (.sh (bg 0)),none,none]):=dc (ES 0 1 _) rfl
 refine dq rfl ?_
 show ef yQ Ff [some (.sh (aq r)),some (.sh (aq s)),none,none,none]=_
 unfold ef
 rw [bA s1]
 show aT (jU (eX (aa (af 0) (aa (af 1) ai))) (cE (aM (ar 3) (aM (ar 4) cz))) DR) _ _=_
 rw [bA (uJ (x9 r s _) e)]
 rfl
abbrev Dm:List T -> Option T:=bX 2 2 (iu Iz)
theorem wI {D N D' N':Nat} {A:List (List Rat)} {s:List Rat} (h1:Tv D N A) (h2:Gv D' N' s) (f:yd D N D' N'):Dm [ao A,aq s]=some (aq (cG A s)):=by
 have hc:=bK (φ:=aq) (fe:=aj Iz (aa (af 0) (aa (af 1) ai))) (g:=fun r=>bg (wsum r s)) (ρ:=[some (.sh (aq s))]) rfl A none [] (fun r hr=>aG [aq r,aq s] rfl (IG (h1.gv hr) h2 f)) (dg (by have:=h1.len; omega))
 have e:=bH (no:=1) (cap:=[1]) (fi:=bf (af 0)) (fg:=ar 0) (ft:=aD) (τ:=[some (.sh (ao A)),some (.sh (aq s))]) (h1:=rfl) rfl rfl hc
 refine dq rfl ?_
 show iu Iz [some (.sh (ao A)),some (.sh (aq s))]=_
 unfold iu
 rw [eY e,List.nil_append]
 unfold aq cG
 rw [List.map_map]
 rfl
abbrev Iv:List T -> Option T:=bX 2 2 (fX Ff)
theorem ID {x y:List Rat} (hl:x.length ≤ 100) (hx:∀ z ∈ x,Sm z) (hy:∀ z ∈ y,Sm z):Iv [aq x,aq y]=some (aq (fW x y)):=by
 have hc:=gp (φ:=fun p:Rat × Rat=>bg p.1) (ψ:=fun p=>bg p.2) (fe:=aj Ff (aa (af 0) (aa (af 1) ai))) (g:=fun p=>bg (p.1 + p.2)) (ρ:=[]) rfl (List.zip x y) none none [] (fun p hp=>aG [bg p.1,bg p.2] rfl (Fi (hx _ (cJ hp).1) (hy _ (cJ hp).2))) (dg (by rw [List.length_zip]; omega))
 rw [List.nil_append] at hc
 have e:=bH (no:=2) (cap:=[]) (fg:=rK) (ft:=aD) (x9 x y []) rfl rfl hc
 refine dq rfl ?_
 show fX Ff [some (.sh (aq x)),some (.sh (aq y))]=_
 unfold fX
 rw [eY e]
 unfold aq fW
 rw [ug]
theorem wm {D N D' N':Nat} {A:List (List Rat)} {s:List Rat} (h1:Tv D N A) (h2:Gv D' N' s) (f:yd D N D' N'):Gv (D * D') (8 * (N * N')) (cG A s):=by
 refine ⟨by rw [yg]; exact h1.len,fun z hz=>?_,Nat.mul_pos h1.dp h2.dp,f.dd,f.nn⟩
 unfold cG at hz
 obtain ⟨r,hr,rfl⟩:=List.mem_map.mp hz
 exact (nM h1.dp h2.dp (h1.gv hr).ov h2.ov).mono (Nat.mul_le_mul_right _ (h1.gv hr).len)
open PySem PySem.Spec PyProof.Rows L2 TM Qm Rq
theorem ly {i:Nat} {g:FA} {τ τ':aA} {ts:List T} (h:g τ=some (ts,τ')) (hl:ts.length ≤ 1000):cR i g τ=some (.nx (τ'.set i (some (.own ts)))):=by
 unfold cR
 rw [h,Option.bind_some]
 exact if_pos (bR hl)
theorem rE {t:Nat} (h:t ≤ 3):yd (DD 1) 249480 (DD (2 * t + 1)) (SB t):=zD (P:=fun t=>yd (DD 1) 249480 (DD (2 * t + 1)) (SB t)) ⟨by decide +kernel,by decide +kernel⟩ ⟨by decide +kernel,by decide +kernel⟩ ⟨by decide +kernel,by decide +kernel⟩ ⟨by decide +kernel,by decide +kernel⟩ h
theorem yu {t:Nat} (h:t ≤ 3):yd (DD 1) 249480 (DD 1 * DD (2 * t + 1)) (8 * (249480 * SB t)):=zD (P:=fun t=>yd (DD 1) 249480 (DD 1 * DD (2 * t + 1)) (8 * (249480 * SB t))) ⟨by decide +kernel,by decide +kernel⟩ ⟨by decide +kernel,by decide +kernel⟩ ⟨by decide +kernel,by decide +kernel⟩ ⟨by decide +kernel,by decide +kernel⟩ h
theorem GS {m i:Nat} {A B K:List (List Rat)} (hA:Tw m m A) (hB:Tw m i B) (hK:Tw i m K) (hi:i ≤ 5) (x:List Rat):cG (jD A B K m) x=fW (cG A x) (cG B (cG K x)):=by
 rw [uo (w:=m) A (mulM B K m) x (fun r hr=>hA.bw.wd r hr) (fun r hr=>((sM hB hK hi).2 r hr).1),C9 fun r hr=>hK.bw.wd r hr]
def Kk:FS:=(aT (bo 5 (jV 3 (mT kI (fC (.int 1)))))
  (aT (bo 6 (aj Dm (aa (aH bB (af 0) (fC (.int 1))) (aa (aj Dm (aa (af 1) (aa (af 5) ai))) ai))))
  (mS 3 (aj Iv (aa (aj Dm (aa (aH bB (af 0) (fC (.int 0))) (aa (af 5) ai))) (aa (af 6) ai))))))
section
variable {m i o:Nat} {A B C D K:List (List Rat)}
abbrev AJ (A B C D K:List (List Rat)) (x0:T) (ts:List T) (s4 s5 s6:Option Sl):aA:=[some (.sh (fT A B C D)),some (.sh (ao K)),some (.sh x0),some (.own ts),s4,s5,s6]
theorem EM (h:iT m i o A B C D) (hK:Tw i m K) (hm:m ≤ 8) (hi:i ≤ 5) {t:Nat} (ht:t ≤ 3) {x:List Rat} (hx:Vs t m x) (x0:T) (acc:List T) (ha:acc.length < 100) (s4 s5 s6:Option Sl) :
  ∃ y5 y6,Kk (AJ A B C D K x0 (acc ++ [aq x]) s4 s5 s6)=some (.nx (AJ A B C D K x0 (acc ++ [aq x] ++ [aq (cG (jD A B K m) x)]) s4 y5 y6)):=by
 have g:=hx.gv ht hm
 have l1:=wI (mO hK (by omega) hm) g (rE ht)
 have g1:=wm (mO hK (by omega) hm) g (rE ht)
 have l2:=wI (mO h.b hm (by omega)) g1 (yu ht)
 have g2:=wm (mO h.b hm (by omega)) g1 (yu ht)
 have l3:=wI (mO h.a hm hm) g (rE ht)
 have g3:=wm (mO h.a hm hm) g (rE ht)
 have l4:=ID (x:=cG A x) (y:=cG B (cG K x)) (by have:=g3.len; omega) (fun z hz=>g3.sm hz) (fun z hz=>g2.sm hz)
 rw [<- GS h.a h.b hK hi] at l4
 refine ⟨some (.sh (aq x)),some (.sh (aq (cG B (cG K x)))),?_⟩
 have s1:bo 5 (jV 3 (mT kI (fC (.int 1)))) (AJ A B C D K x0 (acc ++ [aq x]) s4 s5 s6)=some (.nx (AJ A B C D K x0 (acc ++ [aq x]) s4 (some (.sh (aq x))) s6)):=dc (DJ (k:=.int (-1)) rfl rfl yH) rfl
 have s2:bo 6 (aj Dm (aa (aH bB (af 0) (fC (.int 1))) (aa (aj Dm (aa (af 1) (aa (af 5) ai))) ai))) (AJ A B C D K x0 (acc ++ [aq x]) s4 (some (.sh (aq x))) s6)=some (.nx (AJ A B C D K x0 (acc ++ [aq x]) s4 (some (.sh (aq x))) (some (.sh (aq (cG B (cG K x))))))):=
  dc (aG [ao B,aq (cG K x)] (dv (br (a:=fT A B C D) (b:=.int 1) rfl rfl rfl) (aG [ao K,aq x] (dv rfl rfl) l1)) l2) rfl
 unfold Kk
 rw [bA s1,bA s2]
 exact Fd (i:=3) (τ:=AJ A B C D K x0 (acc ++ [aq x]) s4 (some (.sh (aq x))) (some (.sh (aq (cG B (cG K x)))))) rfl (aG _ (dv (aG [ao A,aq x] (dv (br (a:=fT A B C D) (b:=.int 0) rfl rfl rfl) rfl) l3) rfl) l4) (dR (by rw [List.length_append,List.length_cons,List.length_nil]; omega))
theorem zx (h:iT m i o A B C D) (hK:Tw i m K) (hm:m ≤ 8) (hi:i ≤ 5) (x0:T):∀ (ks:List T) (t:Nat) (x:List Rat) (acc:List T) (s4 s5 s6:Option Sl),t + ks.length ≤ 4 -> Vs t m x -> acc.length + ks.length < 100 ->
  ∃ y4 y5 y6,dB (ar 4) Kk ks (AJ A B C D K x0 (acc ++ [aq x]) s4 s5 s6)=some (.nx (AJ A B C D K x0 (acc ++ [aq x] ++ (BK (jD A B K m) ks.length x).map aq) y4 y5 y6))
 | [],t,x,acc,s4,s5,s6,_,_,_=>⟨s4,s5,s6,by rw [List.length_nil,BK,List.map_nil,List.append_nil]; rfl⟩
 | k :: ks,t,x,acc,s4,s5,s6,ht,hx,ho=>by
  rw [List.length_cons] at ht ho
  obtain ⟨y5,y6,b⟩:=EM h hK hm hi (by omega) hx x0 acc (by omega) (some (.sh k)) s5 s6
  obtain ⟨z4,z5,z6,e⟩:=zx h hK hm hi x0 ks (t + 1) (cG (jD A B K m) x) (acc ++ [aq x]) (some (.sh k)) y5 y6 (by omega) (hx.next h.a h.b hK hi hm) (by rw [List.length_append,List.length_cons,List.length_nil]; omega)
  refine ⟨z4,z5,z6,?_⟩
  rw [gh (τ1:=AJ A B C D K x0 (acc ++ [aq x]) (some (.sh k)) s5 s6) rfl b,e,List.length_cons,BK,List.map_cons,List.append_assoc,List.append_assoc,List.append_assoc]
  rfl
abbrev Gj:List T -> Option T:=bX 7 3 (fA Dm Iv)
theorem IP (h:iT m i o A B C D) (hK:Tw i m K) (hm:m ≤ 4) (hi:i ≤ 5) {x:List Rat} (hx:Vs 0 m x):Gj [fT A B C D,ao K,aq x]=some (ao (HV (jD A B K m) m x)):=by
 have s1:cR 3 (aa (af 2) ai) [some (.sh (fT A B C D)),some (.sh (ao K)),some (.sh (aq x)),none,none,none,none]=some (.nx (AJ A B C D K (aq x) [aq x] none none none)):=ly (eV rfl) (by simp)
 have ll:=yN x
 rw [hx.len] at ll
 have r:=nJ (f:=aj cm (aa (af 2) ai)) (τ:=AJ A B C D K (aq x) [aq x] none none none) (n:=m) (aG [aq x] (eV rfl) ll) (by omega)
 obtain ⟨y4,y5,y6,e⟩:=zx h hK (by omega) hi (aq x) ((List.range m).map fun (i:Nat)=>T.int i) 0 x [] none none none (by rw [List.length_map,List.length_range]; omega) hx (by rw [List.length_map,List.length_range,List.length_nil]; omega)
 rw [List.nil_append,List.length_map,List.length_range] at e
 refine dq rfl ?_
 show fA Dm Iv [some (.sh (fT A B C D)),some (.sh (ao K)),some (.sh (aq x)),none,none,none,none]=_
 unfold fA
 rw [bA s1]
 show aT (jU (eH (aa (aj cm (aa (af 2) ai)) ai)) (ar 4) Kk) (bG (af 3)) _=_
 rw [bA (uJ r e)]
 rfl
abbrev HR:List T -> Option T:=bX 5 3 (gL Iu iz iU CY zR)
theorem Df {g:List T -> Option T} {f:FA} {ρ ρ':aA} (ts:List T) (h1:f ρ=some (ts,ρ')) (h2:g ts=none):aj g f ρ=none:=by
 unfold aj
 rw [h1,Option.bind_some,h2]
 rfl
theorem Du {f:FE} {τ:aA} (h:f τ=none):kz f τ=none:=by
 unfold kz
 rw [h]
 rfl
theorem JZ {iE:Nat} {tbl:List Addr} {fb fh:FS} {fx:FX} {τ τ1 τ2:aA} {C:Addr} (h1:fb τ=none) (h2:fx τ=some (C,τ1)) (hC:C ∈ tbl) (h3:fh (τ1.set iE (some (.sh (.exc C))))=some (.nx τ2)):Bm iE tbl fb fx fh τ=some (.nx (τ2.set iE none)):=by
 unfold Bm
 rw [h1]
 dsimp only
 rw [h2,Option.bind_some]
 dsimp only
 rw [if_pos hC,h3]
 rfl
theorem AQ {x y z:Str} (h:x.length + y.length ≤ 1000) (e:x ++ y=z):bS (.str x) (.str y)=some (.str z):=by
 show kG (.str x) (.str y)=_
 simp only [kG]
 rw [if_pos (bR h),e]
def Lv:FS:=(bo 3 (aH bS (aH bB (dw (aa (fC (.str "")) (aa (fC (.str "table")) ai))) (aj pO (aa (kB [(iz,true),(iU,false)] (af 4)) ai))) (aH bB (dw (aa (fC (.str "")) (aa (fC (.str "fit")) ai))) (aj pO (aa (kB [(iz,false),(iU,true)] (af 4)) ai)))))
theorem ud (x:Str) (τ:aA):dw (aa (fC (.str "")) (aa (fC (.str x)) ai)) τ=some (.lst [.str "", .str x],τ):=Fs rfl (by simp)
theorem FK (a b c d:Option Sl):Lv [a,b,c,d,some (.sh (.exc iz))]=some (.nx [a,b,c,some (.sh (.str "table")),some (.sh (.exc iz))]):=by
 have e1:aH bB (dw (aa (fC (.str "")) (aa (fC (.str "table")) ai))) (aj pO (aa (kB [(iz,true),(iU,false)] (af 4)) ai)) [a,b,c,d,some (.sh (.exc iz))]=some (.str "table", [a,b,c,d,some (.sh (.exc iz))]):=br (b:=.int 1) (ud _ _) (aG [.bl true] (eV rfl) rfl) rfl
 have e2:aH bB (dw (aa (fC (.str "")) (aa (fC (.str "fit")) ai))) (aj pO (aa (kB [(iz,false),(iU,true)] (af 4)) ai)) [a,b,c,d,some (.sh (.exc iz))]=some (.str "", [a,b,c,d,some (.sh (.exc iz))]):=br (b:=.int 0) (ud _ _) (aG [.bl false] (eV rfl) rfl) rfl
 exact dc (br e1 e2 (AQ (by decide +kernel) (by decide +kernel))) rfl
theorem J2 (a b c d:Option Sl):Lv [a,b,c,d,some (.sh (.exc iU))]=some (.nx [a,b,c,some (.sh (.str "fit")),some (.sh (.exc iU))]):=by
 have e1:aH bB (dw (aa (fC (.str "")) (aa (fC (.str "table")) ai))) (aj pO (aa (kB [(iz,true),(iU,false)] (af 4)) ai)) [a,b,c,d,some (.sh (.exc iU))]=some (.str "", [a,b,c,d,some (.sh (.exc iU))]):=br (b:=.int 0) (ud _ _) (aG [.bl false] (eV rfl) rfl) rfl
 have e2:aH bB (dw (aa (fC (.str "")) (aa (fC (.str "fit")) ai))) (aj pO (aa (kB [(iz,false),(iU,true)] (af 4)) ai)) [a,b,c,d,some (.sh (.exc iU))]=some (.str "fit", [a,b,c,d,some (.sh (.exc iU))]):=br (b:=.int 1) (ud _ _) (aG [.bl true] (eV rfl) rfl) rfl
 exact dc (br e1 e2 (AQ (by decide +kernel) (by decide +kernel))) rfl
theorem Bi {S t x:T} {C:Addr} {w:Str} (h:CY [S,t,x]=none /\ zR [S,t,x]=some C) (hC:C ∈ [iz,iU]) (hw:∀ a b c d,Lv [a,b,c,d,some (.sh (.exc C))]=some (.nx [a,b,c,some (.sh (.str w)),some (.sh (.exc C))])):HR [S,t,x]=some (.str w):=by
 refine dq rfl ?_
 show gL Iu iz iU CY zR [some (.sh S),some (.sh t),some (.sh x),none,none]=_
 unfold gL
 rw [bA (τ':=[some (.sh S),some (.sh t),some (.sh x),some (.sh (.str "told")),none]) rfl]
 rw [bA (JZ (τ1:=[some (.sh S),some (.sh t),some (.sh x),some (.sh (.str "told")),none]) (Du (Df [S,t,x] (gF rfl rfl rfl) h.1)) (yh (gF rfl rfl rfl) h.2) hC (hw _ _ _ _))]
 rfl
end
open PySem PySem.Spec PyProof.Rows L2 TM Qm Rq
theorem Jd:A5 [.tup [.int 2,.int 4]]=some (.bl false):=by
 have k1:=cU (a:=2) (b:=4) (by decide +kernel) (by decide +kernel)
 have k2:=sE 2
 have k3:=sE 4
 have hp:Kd (.int 4) (.int 1)=some (.bl true):=rfl
 have k4:kH (.int ((Int.gcd 2 4:Nat):Int)) (.int 1)=some (.bl false):=rfl
 have c2:decide (((2:Nat):Int)=2)=true:=rfl
 generalize hw:HP=w at *
 unfold A5 bX fB
 rw [hw]
 walk_at "ev"
theorem BF (ts:List T) (n:Nat):pP [.tup ts,.int (n:Nat)]=some (.bl false):=rfl
theorem GH (ts:List T) (m w:Nat):A7 [.tup ts,.int (m:Nat),.int (w:Nat)]=some (.bl false):=rfl
theorem xi {α:Type} {φ:α -> T} {f:α -> Bool} (l:List α) (hl:l.length ≤ 100) (w:Nat) (h:∀ x ∈ l,pP [φ x,.int (w:Nat)]=some (.bl (f x))) (n:Nat):A7 [.lst (l.map φ),.int (n:Nat),.int (w:Nat)]=some (.bl (decide (l.length=n) && l.all f)):=by
 have c1:=bK (φ:=φ) (fe:=aj pP (aa (af 0) (aa (af 1) ai))) (g:=fun x=>T.bl (f x)) (ρ:=[some (.sh (.int (w:Nat)))]) rfl l none [] (fun x hx=>aG [φ x,.int (w:Nat)] rfl (h x hx)) (dg hl)
 have e1:=bH (no:=1) (cap:=[2]) (fi:=bf (af 0)) (fg:=ar 0) (ft:=aD) (τ:=[some (.sh (.lst (l.map φ))),some (.sh (.int (n:Nat))),some (.sh (.int (w:Nat)))]) (ts:=l.map φ) rfl rfl rfl c1
 rw [List.nil_append] at e1
 have e2:aj bp (aa (af 0) (aa (fC (.ty "list")) ai)) [some (.sh (.lst (l.map φ))),some (.sh (.int (n:Nat))),some (.sh (.int (w:Nat)))]=some (.bl true,[some (.sh (.lst (l.map φ))),some (.sh (.int (n:Nat))),some (.sh (.int (w:Nat)))]):=rfl
 have e3:aH kH (aj cm (aa (af 0) ai)) (af 1) [some (.sh (.lst (l.map φ))),some (.sh (.int (n:Nat))),some (.sh (.int (w:Nat)))]=some (.bl (decide (l.length=n)),[some (.sh (.lst (l.map φ))),some (.sh (.int (n:Nat))),some (.sh (.int (w:Nat)))]):=br (aG _ (eV rfl) (yM _)) rfl (by rw [List.length_map]; exact wH _ _)
 have e4:=aG (g:=pM) _ (eV e1) (all_map f l)
 refine dq rfl ?_
 show fj pP [some (.sh (.lst (l.map φ))),some (.sh (.int (n:Nat))),some (.sh (.int (w:Nat)))]=_
 unfold fj
 by_cases hn:l.length=n
 ·rw [decide_eq_true hn] at e3
  rw [decide_eq_true hn]
  exact eY ((gS e2).trans ((gS e3).trans e4))
 ·rw [decide_eq_false hn] at e3
  rw [decide_eq_false hn]
  exact eY ((gS e2).trans (AS e3))
def jb (K:List (List Rat)) (x:List Rat):List T:=[.non,.tup (K.map aq),ao (K ++ [x]),ao (K.map fun r=>r ++ [1]),.lst (K.map m6)]
def B8 (t0:T):Option Rat -> T
 | some q=>bg q
 | none=>t0
def lN (x:List Rat):List T:=[.non,m6 x,aq (x ++ [0]),.lst (((x.drop 1).map some ++ [none]).map (B8 (.tup [.int 2,.int 4]))),.lst (((x.drop 1).map some ++ [none]).map (B8 (.int 0)))]
theorem yB {x:List Rat} (hl:x.length ≤ 50) (hx:∀ y ∈ x,Sm y) {t0:T} (h0:A5 [t0]=some (.bl false)) (n:Nat):pP [.lst ((x.map some ++ [none]).map (B8 t0)),.int (n:Nat)]=some (.bl false):=by
 have z:=wU (φ:=B8 t0) (f:=fun o=>o.isSome) (x.map some ++ [none]) (by rw [List.length_append,List.length_map,List.length_cons,List.length_nil]; omega) (fun o ho=>by
  rcases List.mem_append.mp ho with ho | ho
  ·obtain ⟨y,hy,rfl⟩:=List.mem_map.mp ho
   exact GD (hx y hy)
  ·rw [List.mem_singleton.mp ho]
   exact h0) n
 rw [z]
 have:((x.map some ++ [none]).all fun o:Option Rat=>o.isSome)=false:=by
  rw [List.all_append]
  simp
 rw [this,Bool.and_false]
theorem Ld:Sm 0:=⟨by decide +kernel,by decide +kernel⟩
theorem Le:Sm 1:=⟨by decide +kernel,by decide +kernel⟩
theorem EI {x:List Rat} (hx:∀ y ∈ x,Sm y) {z:Rat} (hz:Sm z):∀ y ∈ x ++ [z],Sm y:=fun y hy=>by
 rcases List.mem_append.mp hy with hy | hy
 ·exact hx y hy
 ·rw [List.mem_singleton.mp hy]; exact hz
theorem yC {x:List Rat} {n:Nat} (hl:x.length=n) (hn:n ≤ 50) (hx:∀ y ∈ x,Sm y) {z:Rat} (hz:Sm z):pP [aq (x ++ [z]),.int (n:Nat)]=some (.bl false):=by
 have e:=wU (φ:=bg) (f:=fun _=>true) (x ++ [z]) (by rw [List.length_append,hl,List.length_cons,List.length_nil]; omega) (fun y hy=>GD (EI hx hz y hy)) n
 rw [decide_eq_false (by rw [List.length_append,hl,List.length_cons,List.length_nil]; omega),Bool.false_and] at e
 exact e
theorem zL {x:List Rat} {n:Nat} (hl:x.length=n) (hn:n ≤ 50) (hx:∀ y ∈ x,Sm y):∀ t ∈ lN x,pP [t,.int (n:Nat)]=some (.bl false):=by
 have hd:∀ y ∈ x.drop 1,Sm y:=fun y hy=>hx y (List.mem_of_mem_drop hy)
 have hdl:(x.drop 1).length ≤ 50:=by rw [List.length_drop]; omega
 intro t ht
 unfold lN at ht
 simp only [List.mem_cons,List.not_mem_nil,or_false] at ht
 rcases ht with rfl | rfl | rfl | rfl | rfl
 ·rfl
 ·exact BF _ _
 ·exact yC hl hn hx Ld
 ·exact yB hdl hd Jd n
 ·exact yB hdl hd rfl n
theorem AV {K:List (List Rat)} {x:List Rat} {i m:Nat} (hK:Tw i m K) (hi:1 ≤ i /\ i ≤ 50) (hm:m ≤ 50) (hl:x.length=m) (hx:∀ y ∈ x,Sm y):∀ t ∈ jb K x,A7 [t,.int (i:Nat),.int (m:Nat)]=some (.bl false):=by
 have hs:∀ r ∈ K,∀ y ∈ r,Sm y:=hK.tn.sm
 intro t ht
 unfold jb at ht
 simp only [List.mem_cons,List.not_mem_nil,or_false] at ht
 rcases ht with rfl | rfl | rfl | rfl | rfl
 ·rfl
 ·exact GH _ _ _
 ·have e:=xi (φ:=aq) (f:=fun _=>true) (K ++ [x]) (by rw [List.length_append,hK.len,List.length_cons,List.length_nil]; omega) m (fun r hr=>by
   rcases List.mem_append.mp hr with hr | hr
   ·exact yp (hK.bw.wd r hr) (by omega) (hs r hr)
   ·rw [List.mem_singleton.mp hr]
    exact yp hl (by omega) hx) i
  rw [decide_eq_false (by rw [List.length_append,hK.len,List.length_cons,List.length_nil]; omega),Bool.false_and] at e
  exact e
 ·have e:=xi (φ:=fun r=>aq (r ++ [1])) (f:=fun _=>false) K (by rw [hK.len]; omega) m (fun r hr=>yC (hK.bw.wd r hr) hm (hs r hr) Le) i
  have hne:(K.all fun _=>false)=false:=by
   cases K with
   | nil=>have:=hK.len; simp at this; omega
   | cons a K=>rfl
  rw [hne,Bool.and_false] at e
  unfold ao
  rw [List.map_map]
  exact e
 ·have e:=xi (φ:=m6) (f:=fun _=>false) K (by rw [hK.len]; omega) m (fun r hr=>BF _ _) i
  have hne:(K.all fun _=>false)=false:=by
   cases K with
   | nil=>have:=hK.len; simp at this; omega
   | cons a K=>rfl
  rw [hne,Bool.and_false] at e
  exact e
abbrev Gi:List T -> Option T:=bX 8 4 (ee AH HR)
theorem Dk (x:List Rat):HU (aq x) (some 1) none=some (aq (x.drop 1)):=by
 cases x with
 | nil=>rfl
 | cons a x=>exact ni (a :: x) 1 (by rw [List.length_cons]; omega)
theorem nV {a b c:List T} (h:a.length + b.length ≤ 1000) (e:a ++ b=c):bS (.lst a) (.lst b)=some (.lst c):=by rw [uL (bR h),e]
theorem DU (N:Int):0 ≤ N.fmod 5 /\ N.fmod 5 < 5:=⟨Int.fmod_nonneg_of_pos N (by decide),Int.fmod_lt_of_pos N (by decide)⟩
theorem Jh {a b c d e:T}:[a,b,c,d,e].length ≤ 1000:=by simp
theorem yV (t0:T) (x:List Rat):x.map bg ++ [t0]=(x.map some ++ [none]).map (B8 t0):=by
 rw [List.map_append,List.map_map]
 rfl
theorem B7 {g:T -> T -> Option T} {fa fb:FE} {τ τ1 τ2:aA} {a b t:T} (h1:fa τ=some (a,τ1)) (h2:fb τ1=some (b,τ2)) (h:g a b=some t):aH g fa fb τ=some (t,τ2):=by
 unfold aH
 rw [h1,Option.bind_some]
 dsimp only
 rw [h2,Option.bind_some]
 dsimp only
 rw [h]
 rfl
section
variable {m i o:Nat} {A B C D K:List (List Rat)}
theorem wJ (h:iT m i o A B C D) (hK:Tw i m K) (hm:m ≤ 4) (hi:1 ≤ i /\ i ≤ 2) (ho:1 ≤ o) {x:List Rat} (hx:Vs 0 m x) (c:Int):Gi [bJ A B C D,ao K,aq x,.int c]=some (.bl true):=by
 have hxs:=hx.sm (by omega)
 have bb:=AV hK ⟨hi.1,by omega⟩ (by omega) hx.len hxs
 have bs:=zL hx.len (by omega) hxs
 obtain ⟨S,hS⟩:∃ S,S=bJ A B C D:=⟨_,rfl⟩
 have mx:=oh (c:=c) (k:=70) (by decide) (by decide)
 have my:=oh (c:=c) (k:=71) (by decide) (by decide)
 generalize BX c 70=n1 at *
 generalize BX c 71=n2 at *
 obtain ⟨tb,gb,mb⟩:=BG (L:=jb K x) (DU n1).1 (by show _ < ((5:Nat):Int); have:=(DU n1).2; omega)
 obtain ⟨ts,gs,ms⟩:=BG (L:=lN x) (DU n2).1 (by show _ < ((5:Nat):Int); have:=(DU n2).2; omega)
 have w1:=Bi (vg h (by omega) (bb tb mb) (aq x)) (by simp) FK
 have w2:=Bi (vg h (by omega) (bb tb mb) ts) (by simp) FK
 have w3:=Bi (BL h (by omega) hK (by omega) (by omega) (bs ts ms)) (by simp) J2
 rw [<- hS] at w1 w2 w3 ⊢
 have lK:=hK.len
 have lx:=hx.len
 have v1:∀ r,af 1 (some (.sh S) :: some (.sh (ao K)) :: some (.sh (aq x)) :: some (.sh (.int c)) :: r)=some (ao K,some (.sh S) :: some (.sh (ao K)) :: some (.sh (aq x)) :: some (.sh (.int c)) :: r):=fun _=>rfl
 have v2:∀ r,af 2 (some (.sh S) :: some (.sh (ao K)) :: some (.sh (aq x)) :: some (.sh (.int c)) :: r)=some (aq x,some (.sh S) :: some (.sh (ao K)) :: some (.sh (aq x)) :: some (.sh (.int c)) :: r):=fun _=>rfl
 have s1:cR 4 (aa (fC .non) (aa (aj dt (aa (af 1) ai)) (aa (aH bS (af 1) (dw (aa (af 2) ai))) (aa (cq 1 [] (bf (af 1)) (ar 0) aD (aH bS (af 0) (dw (aa (dU (aa (fC (.int 1)) (aa (fC (.int 1)) ai))) ai)))) (aa (cq 1 [] (bf (af 1)) (ar 0) aD (aj dt (aa (af 0) ai))) ai))))) [some (.sh S),some (.sh (ao K)),some (.sh (aq x)),some (.sh (.int c)),none,none,none,none]=some (.nx [some (.sh S),some (.sh (ao K)),some (.sh (aq x)),some (.sh (.int c)),some (.own (jb K x)),none,none,none]):=by
  have c1:=bK (φ:=aq) (fe:=aH bS (af 0) (dw (aa (dU (aa (fC (.int 1)) (aa (fC (.int 1)) ai))) ai))) (g:=fun r=>aq (r ++ [1])) (ρ:=[]) rfl K none [] (fun r hr=>br (a:=aq r) (b:=.lst [bg 1]) rfl (oA (ES 1 1 _)) (nV (by rw [List.length_map,hK.bw.wd r hr,List.length_cons,List.length_nil]; omega) (by rw [List.map_append]; rfl))) (dg (by omega))
  have e1:=bH (no:=1) (cap:=[]) (fi:=bf (af 1)) (fg:=ar 0) (ft:=aD) (τ:=[some (.sh S),some (.sh (ao K)),some (.sh (aq x)),some (.sh (.int c)),none,none,none,none]) (ts:=K.map aq) rfl rfl rfl c1
  have c2:=bK (φ:=aq) (fe:=aj dt (aa (af 0) ai)) (g:=m6) (ρ:=[]) rfl K none [] (fun r hr=>aG [aq r] rfl rfl) (dg (by omega))
  have e2:=bH (no:=1) (cap:=[]) (fi:=bf (af 1)) (fg:=ar 0) (ft:=aD) (τ:=[some (.sh S),some (.sh (ao K)),some (.sh (aq x)),some (.sh (.int c)),none,none,none,none]) (ts:=K.map aq) rfl rfl rfl c2
  rw [List.nil_append] at e1 e2
  have e0:aH bS (af 1) (dw (aa (af 2) ai)) [some (.sh S),some (.sh (ao K)),some (.sh (aq x)),some (.sh (.int c)),none,none,none,none]=some (ao (K ++ [x]),[some (.sh S),some (.sh (ao K)),some (.sh (aq x)),some (.sh (.int c)),none,none,none,none]):=br (a:=ao K) (b:=.lst [aq x]) rfl (oA rfl) (nV (by rw [List.length_map,lK,List.length_cons,List.length_nil]; omega) (by rw [List.map_append]; rfl))
  have e3:ao (K.map fun r=>r ++ [1])=.lst (K.map fun r=>aq (r ++ [1])):=by unfold ao; rw [List.map_map]; rfl
  refine ly (ts:=jb K x) (oa rfl (wo (aG [ao K] (eV rfl) rfl) e0 (e1.trans ?_) e2)) Jh
  rw [e3]
 have s2:cR 5 (aa (fC .non) (aa (aj dt (aa (af 2) ai)) (aa (aH bS (af 2) (dw (aa (dU (aa (fC (.int 0)) (aa (fC (.int 1)) ai))) ai))) (aa (aH bS (uH (af 2) (eE (fC (.int 1))) dy) (dw (aa (dU (aa (fC (.int 2)) (aa (fC (.int 4)) ai))) ai))) (aa (aH bS (uH (af 2) (eE (fC (.int 1))) dy) (dw (aa (fC (.int 0)) ai))) ai))))) [some (.sh S),some (.sh (ao K)),some (.sh (aq x)),some (.sh (.int c)),some (.own (jb K x)),none,none,none]=some (.nx [some (.sh S),some (.sh (ao K)),some (.sh (aq x)),some (.sh (.int c)),some (.own (jb K x)),some (.own (lN x)),none,none]):=by
  have sl:uH (af 2) (eE (fC (.int 1))) dy [some (.sh S),some (.sh (ao K)),some (.sh (aq x)),some (.sh (.int c)),some (.own (jb K x)),none,none,none]=some (aq (x.drop 1),[some (.sh S),some (.sh (ao K)),some (.sh (aq x)),some (.sh (.int c)),some (.own (jb K x)),none,none,none]):=CF (a:=aq x) rfl (me (k:=1) rfl) rfl (Dk x)
  have ld:(x.drop 1).length ≤ 50:=by rw [List.length_drop]; omega
  refine ly (ts:=lN x) (oa rfl (wo (aG [aq x] (eV rfl) rfl) (br (a:=aq x) (b:=.lst [bg 0]) rfl (oA (ES 0 1 _)) (nV (by rw [List.length_map,lx,List.length_cons,List.length_nil]; omega) (by rw [List.map_append]; rfl))) (br sl (b:=.lst [.tup [.int 2,.int 4]]) (oA (ES 2 4 _)) (nV (by rw [List.length_map,List.length_cons,List.length_nil]; omega) (yV _ _))) (br sl (b:=.lst [.int 0]) (oA rfl) (nV (by rw [List.length_map,List.length_cons,List.length_nil]; omega) (yV _ _))))) Jh
 have s3:bo 6 (aH bB (af 4) (aH cu (aj AH (aa (af 3) (aa (fC (.int 70)) ai))) (fC (.int 5)))) [some (.sh S),some (.sh (ao K)),some (.sh (aq x)),some (.sh (.int c)),some (.own (jb K x)),some (.own (lN x)),none,none]=some (.nx [some (.sh S),some (.sh (ao K)),some (.sh (aq x)),some (.sh (.int c)),some (.sh (.lst (jb K x))),some (.own (lN x)),some (.sh tb),none]):=
  dc (B7 (a:=.lst (jb K x)) (τ1:=[some (.sh S),some (.sh (ao K)),some (.sh (aq x)),some (.sh (.int c)),some (.sh (.lst (jb K x))),some (.own (lN x)),none,none]) rfl (br (g:=cu) (b:=.int 5) (aG [.int c,.int 70] (dv rfl rfl) mx) rfl (oB (by decide))) gb) rfl
 have s4:bo 7 (aH bB (af 5) (aH cu (aj AH (aa (af 3) (aa (fC (.int 71)) ai))) (fC (.int 5)))) [some (.sh S),some (.sh (ao K)),some (.sh (aq x)),some (.sh (.int c)),some (.sh (.lst (jb K x))),some (.own (lN x)),some (.sh tb),none]=some (.nx [some (.sh S),some (.sh (ao K)),some (.sh (aq x)),some (.sh (.int c)),some (.sh (.lst (jb K x))),some (.sh (.lst (lN x))),some (.sh tb),some (.sh ts)]):=
  dc (B7 (a:=.lst (lN x)) (τ1:=[some (.sh S),some (.sh (ao K)),some (.sh (aq x)),some (.sh (.int c)),some (.sh (.lst (jb K x))),some (.sh (.lst (lN x))),some (.sh tb),none]) rfl (br (g:=cu) (b:=.int 5) (aG [.int c,.int 71] (dv rfl rfl) my) rfl (oB (by decide))) gs) rfl
 obtain ⟨Z,hZ⟩:∃ Z:aA,Z=[some (.sh S),some (.sh (ao K)),some (.sh (aq x)),some (.sh (.int c)),some (.sh (.lst (jb K x))),some (.sh (.lst (lN x))),some (.sh tb),some (.sh ts)]:=⟨_,rfl⟩
 have u0:af 0 Z=some (S,Z):=by rw [hZ]; rfl
 have u1:af 1 Z=some (ao K,Z):=by rw [hZ]; rfl
 have u2:af 2 Z=some (aq x,Z):=by rw [hZ]; rfl
 have u6:af 6 Z=some (tb,Z):=by rw [hZ]; rfl
 have u7:af 7 Z=some (ts,Z):=by rw [hZ]; rfl
 have nt:lW (.str "table") (.str "table")=some (.bl false):=cmp_self (neg:=true) (n:=1) ⟨.str "table", rfl,by decide +kernel,by decide +kernel⟩ (by decide)
 have nf:kH (.str "fit") (.str "fit")=some (.bl true):=rH (by decide +kernel)
 have s5:cn (lT (eG (aH lW (aj HR (aa (af 0) (aa (af 6) (aa (af 2) ai)))) (fC (.str "table")))) (eG (aH lW (aj HR (aa (af 0) (aa (af 6) (aa (af 7) ai)))) (fC (.str "table"))))) (bG (fC (.bl false))) bQ Z=some (.nx Z):=by
  refine kL (qC (τ':=Z) ?_ ?_)
  ·unfold eG
   rw [br (aG [S,tb,aq x] (gF u0 u6 u2) w1) rfl nt]
   rfl
  ·unfold eG
   rw [br (aG [S,tb,ts] (gF u0 u6 u7) w2) rfl nt]
   rfl
 refine dq rfl ?_
 show ee AH HR [some (.sh S),some (.sh (ao K)),some (.sh (aq x)),some (.sh (.int c)),none,none,none,none]=_
 unfold ee
 refine (bA s1).trans ?_
 refine (bA s2).trans ?_
 refine (bA s3).trans ?_
 refine (bA s4).trans ?_
 rw [<- hZ]
 refine (bA s5).trans ?_
 exact eY (br (aG [S,ao K,ts] (gF u0 u1 u7) w3) rfl nf)
end
open PySem PySem.Spec PyProof.Rows L2 TM Qm Rq
abbrev m5 (m i o:Nat):T:=.lst [.int (m:Nat),.int (i:Nat),.int (o:Nat)]
theorem GY (x:Int) {b:Int} (h:0 < b):∃ n:Nat,x.fmod b=(n:Nat) /\ (n:Int) < b:=by
 refine ⟨(x.fmod b).toNat,?_,?_⟩
 ·rw [Int.toNat_of_nonneg (Int.fmod_nonneg_of_pos x h)]
 ·rw [Int.toNat_of_nonneg (Int.fmod_nonneg_of_pos x h)]
  exact Int.fmod_lt_of_pos x h
theorem KY {a b c:T}:[a,b,c].length ≤ 1000:=by rw [List.length_cons,List.length_cons,List.length_cons,List.length_nil]; omega
def K3:FS:=kA 11 (fO kv (aa (af 5) (aa (af 9) (aa (af 10) ai)))) (lT (cH (dk (aj bp (aa (af 11) (aa (fC (.ty "list")) ai))))) (lT (eG (aH lW (af 11) (af 8))) (lT (eG (aH lW (af 9) (af 4))) (eG (aH lW (af 10) (af 7))))))
def K2:FS:=(aT (bo 7 (aj A9 (aa (aj uA (aa (af 0) (aa (af 6) ai))) (aa (aH bB (af 2) (fC (.int 0))) ai))))
  (aT (bo 8 (aj Gj (aa (af 3) (aa (af 4) (aa (af 7) ai)))))
  (aT (fH 9 1 [] (bf (af 4)) (ar 0) aD (aj dList (aa (af 0) ai)))
  (aT (bo 10 (aj dList (aa (af 7) ai)))
  (aT K3
  (aT (cn (lT (eG (aH lW (af 10) (af 7))) (eG (aH lW (aj CY (aa (af 5) (aa (af 4) (aa (af 7) ai)))) (af 8)))) (bG (fC (.bl false))) bQ)
  (cn (cH (dk (aj Gi (aa (af 5) (aa (af 4) (aa (af 7) (aa (aj uA (aa (af 0) (aa (af 6) ai))) ai))))))) (bG (fC (.bl false))) bQ)))))))
section
variable {m i o:Nat} {A B C D K:List (List Rat)}
abbrev lI (ns:List Int) (c:Int) (m i o:Nat) (A B C D K:List (List Rat)) (r:List (Option Sl)):aA:=some (.sh (.scr (ns.map T.int))) :: some (.sh (.int c)) :: some (.sh (m5 m i o)) :: some (.sh (fT A B C D)) :: some (.sh (ao K)) :: some (.sh (bJ A B C D)) :: r
theorem Ju {f g:FE} {τ:aA} {t:T} {n:Nat} (h1:f τ=some (t,τ)) (h2:g τ=some (t,τ)) (h:Fz n t) (hn:n ≤ 60):eG (aH lW f g) τ=some (false,τ):=by
 unfold eG
 rw [br h1 h2 (cmp_self (neg:=true) h hn)]
 rfl
theorem yJ (M:List (List Rat)):∀ (n:Nat) (x:List Rat),(BK M n x).length=n
 | 0,_=>rfl
 | n + 1,x=>by rw [BK,List.length_cons,yJ M n]
theorem DC (M:List (List Rat)) {m:Nat} (hm:m ≤ 100) {x:List Rat} (hx:x.length=m):lX (qe (HV M m x))=true:=by
 show decide (((x.map bg).map O.val).length ≤ 500 /\ ((BK M m x).map dX).length ≤ 500)=true
 rw [List.length_map,List.length_map,List.length_map,yJ,hx]
 exact decide_eq_true ⟨by omega,by omega⟩
theorem DQ (ns:List Int) (c:Int) (h:iT m i o A B C D) (hK:Tw i m K) (hm:m ≤ 4) (hi:1 ≤ i /\ i ≤ 2) (ho:1 ≤ o /\ o ≤ 2) (k:Nat) (s7 s8 s9 s10:Option Sl) :
  ∃ y7 y8 y9 y10,K2 (lI ns c m i o A B C D K [some (.sh (.int (k:Nat))),s7,s8,s9,s10,none])=some (.nx (lI ns c m i o A B C D K [some (.sh (.int (k:Nat))),y7,y8,y9,y10,none])):=by
 have c0:=nk ns k
 generalize ns.getD k 0=ck at *
 obtain ⟨x,ex,hl,hq⟩:=jT ck m (by omega)
 have hx:=Vs.start hl hq
 have st:=IP h hK hm (by omega) hx
 have kO:=Bf h hK hm hi.2 ⟨ho.1,by omega⟩ hx
 have kr:=IF h hK hm hi.2 ⟨ho.1,by omega⟩ hx
 have ru:=wJ h hK hm hi ho.1 hx ck
 have hd:=DC (jD A B K m) (by omega) hl
 have cp:=bK (φ:=aq) (fe:=aj dList (aa (af 0) ai)) (g:=aq) (ρ:=[]) rfl K none [] (fun r _=>aG [aq r] rfl rfl) (dg (by rw [hK.len]; omega))
 rw [List.nil_append] at cp
 generalize HV (jD A B K m) m x=R at *
 have cc:∀ r,aj uA (aa (af 0) (aa (af 6) ai)) (lI ns c m i o A B C D K (some (.sh (.int (k:Nat))) :: r))=some (.int ck,lI ns c m i o A B C D K (some (.sh (.int (k:Nat))) :: r)):=fun r=>aG [.scr (ns.map T.int),.int (k:Nat)] (dv rfl rfl) c0
 have e1:bo 7 (aj A9 (aa (aj uA (aa (af 0) (aa (af 6) ai))) (aa (aH bB (af 2) (fC (.int 0))) ai))) (lI ns c m i o A B C D K [some (.sh (.int (k:Nat))),s7,s8,s9,s10,none])=some (.nx (lI ns c m i o A B C D K [some (.sh (.int (k:Nat))),some (.sh (aq x)),s8,s9,s10,none])):=dc (aG _ (dv (cc _) (br (a:=m5 m i o) (b:=.int 0) rfl rfl rfl)) ex) rfl
 have e2:bo 8 (aj Gj (aa (af 3) (aa (af 4) (aa (af 7) ai)))) (lI ns c m i o A B C D K [some (.sh (.int (k:Nat))),some (.sh (aq x)),s8,s9,s10,none])=some (.nx (lI ns c m i o A B C D K [some (.sh (.int (k:Nat))),some (.sh (aq x)),some (.sh (ao R)),s9,s10,none])):=dc (aG [fT A B C D,ao K,aq x] (gF rfl rfl rfl) st) rfl
 have e3:fH 9 1 [] (bf (af 4)) (ar 0) aD (aj dList (aa (af 0) ai)) (lI ns c m i o A B C D K [some (.sh (.int (k:Nat))),some (.sh (aq x)),some (.sh (ao R)),s9,s10,none])=some (.nx (lI ns c m i o A B C D K [some (.sh (.int (k:Nat))),some (.sh (aq x)),some (.sh (ao R)),some (.own (K.map aq)),s10,none])):=uG (i:=9) (no:=1) (cap:=[]) (fg:=ar 0) (ft:=aD) (ts:=K.map aq) rfl rfl rfl cp
 have e4:bo 10 (aj dList (aa (af 7) ai)) (lI ns c m i o A B C D K [some (.sh (.int (k:Nat))),some (.sh (aq x)),some (.sh (ao R)),some (.own (K.map aq)),s10,none])=some (.nx (lI ns c m i o A B C D K [some (.sh (.int (k:Nat))),some (.sh (aq x)),some (.sh (ao R)),some (.own (K.map aq)),some (.sh (aq x)),none])):=dc (aG [aq x] (eV rfl) rfl) rfl
 obtain ⟨Z,hZ⟩:∃ Z:aA,Z=lI ns c m i o A B C D K [some (.sh (.int (k:Nat))),some (.sh (aq x)),some (.sh (ao R)),some (.sh (ao K)),some (.sh (aq x)),none]:=⟨_,rfl⟩
 have e5:K3 (lI ns c m i o A B C D K [some (.sh (.int (k:Nat))),some (.sh (aq x)),some (.sh (ao R)),some (.own (K.map aq)),some (.sh (aq x)),none])=some (.nx Z):=by
  have g1:fO kv (aa (af 5) (aa (af 9) (aa (af 10) ai))) (lI ns c m i o A B C D K [some (.sh (.int (k:Nat))),some (.sh (aq x)),some (.sh (ao R)),some (.own (K.map aq)),some (.sh (aq x)),none])=some (qe R,Z):=by
   unfold fO
   rw [show aa (af 5) (aa (af 9) (aa (af 10) ai)) (lI ns c m i o A B C D K [some (.sh (.int (k:Nat))),some (.sh (aq x)),some (.sh (ao R)),some (.own (K.map aq)),some (.sh (aq x)),none])=some ([bJ A B C D,ao K,aq x],Z) from by rw [hZ]; rfl,Option.bind_some,kO]
   rfl
  obtain ⟨Y,hY⟩:∃ Y:aA,Y=lI ns c m i o A B C D K [some (.sh (.int (k:Nat))),some (.sh (aq x)),some (.sh (ao R)),some (.sh (ao K)),some (.sh (aq x)),some (.sh (ao R))]:=⟨_,rfl⟩
  have w4:af 4 Y=some (ao K,Y):=by rw [hY]; rfl
  have w7:af 7 Y=some (aq x,Y):=by rw [hY]; rfl
  have w8:af 8 Y=some (ao R,Y):=by rw [hY]; rfl
  have w9:af 9 Y=some (ao K,Y):=by rw [hY]; rfl
  have w10:af 10 Y=some (aq x,Y):=by rw [hY]; rfl
  have w11:af 11 Y=some (ao R,Y):=by rw [hY]; rfl
  have g2:lT (cH (dk (aj bp (aa (af 11) (aa (fC (.ty "list")) ai))))) (lT (eG (aH lW (af 11) (af 8))) (lT (eG (aH lW (af 9) (af 4))) (eG (aH lW (af 10) (af 7))))) Y=some (false,Y):=
   qC (yT (aG [ao R,.ty "list"] (dv w11 rfl) rfl)) (qC (Ju w11 w8 (tW R) (by decide)) (qC (Ju w9 w4 (tW K) (by decide)) (Ju w10 w7 (tV x) (by decide))))
  have et:(hide Z).set 11 (some (.sh (qe R).tr))=Y:=by
   rw [hZ,hY,nL]
   rfl
  unfold K3 kA
  rw [g1,Option.bind_some]
  dsimp only
  rw [if_pos ⟨hd,by rw [hZ]; rfl⟩,et,g2,Option.bind_some]
  dsimp only
  rw [if_neg (by decide),hZ]
  rfl
 have w0:aj uA (aa (af 0) (aa (af 6) ai)) Z=some (.int ck,Z):=by rw [hZ]; exact cc _
 have w4:af 4 Z=some (ao K,Z):=by rw [hZ]; rfl
 have w5:af 5 Z=some (bJ A B C D,Z):=by rw [hZ]; rfl
 have w7:af 7 Z=some (aq x,Z):=by rw [hZ]; rfl
 have w8:af 8 Z=some (ao R,Z):=by rw [hZ]; rfl
 have w10:af 10 Z=some (aq x,Z):=by rw [hZ]; rfl
 have e6:cn (lT (eG (aH lW (af 10) (af 7))) (eG (aH lW (aj CY (aa (af 5) (aa (af 4) (aa (af 7) ai)))) (af 8)))) (bG (fC (.bl false))) bQ Z=some (.nx Z):=kL (qC (Ju w10 w7 (tV x) (by decide)) (Ju (aG _ (gF w5 w4 w7) kr) w8 (tW R) (by decide)))
 have e7:cn (cH (dk (aj Gi (aa (af 5) (aa (af 4) (aa (af 7) (aa (aj uA (aa (af 0) (aa (af 6) ai))) ai))))))) (bG (fC (.bl false))) bQ Z=some (.nx Z):=kL (yT (aG _ (wo w5 w4 w7 w0) ru))
 refine ⟨some (.sh (aq x)),some (.sh (ao R)),some (.sh (ao K)),some (.sh (aq x)),?_⟩
 unfold K2
 refine (bA e1).trans ?_
 refine (bA e2).trans ?_
 refine (bA e3).trans ?_
 refine (bA e4).trans ?_
 refine (bA e5).trans ?_
 refine (bA e6).trans ?_
 rw [e7,hZ]
theorem yP (ns:List Int) (c:Int) (h:iT m i o A B C D) (hK:Tw i m K) (hm:m ≤ 4) (hi:1 ≤ i /\ i ≤ 2) (ho:1 ≤ o /\ o ≤ 2):∀ (n lo:Nat) (s6 s7 s8 s9 s10:Option Sl),
  ∃ y6 y7 y8 y9 y10,dB (ar 6) K2 (TM.upTo (lo:Nat) n) (lI ns c m i o A B C D K [s6,s7,s8,s9,s10,none])=some (.nx (lI ns c m i o A B C D K [y6,y7,y8,y9,y10,none]))
 | 0,lo,s6,s7,s8,s9,s10=>⟨s6,s7,s8,s9,s10,rfl⟩
 | n + 1,lo,s6,s7,s8,s9,s10=>by
  obtain ⟨y7,y8,y9,y10,b⟩:=DQ ns c h hK hm hi ho lo s7 s8 s9 s10
  obtain ⟨z6,z7,z8,z9,z10,e⟩:=yP ns c h hK hm hi ho n (lo + 1) (some (.sh (.int (lo:Nat)))) y7 y8 y9 y10
  refine ⟨z6,z7,z8,z9,z10,?_⟩
  rw [show TM.upTo ((lo:Nat):Int) (n + 1)=T.int ((lo:Nat):Int) :: TM.upTo (((lo + 1:Nat)):Int) n from rfl,gh (τ1:=lI ns c m i o A B C D K [some (.sh (.int (lo:Nat))),s7,s8,s9,s10,none]) rfl b]
  exact e
end
theorem BP (ns:List Int) (hns:ns.length ≤ 63):bX 12 1 (uu fN uA HN A9 AI Gj CY Gi kv HQ) [.scr (ns.map T.int)]=some (.bl true):=by
 have c0:=nk ns 0
 have c1:=nk ns 1
 have c2:=nk ns 2
 generalize ns.getD 0 0=x0 at *
 generalize ns.getD 1 0=x1 at *
 generalize ns.getD 2 0=x2 at *
 obtain ⟨m,em,hm⟩:=GY x0 (b:=4) (by decide)
 obtain ⟨i',ei,hi'⟩:=GY (x0.fdiv 4) (b:=2) (by decide)
 obtain ⟨o',eo,ho'⟩:=GY (x0.fdiv 8) (b:=2) (by decide)
 obtain ⟨i,hi⟩:∃ i:Nat,i=1 + i':=⟨_,rfl⟩
 obtain ⟨o,ho⟩:∃ o:Nat,o=1 + o':=⟨_,rfl⟩
 obtain ⟨A,B,C,D,f1,h⟩:=Dv x1 (m:=m) (i:=i) (o:=o) (by omega) (by omega) (by omega)
 have him:i * m ≤ 100:=Nat.le_trans (Nat.mul_le_mul (show i ≤ 10 by omega) (show m ≤ 10 by omega)) (by decide)
 obtain ⟨r,er,hrl,hrq⟩:=jT x2 (i * m) him
 have ro:=ky (xs:=r) (m:=i) (w:=m) (by omega) (by omega) (by omega)
 have hK:=kZ (xs:=r) (m:=i) (w:=m) (by omega) hrq
 generalize kY r i m=K at *
 have si:=IM h.sy (by omega) ⟨by omega,by omega⟩ ⟨by omega,by omega⟩
 have ce:∀ {k:Nat} {x:Int} (r:List (Option Sl)),uA [.scr (ns.map T.int),.int (k:Nat)]=some (.int x) -> aj uA (aa (af 0) (aa (fC (.int (k:Nat))) ai)) (some (.sh (.scr (ns.map T.int))) :: r)=some (.int x,some (.sh (.scr (ns.map T.int))) :: r):=fun r h=>aG _ (dv rfl rfl) h
 have e1:bo 1 (aj uA (aa (af 0) (aa (fC (.int 0)) ai))) [some (.sh (.scr (ns.map T.int))),none,none,none,none,none,none,none,none,none,none,none]=some (.nx [some (.sh (.scr (ns.map T.int))),some (.sh (.int x0)),none,none,none,none,none,none,none,none,none,none]):=dc (ce _ c0) rfl
 have e2:cR 2 (aa (aH cu (af 1) (fC (.int 4))) (aa (aH bS (fC (.int 1)) (aH cu (aH cS (af 1) (fC (.int 4))) (fC (.int 2)))) (aa (aH bS (fC (.int 1)) (aH cu (aH cS (af 1) (fC (.int 8))) (fC (.int 2)))) ai))) [some (.sh (.scr (ns.map T.int))),some (.sh (.int x0)),none,none,none,none,none,none,none,none,none,none]=some (.nx [some (.sh (.scr (ns.map T.int))),some (.sh (.int x0)),some (.own [.int (m:Nat),.int (i:Nat),.int (o:Nat)]),none,none,none,none,none,none,none,none,none]):=by
  obtain ⟨Y,hY⟩:∃ Y:aA,Y=[some (.sh (.scr (ns.map T.int))),some (.sh (.int x0)),none,none,none,none,none,none,none,none,none,none]:=⟨_,rfl⟩
  have v1:af 1 Y=some (.int x0,Y):=by rw [hY]; rfl
  have a1:=br (g:=cu) (fb:=fC (.int 4)) v1 rfl (oB (N:=x0) (d:=4) (by decide))
  have a2:=br (g:=bS) (fa:=fC (.int 1)) (a:=.int 1) (τ:=Y) rfl (br (g:=cu) (fb:=fC (.int 2)) (br (g:=cS) (fb:=fC (.int 4)) v1 rfl (Bd (N:=x0) (d:=4) (by decide) (cX (by decide) (by decide)))) rfl (oB (N:=x0.fdiv 4) (d:=2) (by decide))) jg
  have a3:=br (g:=bS) (fa:=fC (.int 1)) (a:=.int 1) (τ:=Y) rfl (br (g:=cu) (fb:=fC (.int 2)) (br (g:=cS) (fb:=fC (.int 8)) v1 rfl (Bd (N:=x0) (d:=8) (by decide) (cX (by decide) (by decide)))) rfl (oB (N:=x0.fdiv 8) (d:=2) (by decide))) jg
  rw [em] at a1
  rw [ei,show (1:Int) + ((i':Nat):Int)=((i:Nat):Int) by omega] at a2
  rw [eo,show (1:Int) + ((o':Nat):Int)=((o:Nat):Int) by omega] at a3
  rw [<- hY,ly (gF a1 a2 a3) KY,hY]
  rfl
 obtain ⟨S,hS⟩:∃ S:List (Option Sl),S=[none,none,none,none,none,none,none]:=⟨_,rfl⟩
 have e3:bo 3 (aj HN (aa (aj uA (aa (af 0) (aa (fC (.int 1)) ai))) (aa (aH bB (af 2) (fC (.int 0))) (aa (aH bB (af 2) (fC (.int 1))) (aa (aH bB (af 2) (fC (.int 2))) ai))))) [some (.sh (.scr (ns.map T.int))),some (.sh (.int x0)),some (.own [.int (m:Nat),.int (i:Nat),.int (o:Nat)]),none,none,none,none,none,none,none,none,none]=some (.nx [some (.sh (.scr (ns.map T.int))),some (.sh (.int x0)),some (.sh (m5 m i o)),some (.sh (fT A B C D)),none,none,none,none,none,none,none,none]):=by
  obtain ⟨Y,hY⟩:∃ Y:aA,Y=[some (.sh (.scr (ns.map T.int))),some (.sh (.int x0)),some (.sh (m5 m i o)),none,none,none,none,none,none,none,none,none]:=⟨_,rfl⟩
  have v2:af 2 Y=some (m5 m i o,Y):=by rw [hY]; rfl
  have v2':af 2 [some (.sh (.scr (ns.map T.int))),some (.sh (.int x0)),some (.own [.int (m:Nat),.int (i:Nat),.int (o:Nat)]),none,none,none,none,none,none,none,none,none]=some (m5 m i o,Y):=by rw [hY]; rfl
  have a:=Dh [.int x1,.int (m:Nat),.int (i:Nat),.int (o:Nat)] (oa (ce _ c1) (oa (B7 (g:=bB) (fb:=fC (.int 0)) (b:=.int 0) v2' rfl rfl) (dv (br (g:=bB) (fb:=fC (.int 1)) (b:=.int 1) v2 rfl rfl) (br (g:=bB) (fb:=fC (.int 2)) (b:=.int 2) v2 rfl rfl)))) f1
  exact dc a (by rw [hY]; rfl)
 have e4:bo 4 (aj AI (aa (aj A9 (aa (aj uA (aa (af 0) (aa (fC (.int 2)) ai))) (aa (aH aV (aH bB (af 2) (fC (.int 1))) (aH bB (af 2) (fC (.int 0)))) ai))) (aa (aH bB (af 2) (fC (.int 1))) (aa (aH bB (af 2) (fC (.int 0))) ai)))) [some (.sh (.scr (ns.map T.int))),some (.sh (.int x0)),some (.sh (m5 m i o)),some (.sh (fT A B C D)),none,none,none,none,none,none,none,none]=some (.nx [some (.sh (.scr (ns.map T.int))),some (.sh (.int x0)),some (.sh (m5 m i o)),some (.sh (fT A B C D)),some (.sh (ao K)),none,none,none,none,none,none,none]):=by
  obtain ⟨Y,hY⟩:∃ Y:aA,Y=[some (.sh (.scr (ns.map T.int))),some (.sh (.int x0)),some (.sh (m5 m i o)),some (.sh (fT A B C D)),none,none,none,none,none,none,none,none]:=⟨_,rfl⟩
  have v2:af 2 Y=some (m5 m i o,Y):=by rw [hY]; rfl
  have y0:aH bB (af 2) (fC (.int 0)) Y=some (.int (m:Nat),Y):=br v2 rfl rfl
  have y1:aH bB (af 2) (fC (.int 1)) Y=some (.int (i:Nat),Y):=br v2 rfl rfl
  have y2:aj uA (aa (af 0) (aa (fC (.int 2)) ai)) Y=some (.int x2,Y):=by rw [hY]; exact ce _ c2
  have a:=aG [aq r,.int (i:Nat),.int (m:Nat)] (gF (aG _ (dv y2 (br y1 y0 (lZ (by omega) (by omega)))) er) y1 y0) ro
  rw [<- hY]
  exact dc a (by rw [hY]; rfl)
 have e5:bo 5 (uF fN HQ (aa (aH bB (af 3) (fC (.int 0))) (aa (aH bB (af 3) (fC (.int 1))) (aa (aH bB (af 3) (fC (.int 2))) (aa (aH bB (af 3) (fC (.int 3))) ai))))) [some (.sh (.scr (ns.map T.int))),some (.sh (.int x0)),some (.sh (m5 m i o)),some (.sh (fT A B C D)),some (.sh (ao K)),none,none,none,none,none,none,none]=some (.nx (lI ns x0 m i o A B C D K [none,none,none,none,none,none])):=by
  obtain ⟨Y,hY⟩:∃ Y:aA,Y=[some (.sh (.scr (ns.map T.int))),some (.sh (.int x0)),some (.sh (m5 m i o)),some (.sh (fT A B C D)),some (.sh (ao K)),none,none,none,none,none,none,none]:=⟨_,rfl⟩
  have v3:af 3 Y=some (fT A B C D,Y):=by rw [hY]; rfl
  have a:=GW (C:=fN) (wo (br (g:=bB) (fb:=fC (.int 0)) (b:=.int 0) (t:=ao A) v3 rfl rfl) (br (g:=bB) (fb:=fC (.int 1)) (b:=.int 1) (t:=ao B) v3 rfl rfl) (br (g:=bB) (fb:=fC (.int 2)) (b:=.int 2) (t:=ao C) v3 rfl rfl) (br (g:=bB) (fb:=fC (.int 3)) (b:=.int 3) (t:=ao D) v3 rfl rfl)) si
  rw [<- hY]
  exact dc a (by rw [hY]; rfl)
 have hk:∃ K':Nat,4 ≤ K' /\ K' ≤ 100 /\ aj uB (aa (fC (.int 4)) (aa (aj rm (aa (aj cm (aa (af 0) ai)) (aa (fC (.int 9)) ai))) ai)) (lI ns x0 m i o A B C D K [none,none,none,none,none,none])=some (.int (K':Nat),lI ns x0 m i o A B C D K [none,none,none,none,none,none]):=by
  have l1:cm [.scr (ns.map T.int)]=some (.int (ns.length:Nat)):=by
   show some (T.int ((ns.map T.int).length:Nat))=_
   rw [List.length_map]
  have c1:=aG (g:=cm) (f:=aa (af 0) ai) (ρ:=lI ns x0 m i o A B C D K [none,none,none,none,none,none]) [.scr (ns.map T.int)] (eV rfl) l1
  have c2:=aG (g:=rm) (f:=aa (aj cm (aa (af 0) ai)) (aa (fC (.int 9)) ai)) [.int (ns.length:Nat),.int 9] (dv c1 rfl) rfl
  have c3:=aG (g:=uB) (f:=aa (fC (.int 4)) (aa (aj rm (aa (aj cm (aa (af 0) ai)) (aa (fC (.int 9)) ai))) ai)) _ (dv rfl c2) rfl
  have hz:∃ z:Int,4 ≤ z /\ z ≤ 100 /\ aj uB (aa (fC (.int 4)) (aa (aj rm (aa (aj cm (aa (af 0) ai)) (aa (fC (.int 9)) ai))) ai)) (lI ns x0 m i o A B C D K [none,none,none,none,none,none])=some (.int z,lI ns x0 m i o A B C D K [none,none,none,none,none,none]):=by
   refine ⟨_,?_,?_,c3⟩
   ·split <;> (try split) <;> omega
   ·split <;> (try split) <;> omega
  obtain ⟨z,z1,z2,z3⟩:=hz
  refine ⟨z.toNat,by omega,by omega,?_⟩
  rw [show ((z.toNat:Nat):Int)=z by omega]
  exact z3
 obtain ⟨N,n0,n1,en⟩:=hk
 have r1:rD (aa (fC (.int 3)) (aa (aj uB (aa (fC (.int 4)) (aa (aj rm (aa (aj cm (aa (af 0) ai)) (aa (fC (.int 9)) ai))) ai))) ai)) (lI ns x0 m i o A B C D K [none,none,none,none,none,none])=some (TM.upTo ((3:Nat):Int) (((N:Nat):Int) - 3).toNat,lI ns x0 m i o A B C D K [none,none,none,none,none,none]):=by
  have e:=dv (f:=fC (.int 3)) (t:=.int 3) rfl en
  unfold rD
  rw [e,Option.bind_some]
  exact if_pos ⟨by omega,by omega⟩
 obtain ⟨y6,y7,y8,y9,y10,el⟩:=yP ns x0 h hK (by omega) ⟨by omega,by omega⟩ ⟨by omega,by omega⟩ (((N:Nat):Int) - 3).toNat 3 none none none none none
 refine dq rfl ?_
 show uu fN uA HN A9 AI Gj CY Gi kv HQ [some (.sh (.scr (ns.map T.int))),none,none,none,none,none,none,none,none,none,none,none]=_
 unfold uu
 refine (bA e1).trans ?_
 refine (bA e2).trans ?_
 refine (bA e3).trans ?_
 refine (bA e4).trans ?_
 refine (bA e5).trans ?_
 refine (bA (uJ r1 el)).trans ?_
 rfl
open PySem PySem.Spec PyProof.Rows L2 TM
theorem sG {α:Type} {us:List α} (h:us.length=1):∃ a,us=[a]:=List.length_eq_one_iff.mp h
theorem fJ {α:Type} {us:List α} (h:us.length=2):∃ a b,us=[a,b]:=by
 rcases us with _ | ⟨a,us⟩
 ·cases h
 ·obtain ⟨b,rfl⟩:=sG (us:=us) (by simpa using h)
  exact ⟨a,b,rfl⟩
theorem xo {α:Type} {us:List α} (h:us.length=3):∃ a b c,us=[a,b,c]:=by
 rcases us with _ | ⟨a,us⟩
 ·cases h
 ·obtain ⟨b,c,rfl⟩:=fJ (us:=us) (by simpa using h)
  exact ⟨a,b,c,rfl⟩
theorem DO {α:Type} {us:List α} (h:us.length=4):∃ a b c d,us=[a,b,c,d]:=by
 rcases us with _ | ⟨a,us⟩
 ·cases h
 ·obtain ⟨b,c,d,rfl⟩:=xo (us:=us) (by simpa using h)
  exact ⟨a,b,c,d,rfl⟩
theorem K0 {α:Type} {us:List α} (h:us.length=5):∃ a b c d e,us=[a,b,c,d,e]:=by
 rcases us with _ | ⟨a,us⟩
 ·cases h
 ·obtain ⟨b,c,d,e,rfl⟩:=DO (us:=us) (by simpa using h)
  exact ⟨a,b,c,d,e,rfl⟩
def fo (s:Stmt) (nm qn:Str) (pm:Value) (c:Addr):Obj:=⟨.type "function", none,.func (PySem.W.fnOf nm qn (iB s) (cQ s) (av s) .none .none .none pm none (.ref c) .none),#[]⟩
theorem fk {K:PySem.W.Frag} (st:Stmt) (f c:Addr) (nm qn:Str) (pm:Value) (l:K.lookup f=some (fo st nm qn pm c)) (h:PySem.W.codeIn K (.ref c) qn=true):eR K nm qn st f (PySem.W.fnOf nm qn (iB st) (cQ st) (av st) .none .none .none pm none (.ref c) .none):=Gx l h (by unfold PySem.W.keepIn; dsimp only; rw [l]; rfl)
abbrev Iy:List T -> Option T:=(bX 12 1 (uu 300 (uA) (HN) (A9) (AI) (Gj) (fun ts=>((kv) ts).bind fun o=>some o.tr) (Gi) (kv) (HQ)))
set_option maxHeartbeats 0 in
theorem all_mk {w:World} {h:Heap} {mg:Str -> Option Value} {fa:Addr} (X:(kk w.params).In h) (G:h.Ns mainGlobals mg) (hfa:mg "law" = some (.ref fa)) :
  ∃ fd:FuncData,(∀ (s:Shared) (v:Value),BindsTo s fd ⟨[v],[]⟩ [("_law_script", v)]) /\ ∀ base:Heap,(kk w.params).In base -> base.Ns mainGlobals mg -> eU pg w (kk w.params) mg base nN 10 fa fd ["_law_script"] (spT (kk w.params) 1 Iy):=by
 have mq:∀ (x:Str) (v:Value),PySem.W.nsIn (kk w.params) mainGlobals x=some (some v) -> mg x=some v:=fun x v e=>PySem.W.mg_of X G e
 have mn:∀ x:Str,PySem.W.nsIn (kk w.params) mainGlobals x=some none -> mg x=none:=fun x e=>PySem.W.mg_none_of X G e
 have e:=hfa.symm.trans (mq "law" (.ref 434) (by kernel_rfl))
 cases e
 have a0:=fk (K:=kk w.params) jl 346 345 "_law_cell" "_law_cell" kf (by kernel_rfl) (by kernel_rfl)
 have b0:=a0.binds (ps:=["_law_script", "_law_k"]) fun _ _ _ _ _ _ us hl=>by obtain ⟨a,b,rfl⟩:=fJ hl; rfl
 have c0:=mq "_law_cell" (.ref 346) (by kernel_rfl)
 have d0:=fk (K:=kk w.params) gw 360 359 "_law_divisor" "_law_divisor" kf (by kernel_rfl) (by kernel_rfl)
 have e0:=d0.binds (ps:=["_law_one", "_law_other"]) fun _ _ _ _ _ _ us hl=>by obtain ⟨a,b,rfl⟩:=fJ hl; rfl
 have f0:=mq "_law_divisor" (.ref 360) (by kernel_rfl)
 have g0:=fk (K:=kk w.params) jn 367 366 "_law_frac" "_law_frac" kf (by kernel_rfl) (by kernel_rfl)
 have i0:=g0.binds (ps:=["_law_top", "_law_bottom"]) fun _ _ _ _ _ _ us hl=>by obtain ⟨a,b,rfl⟩:=fJ hl; rfl
 have j0:=mq "_law_frac" (.ref 367) (by kernel_rfl)
 have k0:=fk (K:=kk w.params) iH 353 352 "_law_mixed" "_law_mixed" kf (by kernel_rfl) (by kernel_rfl)
 have l0:=k0.binds (ps:=["_law_cell_here", "_law_k"]) fun _ _ _ _ _ _ us hl=>by obtain ⟨a,b,rfl⟩:=fJ hl; rfl
 have o0:=mq "_law_mixed" (.ref 353) (by kernel_rfl)
 have q0:=fk (K:=kk w.params) gx 374 373 "_law_numbers" "_law_numbers" kf (by kernel_rfl) (by kernel_rfl)
 have r0:=q0.binds (ps:=["_law_cell_here", "_law_many"]) fun _ _ _ _ _ _ us hl=>by obtain ⟨a,b,rfl⟩:=fJ hl; rfl
 have s0:=mq "_law_numbers" (.ref 374) (by kernel_rfl)
 have t0:=fk (K:=kk w.params) jq 379 378 "_law_rows" "_law_rows" kf (by kernel_rfl) (by kernel_rfl)
 have u0:=t0.binds (ps:=["_law_numbers_here", "_law_many", "_law_wide"]) fun _ _ _ _ _ _ us hl=>by obtain ⟨a,b,c,rfl⟩:=xo hl; rfl
 have v0:=mq "_law_rows" (.ref 379) (by kernel_rfl)
 have y0:=fk (K:=kk w.params) jm 386 385 "_law_four" "_law_four" kf (by kernel_rfl) (by kernel_rfl)
 have z0:=y0.binds (ps:=["_law_cell_here", "_law_many", "_law_ins", "_law_outs"]) fun _ _ _ _ _ _ us hl=>by obtain ⟨a,b,c,d,rfl⟩:=DO hl; rfl
 have a1:=mq "_law_four" (.ref 386) (by kernel_rfl)
 have b1:=fk (K:=kk w.params) jo 393 392 "_law_plus" "_law_plus" kf (by kernel_rfl) (by kernel_rfl)
 have c1:=b1.binds (ps:=["_law_one", "_law_other"]) fun _ _ _ _ _ _ us hl=>by obtain ⟨a,b,rfl⟩:=fJ hl; rfl
 have d1:=mq "_law_plus" (.ref 393) (by kernel_rfl)
 have e1:=fk (K:=kk w.params) gz 400 399 "_law_weighed" "_law_weighed" kf (by kernel_rfl) (by kernel_rfl)
 have f1:=e1.binds (ps:=["_law_row", "_law_other"]) fun _ _ _ _ _ _ us hl=>by obtain ⟨a,b,rfl⟩:=fJ hl; rfl
 have g1:=mq "_law_weighed" (.ref 400) (by kernel_rfl)
 have i1:=fk (K:=kk w.params) kh 405 404 "_law_led" "_law_led" kf (by kernel_rfl) (by kernel_rfl)
 have j1:=i1.binds (ps:=["_law_table", "_law_row"]) fun _ _ _ _ _ _ us hl=>by obtain ⟨a,b,rfl⟩:=fJ hl; rfl
 have k1:=mq "_law_led" (.ref 405) (by kernel_rfl)
 have l1:=fk (K:=kk w.params) iG 410 409 "_law_added" "_law_added" kf (by kernel_rfl) (by kernel_rfl)
 have o1:=l1.binds (ps:=["_law_one", "_law_other"]) fun _ _ _ _ _ _ us hl=>by obtain ⟨a,b,rfl⟩:=fJ hl; rfl
 have q1:=mq "_law_added" (.ref 410) (by kernel_rfl)
 have r1:=fk (K:=kk w.params) gX 424 423 "_law_states" "_law_states" kf (by kernel_rfl) (by kernel_rfl)
 have s1:=r1.binds (ps:=["_law_four_here", "_law_back", "_law_start"]) fun _ _ _ _ _ _ us hl=>by obtain ⟨a,b,c,rfl⟩:=xo hl; rfl
 have t1:=mq "_law_states" (.ref 424) (by kernel_rfl)
 have u1:=fk (K:=kk w.params) kl 160 159 "is_whole" "is_whole" C1 (by kernel_rfl) (by kernel_rfl)
 have v1:=u1.binds (ps:=["thing"]) fun _ _ _ _ _ _ us hl=>by obtain ⟨a,rfl⟩:=sG hl; rfl
 have y1:=mq "is_whole" (.ref 160) (by kernel_rfl)
 have z1:=fk (K:=kk w.params) Hr 112 111 "half" "half" Ki (by kernel_rfl) (by kernel_rfl)
 have a2:=z1.binds (ps:=["one", "other"]) fun _ _ _ _ _ _ us hl=>by obtain ⟨a,b,rfl⟩:=fJ hl; rfl
 have b2:=mq "half" (.ref 112) (by kernel_rfl)
 have c2:=fk (K:=kk w.params) oP 105 104 "common" "common" Ki (by kernel_rfl) (by kernel_rfl)
 have d2:=c2.binds (ps:=["one", "other"]) fun _ _ _ _ _ _ us hl=>by obtain ⟨a,b,rfl⟩:=fJ hl; rfl
 have e2:=mq "common" (.ref 105) (by kernel_rfl)
 have f2:=fk (K:=kk w.params) gY 167 166 "is_fraction" "is_fraction" C1 (by kernel_rfl) (by kernel_rfl)
 have g2:=f2.binds (ps:=["thing"]) fun _ _ _ _ _ _ us hl=>by obtain ⟨a,rfl⟩:=sG hl; rfl
 have i2:=mq "is_fraction" (.ref 167) (by kernel_rfl)
 have j2:=fk (K:=kk w.params) oQ 193 192 "is_row" "is_row" nB (by kernel_rfl) (by kernel_rfl)
 have k2:=j2.binds (ps:=["thing", "many"]) fun _ _ _ _ _ _ us hl=>by obtain ⟨a,b,rfl⟩:=fJ hl; rfl
 have l2:=mq "is_row" (.ref 193) (by kernel_rfl)
 have o2:=fk (K:=kk w.params) kj 198 197 "is_table" "is_table" nB (by kernel_rfl) (by kernel_rfl)
 have q2:=o2.binds (ps:=["thing", "many", "wide"]) fun _ _ _ _ _ _ us hl=>by obtain ⟨a,b,c,rfl⟩:=xo hl; rfl
 have r2:=mq "is_table" (.ref 198) (by kernel_rfl)
 have s2:=fk (K:=kk w.params) gW 278 277 "ins" "System.ins" C3 (by kernel_rfl) (by kernel_rfl)
 have t2:=s2.binds (ps:=["self"]) fun _ _ _ _ _ _ us hl=>by obtain ⟨a,rfl⟩:=sG hl; rfl
 have u2:=fk (K:=kk w.params) fP 271 270 "cells" "System.cells" C3 (by kernel_rfl) (by kernel_rfl)
 have v2:=u2.binds (ps:=["self"]) fun _ _ _ _ _ _ us hl=>by obtain ⟨a,rfl⟩:=sG hl; rfl
 have y2:=fk (K:=kk w.params) ki 325 324 "can_keep" "can_keep" md5 (by kernel_rfl) (by kernel_rfl)
 have z2:=y2.binds (ps:=["system", "thing"]) fun _ _ _ _ _ _ us hl=>by obtain ⟨a,b,rfl⟩:=fJ hl; rfl
 have a3:=mq "can_keep" (.ref 325) (by kernel_rfl)
 have b3:=fk (K:=kk w.params) fZ 318 317 "refuse_aim" "refuse_aim" LI (by kernel_rfl) (by kernel_rfl)
 have c3:=b3.binds (ps:=["system", "aim"]) fun _ _ _ _ _ _ us hl=>by obtain ⟨a,b,rfl⟩:=fJ hl; rfl
 have d3:=mq "refuse_aim" (.ref 318) (by kernel_rfl)
 have e3:=fk (K:=kk w.params) fQ 242 241 "shared_bottom" "shared_bottom" nB (by kernel_rfl) (by kernel_rfl)
 have f3:=e3.binds (ps:=["row"]) fun _ _ _ _ _ _ us hl=>by obtain ⟨a,rfl⟩:=sG hl; rfl
 have g3:=mq "shared_bottom" (.ref 242) (by kernel_rfl)
 have i3:=fk (K:=kk w.params) oS 247 246 "raised" "raised" nB (by kernel_rfl) (by kernel_rfl)
 have j3:=i3.binds (ps:=["row", "low"]) fun _ _ _ _ _ _ us hl=>by obtain ⟨a,b,rfl⟩:=fJ hl; rfl
 have k3:=mq "raised" (.ref 247) (by kernel_rfl)
 have l3:=fk (K:=kk w.params) oR 230 229 "lifted" "lifted" nB (by kernel_rfl) (by kernel_rfl)
 have o3:=l3.binds (ps:=["row"]) fun _ _ _ _ _ _ us hl=>by obtain ⟨a,rfl⟩:=sG hl; rfl
 have q3:=mq "lifted" (.ref 230) (by kernel_rfl)
 have r3:=fk (K:=kk w.params) oU 252 251 "turned" "turned" nB (by kernel_rfl) (by kernel_rfl)
 have s3:=r3.binds (ps:=["table", "wide"]) fun _ _ _ _ _ _ us hl=>by obtain ⟨a,b,rfl⟩:=fJ hl; rfl
 have t3:=mq "turned" (.ref 252) (by kernel_rfl)
 have u3:=fk (K:=kk w.params) tK 188 187 "times" "times" C1 (by kernel_rfl) (by kernel_rfl)
 have v3:=u3.binds (ps:=["one", "other"]) fun _ _ _ _ _ _ us hl=>by obtain ⟨a,b,rfl⟩:=fJ hl; rfl
 have y3:=mq "times" (.ref 188) (by kernel_rfl)
 have z3:=fk (K:=kk w.params) xN 181 180 "plus" "plus" C1 (by kernel_rfl) (by kernel_rfl)
 have a4:=z3.binds (ps:=["one", "other"]) fun _ _ _ _ _ _ us hl=>by obtain ⟨a,b,rfl⟩:=fJ hl; rfl
 have b4:=mq "plus" (.ref 181) (by kernel_rfl)
 have c4:=fk (K:=kk w.params) ml 205 204 "weighed" "weighed" nB (by kernel_rfl) (by kernel_rfl)
 have d4:=c4.binds (ps:=["one", "other"]) fun _ _ _ _ _ _ us hl=>by obtain ⟨a,b,rfl⟩:=fJ hl; rfl
 have e4:=mq "weighed" (.ref 205) (by kernel_rfl)
 have f4:=fk (K:=kk w.params) xM 174 173 "frac" "frac" C1 (by kernel_rfl) (by kernel_rfl)
 have g4:=f4.binds (ps:=["top", "bottom"]) fun _ _ _ _ _ _ us hl=>by obtain ⟨a,b,rfl⟩:=fJ hl; rfl
 have i4:=mq "frac" (.ref 174) (by kernel_rfl)
 have j4:=fk (K:=kk w.params) fy 235 234 "weighed_lifted" "weighed_lifted" nB (by kernel_rfl) (by kernel_rfl)
 have k4:=j4.binds (ps:=["one", "other"]) fun _ _ _ _ _ _ us hl=>by obtain ⟨a,b,rfl⟩:=fJ hl; rfl
 have l4:=mq "weighed_lifted" (.ref 235) (by kernel_rfl)
 have o4:=fk (K:=kk w.params) mi 225 224 "product" "product" nB (by kernel_rfl) (by kernel_rfl)
 have q4:=o4.binds (ps:=["one", "other", "wide"]) fun _ _ _ _ _ _ us hl=>by obtain ⟨a,b,c,rfl⟩:=xo hl; rfl
 have r4:=mq "product" (.ref 225) (by kernel_rfl)
 have s4:=fk (K:=kk w.params) mj 215 214 "row_sum" "row_sum" nB (by kernel_rfl) (by kernel_rfl)
 have t4:=s4.binds (ps:=["one", "other"]) fun _ _ _ _ _ _ us hl=>by obtain ⟨a,b,rfl⟩:=fJ hl; rfl
 have u4:=mq "row_sum" (.ref 215) (by kernel_rfl)
 have v4:=fk (K:=kk w.params) jv 220 219 "table_sum" "table_sum" nB (by kernel_rfl) (by kernel_rfl)
 have y4:=v4.binds (ps:=["one", "other"]) fun _ _ _ _ _ _ us hl=>by obtain ⟨a,b,rfl⟩:=fJ hl; rfl
 have z4:=mq "table_sum" (.ref 220) (by kernel_rfl)
 have a5:=fk (K:=kk w.params) fv 290 289 "tables" "System.tables" C3 (by kernel_rfl) (by kernel_rfl)
 have b5:=a5.binds (ps:=["self"]) fun _ _ _ _ _ _ us hl=>by obtain ⟨a,rfl⟩:=sG hl; rfl
 have c5:=fk (K:=kk w.params) ju 332 331 "kept_move" "kept_move" md5 (by kernel_rfl) (by kernel_rfl)
 have d5:=c5.binds (ps:=["system", "back"]) fun _ _ _ _ _ _ us hl=>by obtain ⟨a,b,rfl⟩:=fJ hl; rfl
 have e5:=mq "kept_move" (.ref 332) (by kernel_rfl)
 have f5:=fk (K:=kk w.params) mh 210 209 "applied" "applied" nB (by kernel_rfl) (by kernel_rfl)
 have g5:=f5.binds (ps:=["table", "row"]) fun _ _ _ _ _ _ us hl=>by obtain ⟨a,b,rfl⟩:=fJ hl; rfl
 have i5:=mq "applied" (.ref 210) (by kernel_rfl)
 have j5:=fk (K:=kk w.params) iI 339 338 "kept_run" "kept_run" md5 (by kernel_rfl) (by kernel_rfl)
 have k5:=j5.binds (ps:=["system", "back", "start"]) fun _ _ _ _ _ _ us hl=>by obtain ⟨a,b,c,rfl⟩:=xo hl; rfl
 have l5:=mq "kept_run" (.ref 339) (by kernel_rfl)
 have o5:=fk (K:=kk w.params) jr 417 416 "_law_word" "_law_word" kf (by kernel_rfl) (by kernel_rfl)
 have q5:=o5.binds (ps:=["_law_system", "_law_back", "_law_start"]) fun _ _ _ _ _ _ us hl=>by obtain ⟨a,b,c,rfl⟩:=xo hl; rfl
 have r5:=mq "_law_word" (.ref 417) (by kernel_rfl)
 have s5:=fk (K:=kk w.params) gy 429 428 "_law_refused" "_law_refused" kf (by kernel_rfl) (by kernel_rfl)
 have t5:=s5.binds (ps:=["_law_system", "_law_back", "_law_start", "_law_cell_here"]) fun _ _ _ _ _ _ us hl=>by obtain ⟨a,b,c,d,rfl⟩:=DO hl; rfl
 have u5:=mq "_law_refused" (.ref 429) (by kernel_rfl)
 have v5:=fk (K:=kk w.params) jt 311 310 "is_system" "is_system" C3 (by kernel_rfl) (by kernel_rfl)
 have y5:=v5.binds (ps:=["move", "push", "look", "through"]) fun _ _ _ _ _ _ us hl=>by obtain ⟨a,b,c,d,rfl⟩:=DO hl; rfl
 have z5:=mq "is_system" (.ref 311) (by kernel_rfl)
 have a6:=fk (K:=kk w.params) dN 264 263 "__init__" "System.__init__" C3 (by kernel_rfl) (by kernel_rfl)
 have b6:=a6.binds (ps:=["self", "move", "push", "look", "through"]) fun _ _ _ _ _ _ us hl=>by obtain ⟨a,b,c,d,e,rfl⟩:=K0 hl; rfl
 have c6:=fk (K:=kk w.params) qF 434 433 "law" "law" kf (by kernel_rfl) (by kernel_rfl)
 have d6:=c6.binds (ps:=["_law_script"]) fun _ _ _ _ _ _ us hl=>by obtain ⟨a,rfl⟩:=sG hl; rfl
 have e6:=mq "law" (.ref 434) (by kernel_rfl)
 have f6:m7 (kk w.params) 300:=⟨by kernel_rfl,by kernel_rfl,by kernel_rfl,by kernel_rfl⟩
 have g6:=mq "System" (.ref 300) (by kernel_rfl)
 have i6:=mq "NoFit" (.ref 77) (by kernel_rfl)
 have j6:=mq "EchoError" (.ref 38) (by kernel_rfl)
 have k6:=mq "NoTable" (.ref 58) (by kernel_rfl)
 have l6:nS (kk w.params) 77 [38]:=⟨iS.of (by kernel_rfl),(List.forall_mem_cons.mpr ⟨⟨(vE),iS.of (by kernel_rfl)⟩,(fun _ h=>absurd h List.not_mem_nil)⟩)⟩
 have o6:nS (kk w.params) 58 [38]:=⟨iS.of (by kernel_rfl),(List.forall_mem_cons.mpr ⟨⟨(vE),iS.of (by kernel_rfl)⟩,(fun _ h=>absurd h List.not_mem_nil)⟩)⟩
 have q6:iS (kk w.params) 38 vE:=iS.of (by kernel_rfl)
 have r6:∀ C ∈ ([58,77]:List Addr),∃ up,nS (kk w.params) C up /\ (38=C \/ 38 ∈ up):=(List.forall_mem_cons.mpr ⟨⟨_,o6,Or.inr (by decide)⟩,(List.forall_mem_cons.mpr ⟨⟨_,l6,Or.inr (by decide)⟩,(fun _ h=>absurd h List.not_mem_nil)⟩)⟩)
 have s6:∀ a ∈ ([(58,true),(77,false)]:List (Addr × Bool)),zJ (kk w.params) 58 a.1 a.2:=(List.forall_mem_cons.mpr ⟨⟨⟨_,⟨o6.cls,by kernel_rfl,by kernel_rfl,by kernel_rfl,by kernel_rfl,by kernel_rfl⟩⟩,by kernel_rfl⟩,(List.forall_mem_cons.mpr ⟨⟨⟨_,⟨l6.cls,by kernel_rfl,by kernel_rfl,by kernel_rfl,by kernel_rfl,by kernel_rfl⟩⟩,by kernel_rfl⟩,(fun _ h=>absurd h List.not_mem_nil)⟩)⟩)
 have t6:∀ a ∈ ([(58,false),(77,true)]:List (Addr × Bool)),zJ (kk w.params) 77 a.1 a.2:=(List.forall_mem_cons.mpr ⟨⟨⟨_,⟨o6.cls,by kernel_rfl,by kernel_rfl,by kernel_rfl,by kernel_rfl,by kernel_rfl⟩⟩,by kernel_rfl⟩,(List.forall_mem_cons.mpr ⟨⟨⟨_,⟨l6.cls,by kernel_rfl,by kernel_rfl,by kernel_rfl,by kernel_rfl,by kernel_rfl⟩⟩,by kernel_rfl⟩,(fun _ h=>absurd h List.not_mem_nil)⟩)⟩)
 have u6:∀ C ∈ ([300]:List Addr),m7 (kk w.params) C /\ ff (kk w.params) C "four" := (List.forall_mem_cons.mpr ⟨⟨f6,(by kernel_rfl:PySem.W.findIn (kk w.params) (.ref 300) "four" = some none)⟩,(fun _ h=>absurd h List.not_mem_nil)⟩)
 have v6:=mn "len" (by kernel_rfl)
 have y6:=mn "abs" (by kernel_rfl)
 have z6:=mn "range" (by kernel_rfl)
 have a7:=mn "zip" (by kernel_rfl)
 have b7:=mn "int" (by kernel_rfl)
 have c7:=mn "isinstance" (by kernel_rfl)
 have d7:=mn "bool" (by kernel_rfl)
 have e7:=mn "tuple" (by kernel_rfl)
 have f7:=mn "list" (by kernel_rfl)
 have g7:=mn "all" (by kernel_rfl)
 have i7:=mn "max" (by kernel_rfl)
 have j7:=mn "sum" (by kernel_rfl)
 have k7:=mn "min" (by kernel_rfl)
 have l7:=mq "SHORT" (.int (4000) 292) (by kernel_rfl)
 have o7:=mq "NOUGHT" (.ref 153) (by kernel_rfl)
 have q7:(kk w.params).lookup 153=some ⟨.type "tuple", none,.seq #[.int (0) 396,.int (1) 397] 0,#[]⟩:=by kernel_rfl
 have r7:=mq "SHORT_QUOTIENT" (.int (8000) 296) (by kernel_rfl)
 have s7:=mq "MOST_LINES" (.int (2) 532) (by kernel_rfl)
 have t7:=mq "MOST_CELLS" (.int (8) 530) (by kernel_rfl)
 refine ⟨PySem.W.fnOf "law" "law" (iB qF) (cQ qF) (av qF) .none .none .none kf none (.ref 433) .none,fun s v=>.of_eq rfl,fun base _ _=>?_⟩
 have u7:Def pg w (kk w.params) mg base 1 "_law_cell" 2 (uA):=sX a0 b0 c0  v6
 have v7:Def pg w (kk w.params) mg base 1 "_law_divisor" 2 (cT):=(mW (P:=pg) (w:=w) (base:=base) (k:=0) B d0 e0 f0  y6).imp pj
 have y7:Def pg w (kk w.params) mg base 2 "_law_frac" 2 (yQ):=(sZ (P:=pg) (w:=w) (base:=base) (k:=1) g0 i0 j0 (v7.mono (by decide)) ).imp vR
 have z7:Def pg w (kk w.params) mg base 1 "_law_mixed" 2 (AH):=p7 k0 l0 o0  
 have a8:Def pg w (kk w.params) mg base 3 "_law_numbers" 2 (A9):=mX q0 r0 s0 (y7.mono (by decide)) (z7.mono (by decide)) z6
 have b8:Def pg w (kk w.params) mg base 1 "_law_rows" 3 (AI):=tj t0 u0 v0  z6
 have c8:Def pg w (kk w.params) mg base 4 "_law_four" 4 (HN):=sY y0 z0 a1 (a8.mono (by decide)) (b8.mono (by decide)) 
 have d8:Def pg w (kk w.params) mg base 3 "_law_plus" 2 (Ff):=tf b1 c1 d1 (y7.mono (by decide)) 
 have e8:Def pg w (kk w.params) mg base 4 "_law_weighed" 2 (Iz):=mZ e1 f1 g1 (y7.mono (by decide)) (d8.mono (by decide)) a7
 have f8:Def pg w (kk w.params) mg base 5 "_law_led" 2 (Dm):=vy i1 j1 k1 (e8.mono (by decide)) 
 have g8:Def pg w (kk w.params) mg base 4 "_law_added" 2 (Iv):=pZ l1 o1 q1 (d8.mono (by decide)) a7
 have i8:Def pg w (kk w.params) mg base 6 "_law_states" 3 (Gj):=oK r1 s1 t1 (f8.mono (by decide)) (g8.mono (by decide)) z6 v6
 have j8:Def pg w (kk w.params) mg base 1 "is_whole" 1 (HP):=vB u1 v1 y1  b7 c7 d7
 have k8:Def pg w (kk w.params) mg base 0 "half" 2 (fun _=>none):=Def.zero z1 a2 b2
 have l8:Def pg w (kk w.params) mg base 1 "common" 2 (cT):=(Ah (P:=pg) (w:=w) (base:=base) (k:=0) B c2 d2 e2 (k8.mono (by decide)) y6 l7).imp Aw
 have o8:Def pg w (kk w.params) mg base 2 "is_fraction" 1 (A5):=oM f2 g2 i2 (j8.mono (by decide)) (l8.mono (by decide)) e7 c7 v6
 have q8:Def pg w (kk w.params) mg base 3 "is_row" 2 (pP):=Ai j2 k2 l2 (o8.mono (by decide)) f7 c7 v6 g7
 have r8:Def pg w (kk w.params) mg base 4 "is_table" 3 (A7):=vA o2 q2 r2 (q8.mono (by decide)) f7 c7 v6 g7
 have s8:gR pg w (kk w.params) mg base 1 300 "ins" 1 (J8):=mV s2 t2 f6 ⟨by kernel_rfl,by kernel_rfl,by kernel_rfl⟩ u6 v6
 have t8:gR pg w (kk w.params) mg base 1 300 "cells" 1 (wc):=kR u2 v2 f6 ⟨by kernel_rfl,by kernel_rfl,by kernel_rfl⟩ u6 v6
 have u8:Def pg w (kk w.params) mg base 5 "can_keep" 2 (AG):=vz y2 z2 a3 (r8.mono (by decide)) (List.forall_mem_cons.mpr ⟨s8.mono (by decide),(fun _ h=>absurd h List.not_mem_nil)⟩) (List.forall_mem_cons.mpr ⟨t8.mono (by decide),(fun _ h=>absurd h List.not_mem_nil)⟩) 
 have v8:Def pg w (kk w.params) mg base 4 "refuse_aim" 2 (Fg):=p8 b3 c3 d3 (q8.mono (by decide)) (List.forall_mem_cons.mpr ⟨t8.mono (by decide),(fun _ h=>absurd h List.not_mem_nil)⟩) 
 have y8:nR pg w (kk w.params) mg base 4 "refuse_aim" 2 (Bc):=oJ b3 c3 d3 (q8.mono (by decide)) (List.forall_mem_cons.mpr ⟨t8.mono (by decide),(fun _ h=>absurd h List.not_mem_nil)⟩) l6 i6 
 have z8:Def pg w (kk w.params) mg base 2 "shared_bottom" 1 (Kh):=(ma (P:=pg) (w:=w) (base:=base) (k:=1) e3 f3 g3 (l8.mono (by decide)) ).imp mz
 have a9:Def pg w (kk w.params) mg base 1 "raised" 2 (Kg):=(Ak (P:=pg) (w:=w) (base:=base) (k:=0) i3 j3 k3  ).imp Ax
 have b9:Def pg w (kk w.params) mg base 3 "lifted" 1 (A8):=Aj l3 o3 q3 (z8.mono (by decide)) (a9.mono (by decide)) i7
 have c9:hW pg w (kk w.params) mg base 1 "turned" 2 (Jp):=(xB (P:=pg) (w:=w) (base:=base) (k:=0) r3 s3 t3  z6).imp Az
 have d9:Def pg w (kk w.params) mg base 2 "times" 2 (Jn):=(B6 (P:=pg) (w:=w) (base:=base) (k:=1) u3 v3 y3 (l8.mono (by decide)) ).imp CI
 have e9:Def pg w (kk w.params) mg base 2 "plus" 2 (DS):=(D8 (P:=pg) (w:=w) (base:=base) (k:=1) z3 a4 b4 (l8.mono (by decide)) ).imp EK
 have f9:Def pg w (kk w.params) mg base 3 "weighed" 2 (Kb):=xD c4 d4 e4 (d9.mono (by decide)) (e9.mono (by decide)) a7 o7 q7
 have g9:Def pg w (kk w.params) mg base 2 "frac" 2 (vm):=(D7 (P:=pg) (w:=w) (base:=base) (k:=1) f4 g4 i4 (l8.mono (by decide)) r7).imp EJ
 have i9:Def pg w (kk w.params) mg base 4 "weighed_lifted" 2 (CZ):=kS j4 k4 l4 (f9.mono (by decide)) (g9.mono (by decide)) a7 j7
 have j9:hW pg w (kk w.params) mg base 5 "product" 3 (J9):=vx (P:=pg) (w:=w) (base:=base) (k:=4) o4 q4 r4 (b9.mono (by decide)) (c9.plain.mono (by decide)) (i9.mono (by decide)) 
 have k9:Def pg w (kk w.params) mg base 3 "row_sum" 2 (IC):=xC s4 t4 u4 (e9.mono (by decide)) a7
 have l9:Def pg w (kk w.params) mg base 4 "table_sum" 2 (Ka):=tw v4 y4 z4 (k9.mono (by decide)) a7
 have o9:gR pg w (kk w.params) mg base 1 300 "tables" 1 (IA):=kg a5 b5 f6 ⟨by kernel_rfl,by kernel_rfl,by kernel_rfl⟩ u6 f7 e7
 have q9:Def pg w (kk w.params) mg base 6 "kept_move" 2 (Gh):=tu c5 d5 e5 (j9.plain.mono (by decide)) (l9.mono (by decide)) (List.forall_mem_cons.mpr ⟨o9.mono (by decide),(fun _ h=>absurd h List.not_mem_nil)⟩) v6
 have r9:hW pg w (kk w.params) mg base 6 "applied" 2 (pN):=vw (P:=pg) (w:=w) (base:=base) (k:=5) f5 g5 i5 (j9.plain.mono (by decide)) 
 have s9:hW pg w (kk w.params) mg base 7 "kept_run" 3 (kv):=sV (P:=pg) (w:=w) (base:=base) (k:=6) j5 k5 l5 (u8.mono (by decide)) (v8.mono (by decide)) (q9.mono (by decide)) (r9.mono (by decide)) (List.forall_mem_cons.mpr ⟨t8.mono (by decide),(fun _ h=>absurd h List.not_mem_nil)⟩) f7 z6
 have t9:nR pg w (kk w.params) mg base 7 "kept_run" 3 (zR):=sW j5 k5 l5 (u8.mono (by decide)) (y8.mono (by decide)) o6 k6 
 have u9:Def pg w (kk w.params) mg base 8 "_law_word" 3 (HR):=tm o5 q5 r5 (s9.plain.mono (by decide)) (t9.mono (by decide)) q6 r6 s6 t6 j6 i6 k6 c7 b7
 have v9:Def pg w (kk w.params) mg base 9 "_law_refused" 4 (Gi):=mY s5 t5 u5 (z7.mono (by decide)) (u9.mono (by decide)) e7
 have y9:Def pg w (kk w.params) mg base 5 "is_system" 4 (A6):=tq v5 y5 z5 (r8.mono (by decide)) f7 c7 v6 s7
 have z9:nT pg w (kk w.params) mg base 7 "System" 300 4 (HQ):=xy a6 b6 f6 ⟨by kernel_rfl,by kernel_rfl,by kernel_rfl,by kernel_rfl⟩ g6 (by kernel_rfl:PySem.W.findIn (kk w.params) (.ref 300) "four" = some none) (y9.mono (by decide)) v6 e7 t7
 exact Gu (P:=pg) (w:=w) (base:=base) (k:=9) c6 (u7.mono (by decide)) (c8.mono (by decide)) (a8.mono (by decide)) (b8.mono (by decide)) (i8.mono (by decide)) (s9.plain.mono (by decide)) (v9.mono (by decide)) (s9.mono (by decide)) (z9.mono (by decide)) z6 v6 k7 i7 f7 c7
theorem walk {q:Program} {loose:List Str} {XP:(Str -> Option Value) -> Heap -> Prop} {d:DefRec} (hn:d.name = "law") (hdf:d.params.defaults=[]):PySem.W.WalkO q loose XP hk.says lw.row.toRowW d [] (fun f vs=>PySem.call f vs):=
 L2.zE (n:=63) (k:=10) (x := "_law_script") (CX:=fun _=>nN) (K:=kk) (sp:=fun w=>spT (kk w.params) 1 Iy) rfl (by decide) hdf ⟨rfl,by decide,by decide⟩ (fun _ _ Y=>PySem.W.kIn_of Y) (fun w mg fa h KX G e=>all_mk KX G (by rw [hn] at e; exact e))
  (fun w H a ns hl _ hS=>⟨rfl,H,[.scr (ns.map T.int)],.bl true,aI.refl H,⟨_,[],rfl,⟨a,ns.map V.int,rfl,hS,qE ns⟩,rfl⟩,BP ns hl,fun _ _ v _ r=>r⟩) fun _ _ _ _ _ z=>z
end My
open PySem PySem.W PyProof.Rows
set_option maxHeartbeats 0 in
theorem PySem.Challenge.cw_echohouse_k83_kept_runs_holds : PySem.Challenge.rw_echohouse_k83_kept_runs.Holds := by
 refine holds_law My.ws fun said=>?_
 refine holds_open (q:=My.qv) (loose:=[]) (Xt:=My.xt) (XP:=XL My.qv []) My.hl (Hook.of My.hk) (Hook.keeps My.hk)
  (fun s e=>xl_of s (Bool.and_eq_true_iff.mp e).1) XL.keeps (by rfl) (by rfl) (by rfl)
  (fun s e=>recFacts_of (Bool.and_eq_true_iff.mp e).2) (by rfl) said (by decide +kernel) ⟨rfl,rfl,rfl,rfl,rfl,by decide +kernel⟩ ?hw ?hc
 case hw=>w_witness2
 case hc=>exact My.walk rfl rfl
