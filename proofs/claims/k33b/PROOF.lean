import PyProof.Rows.All
import Wide.All
import OpenK.AllK
import Wide.FinOn
import Lean
import PyProof.EqAt
import PyProof.EqKinds
import PyProof.TupleCall
import KE.KRevIter
import KE.KMinKey
import PyProof.FactsAll.range_2
import PyProof.Rows.CallKwBuiltin
import PyProof.EnumMake
import PyProof.EnumFor
import PyProof.ListNew
import PyProof.CollectIter
import PySem.Challenge.RW_echohouse_k33_whole_answers_make_runs
noncomputable section
local macro_rules | `(tactic| walk_at "sc")=>`(tactic| exact ⟨rfl,rfl,rfl,by decide +kernel,rfl,by decide +kernel,by decide +kernel⟩)
set_option Elab.async false
set_option linter.all false
set_option maxRecDepth 100000
set_option maxHeartbeats 4000000
local macro_rules | `(tactic| walk_at "ev")=>do
  let ns:List Lean.Name:=[`Bool.false_eq_true,`Bool.not_false,`Bool.not_true,`zE,`zF,`Cn,`List.cons_append,`List.getElem?_cons_succ,`List.getElem?_cons_zero,`List.length_cons,`List.length_nil,`List.map_cons,`List.map_nil,`List.nil_append,`List.replicate_succ,`List.replicate_zero,`List.set_cons_succ,`List.set_cons_zero,`Nat.reduceAdd,`Nat.reduceLeDiff,`Nat.reduceSub,`Nat.sub_self,`Nat.zero_add,`Option.bind_none,`Option.bind_some,`and_self,`and_true,`beq_self_eq_true,`boolsOf,`AM,`om,`bM,`Ke,`Kf,`iC,`decide_false,`decide_true,`av,`zO,`dZ,`m6,`jN,`fC,`ak,`FK,`iE,`aa,`Kg,`mJ,`A0,`fO,`Lr,`bY,`kl,`eH,`bI,`ao,`gP,`cj,`aG,`m7,`Kh,`m8,`dG,`bE,`ot,`aV,`mK,`bh,`eh,`wI,`eP,`cn,`fz,`ub,`m9,`ae,`aW,`dP,`ig,`uB,`A9,`iP,`FR,`zR,`nK,`Ba,`FV,`Lu,`Bb,`Bc,`Bd,`Be,`FW,`rN,`wK,`C3,`ay,`aj,`bS,`bX,`if_false,`if_true,`EX,`uI,`uJ,`wU,`uK,`zW,`wV,`rR,`rS,`rT,`uL,`rV,`wW,`uM,`p7,`rW,`rX,`uN,`rY,`wX,`uO,`p8,`rZ,`si,`uP,`sj,`wY,`uQ,`p9,`sk,`so,`uR,`sr,`wZ,`uS,`qb,`su,`sv,`uT,`sy,`w6,`uU,`qc,`sA,`sD,`uV,`sE,`w8,`uW,`qd,`sG,`sI,`uX,`sJ,`w9,`uY,`qe,`ite_false,`ite_true,`Kr,`Ks,`Kt,`Iz,`Lc,`Ku,`df,`Lz,`ne_eq,`not_false_eq_true,`not_true_eq_false,`reduceCtorEq,`reduceIte,`Jk,`JW,`true_and,`gG]
  let mut ls:Array (Lean.TSyntax `Lean.Parser.Tactic.simpLemma):=#[]
  for n in ns do
   unless (<- Lean.Macro.resolveGlobalName n).isEmpty do
    ls:=ls.push (<- `(Lean.Parser.Tactic.simpLemma| $(Lean.mkIdent n):ident))
  `(tactic| simp only [$[$ls],*, *])
namespace My
open PySem PySem.Spec PyProof.Rows
def tp (i:Nat):Stmt:=PySem.Challenge.pw_echohouse_k33_whole_answers_make_runs.main.body.getD i (.Pass ⟨0,0,0,0⟩)
def hA (s:Stmt):Arguments:=match s with
 | .FunctionDef _ a _ _ _ _ _ _ _ _=>a
 | _=>⟨[],[],none,[],[],none,[]⟩
def hB (s:Stmt):List Stmt:=match s with
 | .FunctionDef _ _ b _ _ _ _ _ _ _=>b
 | _=>[]
def hS (s:Stmt):Scope:=match s with
 | .FunctionDef _ _ _ _ _ _ sc _ _ _=>sc
 | _=>{ kind:=.function,names:=[],isGenerator:=false,isCoroutine:=false }
def tc (i j:Nat):Stmt:=match tp i with
 | .ClassDef _ _ _ body _ _ _ _ _ _ _=>body.getD j (.Pass ⟨0,0,0,0⟩)
 | _=>.Pass ⟨0,0,0,0⟩
abbrev pg:Program:=PySem.Challenge.pw_echohouse_k33_whole_answers_make_runs
abbrev lw:PySem.W.OpenLaw:=PySem.Challenge.rw_echohouse_k33_whole_answers_make_runs
def qv:Program:={ pg with main:={ pg.main with body:=([0,2,3,4,5,6,8,9,10,11,12,13,14,15,16,17,18,20,21,22,23,24,25,26,28,29,30,31,32,33,34,35,36,37,38,40,41,42,44,45,46,47,48,49,51,52,53,54,55,56,57,58,59,60,61,62,63,64,65,66,67]:List Nat).map tp } }
def cf:Str := "/claim/cut.py"
def Lb (nm qn:Str) (t l n k:Nat) (a b c d e:Value):Obj:=⟨.type "code", none,.fields #[.str nm t,.str qn (t + 1),.str cf (t + 2),.int l 0,.int n 0,.int 0 0,.int 0 0,.int 3 0,a,.bool true,.int 181 0,b,.none,c,d,e,.int k 0,.int l 0,.str cf (k + 1)],#[]⟩
def Kc (c:Nat) (nm qn:Str) (t l n k:Nat):Obj:=Lb nm qn t l n k (.ref (c - 5)) (.ref (c - 4)) (.ref (c - 3)) (.ref (c - 2)) (.ref (c - 1))
def Kd (c:Nat) (nm qn:Str) (t l n k:Nat):Obj:=Lb nm qn t l n k (.ref (c - 3)) (.ref (c - 2)) .none .none (.ref (c - 1))
def cA (c:Nat) (nm:Str) (t l n k:Nat):Obj:=Kc c nm nm t l n k
def cB (c:Nat) (nm:Str) (t l n k:Nat):Obj:=Kd c nm nm t l n k
def Il (s:Stmt) (nm qn:Str) (pm:Value) (c:Addr):Obj:=⟨.type "function", none,.func (PySem.W.fnOf nm qn (hA s) (hB s) (hS s) .none .none .none pm none (.ref c) .none),#[]⟩
def fh (s:Stmt) (nm:Str) (pm:Value) (c:Addr):Obj:=Il s nm nm pm c
def de (P:Params) (x:Str) (t:Tok) (v:Value):DictEntry:=⟨PyData.keyHash P x,.str x t,v⟩
def jh:Value:=.str "law_echohouse_k33_whole_answers_make_runs" 682
def Az:Value:=.str "echohouse.fracs" 417
def JT:Value:=.str "echohouse.divisors" 313
def pT:Value:=.str "echohouse.tables" 476
def JU:Value:=.str "echohouse.turns" 553
def md5:Value:=.str "echohouse.systems" 570
def kk (P:Params):PySem.W.Frag:=[
(3,⟨.type "dict", none,.dict #[de P "__name__" 165 (.str "law_echohouse_k33_whole_answers_make_runs" 682),de P "__doc__" 166 (.none),de P "__package__" 167 (.none),de P "__loader__" 168 (.builtin "__main__.__loader__#opaque"),de P "__spec__" 169 (.none),de P "__annotations__" 170 (.ref 6),de P "__builtins__" 171 (.ref 4),de P "__file__" 173 (.str "/claim/cut.py" 172),de P "__cached__" 174 (.none),de P "_wall" 193 (.ref 21),de P "EchoError" 220 (.ref 38),de P "NoTable" 243 (.ref 58),de P "NoFit" 266 (.ref 77),de P "NoTurns" 289 (.ref 96),de P "TooMany" 312 (.ref 115),de P "SHORT" 316 (.int (4000) 315),de P "SHORT_HALF" 318 (.int (256) 317),de P "SHORT_QUOTIENT" 320 (.int (8000) 319),de P "common" 329 (.ref 124),de P "half" 341 (.ref 131),de P "stepped" 351 (.ref 138),de P "step" 366 (.ref 145),de P "upper_half" 383 (.ref 152),de P "factors_joined" 399 (.ref 159),de P "divided" 405 (.ref 164),de P "low_inverse" 416 (.ref 171),de P "NOUGHT" 421 (.ref 172),de P "is_whole" 428 (.ref 179),de P "is_whole_below" 436 (.ref 186),de P "is_fraction" 445 (.ref 193),de P "frac" 454 (.ref 200),de P "plus" 465 (.ref 207),de P "times" 475 (.ref 214),de P "is_row" 483 (.ref 219),de P "is_table" 489 (.ref 224),de P "weighed" 500 (.ref 231),de P "applied" 506 (.ref 236),de P "product" 512 (.ref 241),de P "lifted" 518 (.ref 246),de P "weighed_lifted" 524 (.ref 251),de P "shared_bottom" 534 (.ref 258),de P "raised" 540 (.ref 263),de P "turned" 546 (.ref 268),de P "widened" 552 (.ref 273),de P "MOST_TURNS" 556 (.int (60) 555),de P "refuse_run" 562 (.ref 278),de P "refuse_many" 569 (.ref 285),de P "MOST_CELLS" 573 (.int (8) 572),de P "MOST_LINES" 575 (.int (2) 574),de P "System" 636 (.ref 333),de P "is_system" 649 (.ref 344),de P "run" 667 (.ref 351),de P "answers" 681 (.ref 358),de P "_law_cell" 691 (.ref 365),de P "_law_mixed" 700 (.ref 372),de P "_law_divisor" 708 (.ref 379),de P "_law_frac" 717 (.ref 386),de P "_law_numbers" 730 (.ref 393),de P "_law_rows" 736 (.ref 398),de P "_law_four" 750 (.ref 405),de P "_law_ints" 756 (.ref 410),de P "_law_dot" 762 (.ref 415),de P "_law_is" 768 (.ref 420),de P "_law_are" 779 (.ref 427),de P "_law_columns" 785 (.ref 432),de P "_law_times" 791 (.ref 437),de P "_law_answers" 797 (.ref 442),de P "_law_plus" 805 (.ref 449),de P "_law_summed" 819 (.ref 456),de P "law" 825 (.ref 461)] 70,#[]⟩),
(123,cA 123 "common" 321 29 2 327),
(124,fh (tp 11) "common" JT 123),
(130,cA 130 "half" 330 38 2 339),
(131,fh (tp 12) "half" JT 130),
(172,⟨.type "tuple", none,.seq #[.int (0) 419,.int (1) 420] 0,#[]⟩),
(178,cA 178 "is_whole" 422 92 1 426),
(179,fh (tp 21) "is_whole" Az 178),
(185,cA 185 "is_whole_below" 429 94 2 434),
(186,fh (tp 22) "is_whole_below" Az 185),
(192,cA 192 "is_fraction" 437 96 1 443),
(193,fh (tp 23) "is_fraction" Az 192),
(199,cA 199 "frac" 446 101 2 452),
(200,fh (tp 24) "frac" Az 199),
(206,cA 206 "plus" 455 110 2 463),
(207,fh (tp 25) "plus" Az 206),
(213,cA 213 "times" 466 115 2 473),
(214,fh (tp 26) "times" Az 213),
(218,cB 218 "is_row" 478 120 2 481),
(219,fh (tp 28) "is_row" pT 218),
(223,cB 223 "is_table" 484 122 3 487),
(224,fh (tp 29) "is_table" pT 223),
(230,cA 230 "weighed" 490 124 2 498),
(231,fh (tp 30) "weighed" pT 230),
(235,cB 235 "applied" 501 129 2 504),
(236,fh (tp 31) "applied" pT 235),
(240,cB 240 "product" 507 131 3 510),
(241,fh (tp 32) "product" pT 240),
(245,cB 245 "lifted" 513 135 1 516),
(246,fh (tp 33) "lifted" pT 245),
(250,cB 250 "weighed_lifted" 519 138 2 522),
(251,fh (tp 34) "weighed_lifted" pT 250),
(257,cA 257 "shared_bottom" 525 144 1 532),
(258,fh (tp 35) "shared_bottom" pT 257),
(262,cB 262 "raised" 535 149 2 538),
(263,fh (tp 36) "raised" pT 262),
(267,cB 267 "turned" 541 151 2 544),
(268,fh (tp 37) "turned" pT 267),
(272,cB 272 "widened" 547 153 2 550),
(273,fh (tp 38) "widened" pT 272),
(277,cB 277 "refuse_run" 557 157 4 560),
(278,fh (tp 41) "refuse_run" JU 277),
(284,cA 284 "refuse_many" 563 164 1 567),
(285,fh (tp 42) "refuse_many" JU 284),
(296,Kd 296 "__init__" "System.__init__" 588 172 5 591),
(297,Il (tc 46 0) "__init__" "System.__init__" md5 296),
(303,Kc 303 "cells" "System.cells" 594 179 1 598),
(304,Il (tc 46 1) "cells" "System.cells" md5 303),
(310,Kc 310 "ins" "System.ins" 601 182 1 605),
(311,Il (tc 46 2) "ins" "System.ins" md5 310),
(322,Kd 322 "tables" "System.tables" 615 188 1 618),
(323,Il (tc 46 4) "tables" "System.tables" md5 322),
(332,⟨.type "dict", none,.dict #[de P "__module__" 583 (.str "echohouse.systems" 570),de P "__firstlineno__" 587 (.int (170) 586),de P "__init__" 593 (.ref 297),de P "cells" 600 (.ref 304),de P "ins" 607 (.ref 311),de P "outs" 614 (.ref 318),de P "tables" 620 (.ref 323),de P "told" 627 (.ref 330),de P "__static_attributes__" 629 (.ref 331),de P "__dict__" 631 (.ref 334),de P "__weakref__" 633 (.ref 335),de P "__doc__" 634 (.none)] 4,#[]⟩),
(333,⟨.type "type", none,.cls ⟨"System", [.type "object"],[.ref 333,.type "object"],332, "System", true,[],[],false,none,false⟩,#[none,none,some (.str "System" 576),some (.str "System" 584),some (.builtin "object.__new__"),some (.bool true)]⟩),
(343,cA 343 "is_system" 637 193 4 647),
(344,fh (tp 47) "is_system" md5 343),
(350,cA 350 "run" 650 200 3 665),
(351,fh (tp 48) "run" md5 350),
(357,cA 357 "answers" 668 210 2 679),
(358,fh (tp 49) "answers" md5 357),
(364,cA 364 "_law_cell" 684 220 2 689),
(365,fh (tp 51) "_law_cell" jh 364),
(371,cA 371 "_law_mixed" 692 224 2 698),
(372,fh (tp 52) "_law_mixed" jh 371),
(378,cA 378 "_law_divisor" 701 228 2 706),
(379,fh (tp 53) "_law_divisor" jh 378),
(385,cA 385 "_law_frac" 709 234 2 715),
(386,fh (tp 54) "_law_frac" jh 385),
(392,cA 392 "_law_numbers" 718 237 2 728),
(393,fh (tp 55) "_law_numbers" jh 392),
(397,cB 397 "_law_rows" 731 251 3 734),
(398,fh (tp 56) "_law_rows" jh 397),
(404,cA 404 "_law_four" 737 253 4 748),
(405,fh (tp 57) "_law_four" jh 404),
(409,cB 409 "_law_ints" 751 261 1 754),
(410,fh (tp 58) "_law_ints" jh 409),
(414,cB 414 "_law_dot" 757 263 2 760),
(415,fh (tp 59) "_law_dot" jh 414),
(419,cB 419 "_law_is" 763 265 3 766),
(420,fh (tp 60) "_law_is" jh 419),
(426,cA 426 "_law_are" 769 272 3 777),
(427,fh (tp 61) "_law_are" jh 426),
(431,cB 431 "_law_columns" 780 279 2 783),
(432,fh (tp 62) "_law_columns" jh 431),
(436,cB 436 "_law_times" 786 281 3 789),
(437,fh (tp 63) "_law_times" jh 436),
(441,cB 441 "_law_answers" 792 284 4 795),
(442,fh (tp 64) "_law_answers" jh 441),
(448,cA 448 "_law_plus" 798 301 2 803),
(449,fh (tp 65) "_law_plus" jh 448),
(455,cA 455 "_law_summed" 806 303 4 817),
(456,fh (tp 66) "_law_summed" jh 455),
(460,cB 460 "law" 820 309 1 823),
(461,fh (tp 67) "law" jh 460)]
def ka:List Addr:=[3,123,124,130,131,172,178,179,185,186,192,193,199,200,206,207,213,214,218,219,223,224,230,231,235,236,240,241,245,246,250,251,257,258,262,263,267,268,272,273,277,278,284,285,296,297,303,304,310,311,322,323,332,333,343,344,350,351,357,358,364,365,371,372,378,379,385,386,392,393,397,398,404,405,409,410,414,415,419,420,426,427,431,432,436,437,441,442,448,449,455,456,460,461]
theorem Lx (P:Params):ka=(kk P).map (·.1):=by kernel_rfl
abbrev hk:PySem.W.Hook:=PySem.W.kHook kk ka Lx
abbrev xt (s:Shared):Bool:=PySem.W.xlAt qv [] s && PySem.W.recOk (PySem.W.RowW.records lw.row.toRowW) s
open PySem.W PySem.Calls in
def dY (tb:String -> Option Builtin) (p:Program) (w:World) (n₀:Nat) (ann:Option Value):Nat -> SharedT -> Thread -> Option SharedT
 | 0,_,_=>none
 | n + 1,s,t=>match through t with
  | true=>some s
  | false=>match stepOk n₀ ann t with
   | false=>none
   | true=>match stepT (denote tb) p w s t with
    | some (s',t')=>dY tb p w n₀ ann n s' t'
    | none=>none
open PySem.W PySem.Calls in
theorem qT {tb:String -> Option Builtin} {p:Program} {w:World} {n₀:Nat} {ann:Option Value}:∀ {n:Nat} {s:SharedT} {t:Thread} {r:SharedT},dY tb p w n₀ ann n s t=some r -> topRun tb p w n₀ ann n s.abs t=some r.abs
 | 0,_,_,_,e=>by simp [dY] at e
 | n + 1,s,t,r,e=>by
  rw [dY] at e
  rw [topRun]
  cases h1:through t with
  | true=>rw [h1] at e; cases e; rfl
  | false =>
   rw [h1] at e
   dsimp only at e ⊢
   cases h2:stepOk n₀ ann t with
   | false=>rw [h2] at e; cases e
   | true =>
    rw [h2] at e
    dsimp only at e ⊢
    cases h3:stepT (denote tb) p w s t with
    | none=>rw [h3] at e; cases e
    | some x =>
     obtain ⟨s',t'⟩:=x
     rw [h3] at e
     rw [stepT_spec h3]
     exact qT e
def bt (P:Params):PySem.W.BT:=((PySem.W.boot_heap P).objs.toList.foldl (fun (x:PySem.W.BT × Nat) o=>(x.1.ins x.2 o,x.2 + 1)) (PySem.W.BT.nil,0)).1
open PySem.W PySem.Calls in
theorem IA {p q:Program} {loose:List Str} {Xt:Shared -> Bool} {α:Type} {Yf:Shared -> α} {Ya:World -> α} {N:Nat} {g0:Bool} (he:opening p=plainProg p.main.scope.names) (hN:Nat.ble 600 N=true) (hf:∀ s,fenceModules? p s=some s)
  (h0:∀ P,absHeap (bt P) 11 {}=boot_heap P)
  (hz:∀ P,((boot_heap P).isNs mainGlobals,(boot_heap P).objs.size,(boot_heap P).nsMap mainGlobals (Str.ofString "__annotations__"))=(true,11,some (.ref 6)))
  (g1:∀ w:World,(fun os:OsState=>(dY treeTable p w 11 (some (.ref 6)) N ⟨bt w.params,11,{},#[],boot_drawn,boot_toks,os⟩ (topStub p)).map fun s=>staticsOk (importedModules p.main.body) (boot_heap w.params) s.abs.heap && namesBound p s.abs.heap && gensDone s.abs && laidKept (boot_heap w.params) s.abs.heap)=fun _=>some true)
  (g2:∀ w:World,(fun os:OsState=>(dY treeTable p w 11 (some (.ref 6)) N ⟨bt w.params,11,{},#[],boot_drawn,boot_toks,os⟩ (topStub p)).map fun s=>(openSeen q loose (importedModules p.main.body) Xt g0 s.abs).1)=fun _=>some (openGood q loose).1)
  (g4:∀ w:World,(fun os:OsState=>(dY treeTable p w 11 (some (.ref 6)) N ⟨bt w.params,11,{},#[],boot_drawn,boot_toks,os⟩ (topStub p)).map fun s=>(openSeen q loose (importedModules p.main.body) Xt g0 s.abs).2)=fun _=>some (openGood q loose).2)
  (g3:∀ w:World,(fun os:OsState=>(dY treeTable p w 11 (some (.ref 6)) N ⟨bt w.params,11,{},#[],boot_drawn,boot_toks,os⟩ (topStub p)).map fun s=>Yf s.abs)=fun _=>some (Ya w)) :
  LeftO p q loose Xt Yf Ya N g0:=by
 intro w
 have b:=boot_open (p:=p) (N:=N) he hN hf w
 cases c:fencedOpening treeTable p w N with
 | none=>rw [c] at b; cases b
 | some s =>
  rw [c] at b
  obtain ⟨hp,gs,dr,tk,os⟩:=s
  simp only [Option.map_some,Option.some.injEq,Prod.mk.injEq] at b
  obtain ⟨b1,b2,b3,b4⟩:=b
  subst b1 b2 b3 b4
  have g1:=congrFun (g1 w) os
  have g2:=congrFun (g2 w) os
  have g3:=congrFun (g3 w) os
  have g4:=congrFun (g4 w) os
  have z:=hz w.params
  simp only [Prod.mk.injEq] at z
  obtain ⟨z1,z2,z3⟩:=z
  unfold openEnds
  rw [c]
  simp only [Option.bind_some]
  unfold topFrom
  rw [z1,z2,z3]
  dsimp only [Bool.true_and]
  cases e:dY treeTable p w 11 (some (.ref 6)) N ⟨bt w.params,11,{},#[],boot_drawn,boot_toks,os⟩ (topStub p) with
  | none=>rw [e] at g1; cases g1
  | some r =>
   rw [e] at g1 g2 g3 g4
   have e':=qT e
   unfold SharedT.abs at e'
   rw [h0] at e'
   have:({ toList:=[] }:Array GenState).size == 0:=rfl
   rw [this]
   try dsimp only
   rw [e']
   simp only [Option.map_some,Option.some.injEq] at g1 g2 g3 g4
   have a1:=g1
   have a2:=Prod.ext g2 g4
   have a3:=g3
   unfold SharedT.abs at a1 a2 a3
   simp only [Option.bind_some]
   rw [a1]
   try dsimp only
   show some (_,_)=_
   rw [a2,a3]
theorem h0 (P:Params):PySem.W.absHeap (bt P) 11 {}=PySem.W.boot_heap P:=by kernel_rfl
set_option maxHeartbeats 0 in
open PySem.W PySem.Calls in
theorem JP (w:World):(fun os:OsState=>(dY treeTable lw.row.prog w 11 (some (.ref 6)) 6400 ⟨bt w.params,11,{},#[],boot_drawn,boot_toks,os⟩ (topStub lw.row.prog)).map fun s=>staticsOk (importedModules lw.row.prog.main.body) (boot_heap w.params) s.abs.heap && namesBound lw.row.prog s.abs.heap && gensDone s.abs && laidKept (boot_heap w.params) s.abs.heap)=fun _=>some true:=by kernel_rfl
set_option maxHeartbeats 0 in
open PySem.W PySem.Calls in
theorem Ip (w:World):(fun os:OsState=>(dY treeTable lw.row.prog w 11 (some (.ref 6)) 6400 ⟨bt w.params,11,{},#[],boot_drawn,boot_toks,os⟩ (topStub lw.row.prog)).map fun s=>(openSeen qv [] (importedModules lw.row.prog.main.body) xt true s.abs).1)=fun _=>some (openGood qv []).1:=by kernel_rfl
set_option maxHeartbeats 0 in
open PySem.W PySem.Calls in
theorem Lv (w:World):(fun os:OsState=>(dY treeTable lw.row.prog w 11 (some (.ref 6)) 6400 ⟨bt w.params,11,{},#[],boot_drawn,boot_toks,os⟩ (topStub lw.row.prog)).map fun s=>(openSeen qv [] (importedModules lw.row.prog.main.body) xt true s.abs).2)=fun _=>some (openGood qv []).2:=by kernel_rfl
set_option maxHeartbeats 0 in
open PySem.W PySem.Calls in
theorem Lw (w:World):(fun os:OsState=>(dY treeTable lw.row.prog w 11 (some (.ref 6)) 6400 ⟨bt w.params,11,{},#[],boot_drawn,boot_toks,os⟩ (topStub lw.row.prog)).map fun s=>hk.obs s.abs)=fun _=>some (hk.val w):=by kernel_rfl
theorem hl:PySem.W.LeftO lw.row.prog qv [] xt hk.obs hk.val 6400:=IA (by kernel_rfl) (by kernel_rfl) (fun _=>by kernel_rfl) h0 (fun _=>by kernel_rfl) JP Ip Lv Lw
theorem ws:lw.wellSaid=true:=by kernel_rfl
end My
namespace L2
open PySem PySem.Spec PyProof.Rows
abbrev Key:=Sum Int Str
def EY:Key -> Value -> Bool
 | .inl k,v=>Value.isInt k v
 | .inr x,v=>Value.isStrOf x v
def Kq (w:World):Key -> Int
 | .inl k=>hashInt k
 | .inr x=>hashStr w x
theorem cJ:∀ {k:Key} {v:Value},EY k v=true -> (∃ i t,k=Sum.inl i /\ v=Value.int i t) \/ (∃ x t,k=Sum.inr x /\ v=Value.str x t)
 | .inl i,v,h=>by
  obtain ⟨t,e⟩:=Value.isInt_shape (k:=i) (v:=v) h
  exact .inl ⟨i,t,rfl,e⟩
 | .inr x,v,h=>by
  obtain ⟨t,e⟩:=Value.isStrOf_shape (x:=x) (v:=v) h
  exact .inr ⟨x,t,rfl,e⟩
theorem Gj (a b:Int):decide ((Sum.inl a:Key)=Sum.inl b)=(a == b):=by
 by_cases e:a=b
 ·subst e; simp
 ·have h:¬ (Sum.inl a:Key)=Sum.inl b:=fun q=>e (Sum.inl.inj q)
  rw [decide_eq_false h]
  exact (beq_eq_false_iff_ne.mpr e).symm
theorem Gp (a b:Str):decide ((Sum.inr a:Key)=Sum.inr b)=decide (a=b):=by
 by_cases e:a=b
 ·subst e; simp
 ·have h:¬ (Sum.inr a:Key)=Sum.inr b:=fun q=>e (Sum.inr.inj q)
  rw [decide_eq_false h,decide_eq_false e]
theorem Gk (a:Int) (b:Str):decide ((Sum.inl a:Key)=Sum.inr b)=false:=decide_eq_false (fun q=>nomatch q)
theorem Gm (a:Str) (b:Int):decide ((Sum.inr a:Key)=Sum.inl b)=false:=decide_eq_false (fun q=>nomatch q)
def sQ (prog:Program) (w:World):PySem.KeyKind prog w Key where
 is:=EY
 hash:=Kq w
 inj:=fun v a b ha hb=>by
  rcases cJ ha with ⟨i,t,rfl,rfl⟩ | ⟨x,t,rfl,rfl⟩
  ·rcases cJ hb with ⟨j,u,rfl,e⟩ | ⟨y,u,rfl,e⟩
   ·injection e with e1 _; rw [e1]
   ·exact nomatch e
  ·rcases cJ hb with ⟨j,u,rfl,e⟩ | ⟨y,u,rfl,e⟩
   ·exact nomatch e
   ·injection e with e1 _; rw [e1]
 byValue:=fun k v h=>by
  rcases cJ h with ⟨i,t,rfl,rfl⟩ | ⟨x,t,rfl,rfl⟩ <;> rfl
 pyHash:=fun hv h=>by
  rcases cJ hv with ⟨i,t,rfl,rfl⟩ | ⟨x,t,rfl,rfl⟩
  ·exact wpAny_pyHash_int h
  ·exact wpAny_pyHash_str h
 eqBool:=fun hu hv h=>by
  rcases cJ hu with ⟨i,t,rfl,rfl⟩ | ⟨x,t,rfl,rfl⟩
  ·rcases cJ hv with ⟨j,u,rfl,rfl⟩ | ⟨y,u,rfl,rfl⟩
   ·rw [Gj] at h; exact wpAny_eqBool_int h
   ·rw [Gk] at h; exact SeqAt.EqAt.int_str i t y u _ _ _ _ h
  ·rcases cJ hv with ⟨j,u,rfl,rfl⟩ | ⟨y,u,rfl,rfl⟩
   ·rw [Gm] at h; exact SeqAt.EqAt.str_int x t j u _ _ _ _ h
   ·rw [Gp] at h; exact wpAny_eqBool_str h
 «strs»:=fun k x t v h=>by
  rcases cJ h with ⟨i,u,rfl,e⟩ | ⟨y,u,rfl,e⟩
  ·exact nomatch e
  ·injection e with e1 _
   subst e1
   cases v <;> rfl
open PySem PySem.Spec PyProof.Rows
inductive V where
 | non | bl (b:Bool) | int (i:Int) | str (x:Str) | byt (b:Array UInt8) | flt (b:UInt64) | ref (a:Addr) | ty (n:String)
 deriving DecidableEq
def RelV:V -> Value -> Prop
 | .non,u=>u=Value.none
 | .bl b,u=>u=Value.bool b
 | .int i,u=>∃ t,u=Value.int i t
 | .str x,u=>∃ t,u=Value.str x t
 | .byt b,u=>∃ t,u=Value.bytes b t
 | .flt b,u=>∃ t,u=Value.float b t
 | .ref a,u=>u=Value.ref a
 | .ty n,u=>u=Value.type n
abbrev Vals:List V -> List Value -> Prop:=Paired RelV
theorem Vals.length {xs:List V} {us:List Value} (r:Vals xs us):xs.length=us.length:=Paired.length r
theorem Vals.get:∀ {xs:List V} {us:List Value} {i:Nat} {x:V},Vals xs us -> xs[i]? = some x -> ∃ u,us[i]? = some u /\ RelV x u
 | _,_,_,_,.nil,e=>by simp at e
 | _,_,0,_,.cons r _,e=>by simp at e; subst e; exact ⟨_,rfl,r⟩
 | _,_,i + 1,x,.cons _ t,e=>by
  obtain ⟨u,h1,h2⟩:=Vals.get (i:=i) (x:=x) t (by simpa using e)
  exact ⟨u,by simpa using h1,h2⟩
theorem Vals.set {x:V} {u:Value} (r:RelV x u):∀ {xs:List V} {us:List Value} (i:Nat),Vals xs us -> Vals (xs.set i x) (us.set i u)
 | _,_,_,.nil=>.nil
 | _,_,0,.cons _ t=>.cons r t
 | _,_,i + 1,.cons q t=>.cons q (Vals.set r i t)
theorem Vals.append:∀ {xs ys:List V} {us ws:List Value},Vals xs us -> Vals ys ws -> Vals (xs ++ ys) (us ++ ws)
 | _,_,_,_,.nil,s=>s
 | _,_,_,_,.cons r t,s=>.cons r (Vals.append t s)
theorem Vals.take:∀ {xs:List V} {us:List Value} (n:Nat),Vals xs us -> Vals (xs.take n) (us.take n)
 | _,_,0,_=>.nil
 | _,_,_ + 1,.nil=>.nil
 | _,_,n + 1,.cons r t=>.cons r (Vals.take n t)
theorem Vals.drop:∀ {xs:List V} {us:List Value} (n:Nat),Vals xs us -> Vals (xs.drop n) (us.drop n)
 | _,_,0,r=>r
 | _,_,_ + 1,.nil=>.nil
 | _,_,n + 1,.cons _ t=>Vals.drop n t
theorem Vals.none_of:∀ {xs:List V} {us:List Value} {i:Nat},Vals xs us -> xs[i]? = none -> us[i]? = none:=fun {xs us i} r e=>by
 have h1:=r.length
 have h2:xs.length ≤ i:=List.getElem?_eq_none_iff.mp e
 exact List.getElem?_eq_none_iff.mpr (by omega)
def pY:Option V -> Option Value -> Prop
 | some v,some u=>RelV v u
 | none,none=>True
 | _,_=>False
def KV {κ:Type}:List (κ × V) -> List (κ × Value) -> Prop:=Paired fun (p:κ × V) (q:κ × Value)=>p.1=q.1 /\ RelV p.2 q.2
def kV:Key -> V
 | .inl i=>.int i
 | .inr x=>.str x
inductive HO where
  | lst (xs:List V)
  | tup (xs:List V)
  | dK (kvs:List (Key × V)) | dT (kvs:List (List Key × V))
  | set (S:Int -> Bool) (n:Nat)
  | ins (C dx:Addr) (fs:List (Str × V))
  | own (x:Addr)
  | xd (fs:List (Str × V))
  | met (f x:Addr)
  | rng (lo hi:Int)
  | frz (o:Obj) (u:HO)
  | tbl (ps:Array Value)
  | ext (φ:Heap -> Prop)
abbrev Hp:=Addr -> Option HO
def upd (H:Hp) (a:Addr) (o:HO):Hp:=fun b=>if b=a then some o else H b
theorem aR {H:Hp} {a:Addr} {o:HO}:upd H a o a=some o:=by unfold upd; rw [if_pos rfl]
theorem aJ {H:Hp} {a b:Addr} {o:HO} (h:b ≠ a):upd H a o b=H b:=by unfold upd; rw [if_neg h]
theorem bK {H:Hp} {a b:Addr} {o:HO} (h:H a=some o) (h':H b=none):a ≠ b:=by
 intro e; subst e; rw [h] at h'; cases h'
section
variable (P:Program) (w:World)
def fX (H:Hp) (h:Heap) (a:Addr):HO -> Prop
 | .lst xs=>xs.length ≤ sizeLine /\ ∃ (its:List Value) (n:Nat),Vals xs its /\ h.get? a=some { cls:=.type "list", data:=.seq its.toArray n }
 | .tup xs=>xs.length ≤ sizeLine /\ ∃ its:List Value,Vals xs its /\ IsTup h a its.toArray
 | .dK kvs=>kvs.length ≤ sizeLine /\ (a == sysModules)=false /\ ∃ vs,KV kvs vs /\ h.DictOf (sQ P w) a vs
 | .dT kvs=>kvs.length ≤ sizeLine /\ (a == sysModules)=false /\ ∃ xs:List (List Key × Addr × Value),
   Paired (fun (p:List Key × V) (q:List Key × Addr × Value)=>p.1=q.1 /\ H q.2.1=some (.tup (p.1.map kV)) /\ RelV p.2 q.2.2) kvs xs /\
   ∃ o es ep,h.get? a=some o /\ o.ExactDict /\ o.data=.dict es ep /\ es.toList=xs.map (entryOfKey (tupleKind (sQ P w))) /\ (xs.map (·.1)).Nodup
 | .set S n=>h.SetOf (intKind P w) a S n
 | .ins C dx fs=>H dx=some (.own a) /\ fs.length ≤ 1000 /\ dx ≠ a /\ h.get? a=some (PySem.W.instObj C dx) /\
   ∃ mA,h.Ns1 dx mA /\ (∀ f,pY (fs.lookup f) (mA f)) /\ PySem.Within mA (fs.map (·.1))
 | .own _=>∃ o,h.get? a=some o
 | .xd fs=>∃ mA,h.Ns1 a mA /\ ∀ f,pY (fs.lookup f) (mA f)
 | .rng lo hi=>∃ t u v,h.get? a=some { cls:=.type "range", data:=.fields #[.int lo t,.int hi u,.int 1 v] }
 | .frz o u=>h.get? a=some o /\ fX H h a u
 | .tbl ps=>h.get? a=some { cls:=.none,data:=.fields ps }
 | .met f x=>h.get? a=some (PySem.W.methodObj (.ref f) (.ref x))
 | .ext φ=>φ h /\ (∃ o,h.get? a=some o) /\ ∀ h1 h2:Heap,φ h1 -> (∀ o,h1.get? a=some o -> h2.get? a=some o) -> φ h2
def mY (H:Hp) (h:Heap):Prop:=∀ a o,H a=some o -> fX P w H h a o
end
section
variable {P:Program} {w:World} {H H':Hp} {h h':Heap} {a:Addr} {o:HO}
theorem fX.lt (x:fX P w H h a o):a < h.objs.size:=by
 cases o with
 | lst xs=>obtain ⟨_,_,_,_,e⟩:=x; exact Heap.lt_size e
 | tup xs=>obtain ⟨_,_,_,p⟩:=x; exact p.lt
 | dK kvs=>obtain ⟨_,_,_,_,o,_,_,e,_⟩:=x; exact Heap.lt_size e
 | dT kvs=>obtain ⟨_,_,_,_,o,_,_,e,_⟩:=x; exact Heap.lt_size e
 | set S n=>obtain ⟨o,_,_,_,e,_⟩:=x; exact Heap.lt_size e
 | ins C dx fs=>obtain ⟨_,_,_,e,_⟩:=x; exact Heap.lt_size e
 | own y=>obtain ⟨_,e⟩:=x; exact Heap.lt_size e
 | xd fs=>obtain ⟨_,⟨_,_,_,e,_⟩,_⟩:=x; exact Heap.lt_size e
 | rng lo hi=>obtain ⟨_,_,_,e⟩:=x; exact Heap.lt_size e
 | frz ob u=>obtain ⟨e,_⟩:=x; exact Heap.lt_size e
 | tbl ps=>exact Heap.lt_size (show h.get? a=some _ from x)
 | met f y=>exact Heap.lt_size (show h.get? a=some _ from x)
 | ext φ=>obtain ⟨_,⟨_,e⟩,_⟩:=x; exact Heap.lt_size e
theorem Paired.mapP {α β:Type} {F G:α -> β -> Prop}:∀ {l₁:List α} {l₂:List β},Paired F l₁ l₂ -> (∀ a b,F a b -> G a b) -> Paired G l₁ l₂
 | _,_,.nil,_=>.nil
 | _,_,.cons r t,f=>.cons (f _ _ r) (Paired.mapP t f)
theorem fX.stay (x:fX P w H h a o) (k:∀ b u,(b=a \/ H b=some (.own a)) -> h.get? b=some u -> h'.get? b=some u)
  (ho:∀ b,H b=some (.own a) -> H' b=some (.own a)) (ht:∀ b xs,H b=some (.tup xs) -> H' b=some (.tup xs)):fX P w H' h' a o:=by
 induction o with
 | lst xs=>obtain ⟨z,its,n,r,e⟩:=x; exact ⟨z,its,n,r,k _ _ (.inl rfl) e⟩
 | tup xs=>obtain ⟨z,its,r,ob,e,c⟩:=x; exact ⟨z,its,r,ob,k _ _ (.inl rfl) e,c⟩
 | dK kvs=>obtain ⟨z,y,vs,r,ob,es,ep,e,c⟩:=x; exact ⟨z,y,vs,r,ob,es,ep,k _ _ (.inl rfl) e,c⟩
 | dT kvs =>
  obtain ⟨z,y,xs,r,ob,es,ep,e,c⟩:=x
  exact ⟨z,y,xs,Paired.mapP r fun p q z=>⟨z.1,ht _ _ z.2.1,z.2.2⟩,ob,es,ep,k _ _ (.inl rfl) e,c⟩
 | set S n=>obtain ⟨ob,es,ep,t,e,c⟩:=x; exact ⟨ob,es,ep,t,k _ _ (.inl rfl) e,c⟩
 | ins C dx fs =>
  obtain ⟨d,z,ne,e,mA,⟨od,es,ep,e2,c⟩,r⟩:=x
  exact ⟨ho _ d,z,ne,k _ _ (.inl rfl) e,mA,⟨od,es,ep,k _ _ (.inr d) e2,c⟩,r⟩
 | own y=>obtain ⟨ob,e⟩:=x; exact ⟨ob,k _ _ (.inl rfl) e⟩
 | xd fs=>obtain ⟨mA,⟨od,es,ep,e,c⟩,r⟩:=x; exact ⟨mA,⟨od,es,ep,k _ _ (.inl rfl) e,c⟩,r⟩
 | rng lo hi=>obtain ⟨t,u,v,e⟩:=x; exact ⟨t,u,v,k _ _ (.inl rfl) e⟩
 | frz ob u ih=>obtain ⟨e,q⟩:=x; exact ⟨k _ _ (.inl rfl) e,ih q⟩
 | tbl ps =>
  have e:h.get? a=some { cls:=.none,data:=.fields ps }:=x
  show h'.get? a=some { cls:=.none,data:=.fields ps }
  exact k a _ (.inl rfl) e
 | met f y =>
  have e:h.get? a=some (PySem.W.methodObj (.ref f) (.ref y)):=x
  show h'.get? a=some (PySem.W.methodObj (.ref f) (.ref y))
  exact k a _ (.inl rfl) e
 | ext φ=>obtain ⟨p,⟨o,e⟩,st⟩:=x; exact ⟨st _ _ p fun o q=>k _ _ (.inl rfl) q,⟨o,k _ _ (.inl rfl) e⟩,st⟩
theorem mY.lt (x:mY P w H h) (e:H a=some o):a < h.objs.size:=(x a o e).lt
theorem mY.fresh (x:mY P w H h) (e:h.objs.size ≤ a):H a=none:=by
 cases q:H a with
 | none=>rfl
 | some u=>exact absurd (Nat.lt_of_lt_of_le (x.lt q) e) (Nat.lt_irrefl _)
theorem mY.kept (x:mY P w H h) (k:∀ b u,h.get? b=some u -> h'.get? b=some u):mY P w H h':=fun a o e =>
 (x a o e).stay (fun b u _ q=>k b u q) (fun _ q=>q) fun _ _ q=>q
theorem mY.laid (x:mY P w H h) (k:∀ b u,h.get? b=some u -> h'.get? b=some u) (hp:h.objs.size ≤ a) (new:fX P w (upd H a o) h' a o):mY P w (upd H a o) h':=fun b u e=>by
 have hn:=x.fresh hp
 by_cases hb:b=a
 ·subst hb; rw [aR] at e; cases e; exact new
 ·rw [aJ hb] at e
  exact (x b u e).stay (fun c v _ q=>k c v q) (fun c q=>by rw [aJ (bK q hn)]; exact q) fun c xs q=>by rw [aJ (bK q hn)]; exact q
end
def Rd (H:Hp) (a:Addr) (u:HO):Prop:=H a=some u \/ ∃ o,H a=some (.frz o u)
theorem Rd.of {H:Hp} {a:Addr} {u:HO} (h:H a=some u):Rd H a u:=.inl h
theorem Rd.ok {P:Program} {w:World} {H:Hp} {h:Heap} {a:Addr} {u:HO} (r:Rd H a u) (x:mY P w H h):fX P w H h a u:=by
 rcases r with r | ⟨o,r⟩
 ·exact x a u r
 ·obtain ⟨_,q⟩:=x a _ r
  exact q
def JH:Option HO -> Prop
 | some (.lst _)=>True
 | some (.dK _)=>True
 | some (.dT _)=>True
 | some (.set _ _)=>True
 | some (.ins _ _ _)=>True
 | some (.ext _)=>True
 | _=>False
section
variable {P:Program} {w:World} {H:Hp} {h h':Heap} {x e:Addr} {o':HO}
theorem mY.write (ok:mY P w H h) (mu:JH (H x)) (he:e=x \/ H e=some (.own x)) (k:∀ b u,b ≠ e -> h.get? b=some u -> h'.get? b=some u) (heo:∃ u,h'.get? e=some u)
  (new:fX P w (upd H x o') h' x o'):mY P w (upd H x o') h':=fun b u q=>by
 have nown:∀ c y,H c=some (.own y) -> c ≠ x:=fun c y r z=>by subst z; rw [r] at mu; exact mu
 have ntup:∀ c xs,H c=some (.tup xs) -> c ≠ x:=fun c xs r z=>by subst z; rw [r] at mu; exact mu
 by_cases hb:b=x
 ·subst hb; rw [aR] at q; cases q; exact new
 ·rw [aJ hb] at q
  by_cases hbe:b=e
  ·have q':H b=some (.own x):=by
    rcases he with z | z
    ·exact absurd (hbe.trans z) hb
    ·rw [hbe]; exact z
   rw [q] at q'; cases q'
   obtain ⟨v,hv⟩:=heo
   exact ⟨v,by rw [hbe]; exact hv⟩
  ·refine (ok b u q).stay (fun c v hc r=>k c v ?_ r) (fun c r=>by rw [aJ (nown c b r)]; exact r) fun c xs r=>by rw [aJ (ntup c xs r)]; exact r
   rcases hc with rfl | hc
   ·exact hbe
   ·rintro rfl
    rcases he with z | z
    ·exact nown c b hc z
    ·rw [hc] at z; cases z; exact hb rfl
end
structure Un (fs ex:List Addr) (H H':Hp) (h h':Heap):Prop where
 keep:∀ b o,h.get? b=some o -> H b=none -> b ∉ fs -> b ∉ ex -> h'.get? b=some o
 slot:∀ b o,h.get? b=some o -> H b=none -> b ∈ fs -> b ∉ ex -> ∃ sl,h'.get? b=some { o with slots:=sl }
 free:∀ b o,h.get? b=some o -> H b=none -> b ∉ ex -> H' b=none
 there:∀ b o,h.get? b=some o -> b ∉ ex -> ∃ o',h'.get? b=some o'
 tups:∀ b xs,H b=some (.tup xs) -> H' b=some (.tup xs)
 frzs:∀ b o u,H b=some (.frz o u) -> H' b=some (.frz o u)
 tbls:∀ b ps,H b=some (.tbl ps) -> ∃ more,H' b=some (.tbl (ps ++ more))
section
variable {fs fs' ex ex':List Addr} {H H1 H2:Hp} {h h1 h2 h':Heap} {a x e:Addr} {o:HO}
theorem Un.any (u:Un fs ex H H1 h h1) {b:Addr} {ob:Obj} (q:h.get? b=some ob) (n:H b=none) (hx:b ∉ ex):∃ sl,h1.get? b=some { ob with slots:=sl }:=by
 by_cases hb:b ∈ fs
 ·exact u.slot b ob q n hb hx
 ·exact ⟨ob.slots,u.keep b ob q n hb hx⟩
theorem Un.trans (a:Un fs ex H H1 h h1) (b:Un fs ex H1 H2 h1 h2):Un fs ex H H2 h h2 where
 keep:=fun c ob q n hc hx=>b.keep c ob (a.keep c ob q n hc hx) (a.free c ob q n hx) hc hx
 slot:=fun c ob q n hc hx=>by
  obtain ⟨sl,e1⟩:=a.slot c ob q n hc hx
  obtain ⟨sl',e2⟩:=b.slot c _ e1 (a.free c ob q n hx) hc hx
  exact ⟨sl',e2⟩
 free:=fun c ob q n hx=>by
  obtain ⟨o',e1⟩:=a.there c ob q hx
  exact b.free c o' e1 (a.free c ob q n hx) hx
 there:=fun c ob q hx=>by
  obtain ⟨o',e1⟩:=a.there c ob q hx
  exact b.there c o' e1 hx
 tups:=fun c xs q=>b.tups c xs (a.tups c xs q)
 frzs:=fun c ob xs q=>b.frzs c ob xs (a.frzs c ob xs q)
 tbls:=fun c ps q=>by
  obtain ⟨m1,e1⟩:=a.tbls c ps q
  obtain ⟨m2,e2⟩:=b.tbls c _ e1
  exact ⟨m1 ++ m2,by rw [e2,Array.append_assoc]⟩
theorem Un.kept (k:∀ b u,h.get? b=some u -> h'.get? b=some u):Un fs ex H H h h':=
 ⟨fun b ob q _ _ _=>k b ob q,fun b ob q _ _ _=>⟨ob.slots,k b ob q⟩,fun _ _ _ n _=>n,fun b ob q _=>⟨ob,k b ob q⟩,fun _ _ q=>q,fun _ _ _ q=>q,fun _ ps q=>⟨#[],by rw [q]; simp⟩⟩
theorem Un.refl:Un fs ex H H h h:=Un.kept fun _ _ q=>q
theorem Un.laid (k:∀ b u,h.get? b=some u -> h'.get? b=some u) (hp:h.objs.size ≤ a) (hn:H a=none):Un fs ex H (upd H a o) h h' where
 keep:=fun b u q _ _ _=>k b u q
 slot:=fun b u q _ _ _=>⟨u.slots,k b u q⟩
 free:=fun b u q n _=>by rw [aJ (Nat.ne_of_lt (Nat.lt_of_lt_of_le (Heap.lt_size q) hp))]; exact n
 there:=fun b u q _=>⟨u,k b u q⟩
 tups:=fun b xs q=>by rw [aJ (bK q hn)]; exact q
 frzs:=fun b u xs q=>by rw [aJ (bK q hn)]; exact q
 tbls:=fun b ps q=>⟨#[],by rw [aJ (bK q hn),q]; simp⟩
theorem Un.write (mu:JH (H x)) (he:e=x \/ H e=some (.own x)) (k:∀ b u,b ≠ e -> h.get? b=some u -> h'.get? b=some u) (heo:∃ u,h'.get? e=some u):Un fs ex H (upd H x o) h h':=by
 have hx:∀ b,H b=none -> b ≠ x:=fun b n z=>by subst z; rw [n] at mu; exact mu
 have hb:∀ b,H b=none -> b ≠ e:=fun b n z=>by
  subst z
  rcases he with r | r
  ·exact hx b n r
  ·rw [n] at r; cases r
 have hm:∀ b u,H b=some u -> ¬ JH (some u) -> b ≠ x:=fun b u q nm z=>by subst z; rw [q] at mu; exact nm mu
 refine ⟨fun b u q n _ _=>k b u (hb b n) q,fun b u q n _ _=>⟨u.slots,k b u (hb b n) q⟩,fun b u q n _=>by rw [aJ (hx b n)]; exact n,fun b u q _=>?_,
  fun b xs q=>by rw [aJ (hm b _ q fun z=>z)]; exact q,fun b u xs q=>by rw [aJ (hm b _ q fun z=>z)]; exact q,fun b ps q=>⟨#[],by rw [aJ (hm b _ q fun z=>z),q]; simp⟩⟩
 by_cases hbe:b=e
 ·subst hbe; exact heo
 ·exact ⟨u,k b u hbe q⟩
theorem Un.mono (u:Un fs ex H H1 h h1) (hs:∀ b ∈ fs,b ∈ fs') (hx:∀ b ∈ ex,b ∈ ex'):Un fs' ex' H H1 h h1:=
 ⟨fun b ob q n hb he=>u.keep b ob q n (fun z=>hb (hs b z)) fun z=>he (hx b z),fun _ _ q n _ he=>u.any q n fun z=>he (hx _ z),fun b ob q n he=>u.free b ob q n fun z=>he (hx b z),fun b ob q he=>u.there b ob q fun z=>he (hx b z),u.tups,u.frzs,u.tbls⟩
end
def JB (h:Heap) (H:Hp):List Addr:=(List.range h.objs.size).filter fun a=>(H a).isSome
def rO (h:Heap) (H:Hp):Heap:=PySem.W.hideAll h (JB h H)
theorem zU (h:Heap) (H:Hp):(rO h H).objs.size=h.objs.size:=PySem.W.hideAll_size _ _
theorem Bj {h:Heap} {H:Hp} {b:Addr} {o:Obj} (e:h.get? b=some o) (n:H b=none):(rO h H).get? b=some o:=
 PySem.W.hideAll_get _ e fun hm=>by
  have q:(H b).isSome=true:=(List.mem_filter.mp hm).2
  rw [n] at q; simp at q
theorem Dz {h:Heap} {H:Hp} {b:Addr} {o:Obj} (e:(rO h H).get? b=some o):h.get? b=some o /\ H b=none:=by
 have e':h.get? b=some o:=PySem.W.of_hideAll (JB h H) e
 refine ⟨e',?_⟩
 cases q:H b with
 | none=>rfl
 | some x =>
  have hm:b ∈ JB h H:=List.mem_filter.mpr ⟨List.mem_range.mpr (Heap.lt_size e'),by simp [q]⟩
  have z:(rO h H).get? b=none:=PySem.W.hideAll_none (JB h H) hm
  rw [z] at e; cases e
def Cv (g h:Heap) (L:Addr):List (Addr × Obj):=(List.range h.objs.size).filterMap fun a=>if a=L \/ (g.get? a).isSome=true then none else (h.get? a).map fun o=>(a,o)
def rest (g h:Heap) (L d:Addr):List (Addr × Obj):=(Cv g h L).filter fun p=>decide (p.1 ≠ d)
open PySem PySem.Spec PyProof.Rows
structure Mod (K:PySem.W.Frag) (mg:Str -> Option Value) (base:Heap):Prop where
 kin:K.In base
 glob:base.Ns mainGlobals mg
 blt:∃ mb,base.Ns builtinsNs mb /\ ∀ x:Str,x ≠ "__name__" -> mb x=bootBuiltins x
 nolimit:base.NoLimit
structure Cx where
 prog:Program
 w:World
 K:PySem.W.Frag
 mg:Str -> Option Value
 base:Heap
 A:Around
 N:List Str
 s₀:Shared
 H₀:Hp
 env:Env
 outer:List Env
 stack:List Env
 ex:List Addr
 fn:Str -> Bool
 calm:Bool
 pn:List (Addr × Obj)
 xe:Value -> Shared -> Prop
def zQ (l:List Env):List Addr:=l.filterMap (·.frame)
abbrev Cx.fs (X:Cx):List Addr:=zQ X.outer
def HJ (sc:Scope) (x:Str):Prop:=sc.names.lookup x=some .local \/ sc.names.lookup x=some .cell \/ sc.names.lookup x=some .free
def Loc (sc:Scope) (x:Str):Prop:=sc.names.lookup x=some .local \/ sc.names.lookup x=some .cell
def Look (env:Env) (h:Heap) (m:Str -> Option Value) (x:Str) (u:Value):Prop:=
 (env.kindOf x=some .local /\ m x=some u) \/ ((env.kindOf x=some .cell \/ env.kindOf x=some .free) /\ ∃ c,env.cells.lookup x=some c /\ h.IsCell c (some u))
structure Cx.Ok (X:Cx):Prop where
 mod:Mod X.K X.mg X.base
 kind:X.env.scope.kind=.function
 glob:X.env.globals=mainGlobals
 blt:X.env.builtins=builtinsNs
 above:X.s₀.heap.objs.size ≤ X.env.locals
 inj:∀ x y c,X.env.cells.lookup x=some c -> X.env.cells.lookup y=some c -> x=y
 has:∀ x,(X.env.kindOf x=some .cell \/ X.env.kindOf x=some .free) -> ∃ c,X.env.cells.lookup x=some c
 cab:∀ x c,X.fn x=true -> X.env.cells.lookup x=some c -> X.s₀.heap.objs.size ≤ c
 hd:X.calm=true -> X.A.handled=none
 frames:X.A.frames=some X.stack
 stk:X.stack=X.outer \/ (X.stack=X.env :: X.outer /\ X.env.frame=some X.env.locals)
 exf:∀ b ∈ X.ex,b ≠ X.env.locals /\ ∀ x c,X.env.cells.lookup x=some c -> c ≠ b
 bs:∀ b o,X.base.get? b=some o -> X.s₀.heap.get? b=some o /\ X.H₀ b=none
 bsz:X.base.objs.size ≤ X.s₀.heap.objs.size
 noex:∀ b o,X.base.get? b=some o -> b ∉ X.ex
 exfs:∀ b ∈ X.ex,b ∉ X.fs
 funs:X.s₀.heap.FunFrames X.base X.outer
 frf:∀ b ∈ X.fs,X.H₀ b=none
structure Inv (X:Cx) (pins:List (Addr × Obj)) (σ:List (Option V)) (H:Hp) (s:Shared):Prop where
 ok:X.Ok
 os:s.os=X.s₀.os
 bare:AllBare s.gens
 base:Un X.fs X.ex X.H₀ H X.s₀.heap s.heap
 loc:∃ m,s.heap.Ns X.env.locals m /\ ∀ (i:Nat) (x:Str) (v:V),X.N[i]? = some x -> σ[i]? = some (some v) -> HJ X.env.scope x -> ∃ u,RelV v u /\ Look X.env s.heap m x u
 cell:∀ x c,X.env.cells.lookup x=some c -> ∃ v,s.heap.IsCell c v
 free:H X.env.locals=none
 freeC:∀ x c,X.env.cells.lookup x=some c -> H c=none
 pin:∀ p ∈ X.pn ++ pins,s.heap.get? p.1=some p.2 /\ H p.1=none /\ p.1 ≠ X.env.locals /\ p.1 ∉ X.fs /\ ∀ v,p.2.data ≠ .cell v
 hok:mY X.prog X.w H s.heap
 len:σ.length=X.N.length
section
variable {X:Cx} {pins:List (Addr × Obj)} {σ:List (Option V)} {H H':Hp} {s:Shared} {h':Heap}
theorem Cx.Ok.nofr (ok:X.Ok) {b:Addr} {o:Obj} (e:X.base.get? b=some o):b ∉ X.fs:=fun hb=>by
 have:=(ok.funs.mem hb).1
 rw [e] at this; cases this
theorem Inv.bs (I:Inv X pins σ H s):∀ b o,X.base.get? b=some o -> s.heap.get? b=some o /\ H b=none:=fun b o e =>
 ⟨I.base.keep b o (I.ok.bs b o e).1 (I.ok.bs b o e).2 (I.ok.nofr e) (I.ok.noex b o e),I.base.free b o (I.ok.bs b o e).1 (I.ok.bs b o e).2 (I.ok.noex b o e)⟩
theorem Inv.bk (I:Inv X pins σ H s):∀ b o,X.base.get? b=some o -> s.heap.get? b=some o:=fun b o e=>(I.bs b o e).1
theorem Inv.mod (I:Inv X pins σ H s):Mod X.K X.mg X.base:=I.ok.mod
theorem Inv.kIn (I:Inv X pins σ H s):X.K.In s.heap:=I.ok.mod.kin.keeps I.bk
theorem Inv.nolimit (I:Inv X pins σ H s):s.heap.NoLimit:=I.ok.mod.nolimit.keeps I.bk
theorem Inv.fr (I:Inv X pins σ H s):∃ m,Fr X.base X.env.locals s.heap m:=
 let ⟨m,hn,_⟩:=I.loc
 ⟨m,hn,I.bk,Nat.le_trans I.ok.bsz I.ok.above⟩
theorem Inv.lt (I:Inv X pins σ H s):X.env.locals < s.heap.objs.size:=let ⟨_,hn,_⟩:=I.loc; hn.lt
theorem Inv.sz (I:Inv X pins σ H s):X.s₀.heap.objs.size ≤ s.heap.objs.size:=Nat.le_trans I.ok.above (Nat.le_of_lt I.lt)
theorem Inv.nofs (I:Inv X pins σ H s) {a:Addr} (h:s.heap.objs.size ≤ a):a ∉ X.fs:=fun hb=>by
 obtain ⟨_,o,ho,_⟩:=I.ok.funs.mem hb
 exact absurd (Nat.lt_of_lt_of_le (Heap.lt_size ho) (Nat.le_trans I.sz h)) (Nat.lt_irrefl _)
theorem Inv.cne (I:Inv X pins σ H s):∀ x c,X.env.cells.lookup x=some c -> c ≠ X.env.locals:=fun x c e z=>by
 obtain ⟨v,o,ho,hd⟩:=I.cell x c e
 obtain ⟨m,⟨o',es,ep,ho',hd',_⟩,_⟩:=I.loc
 rw [z,ho'] at ho; cases ho; rw [hd'] at hd; cases hd
theorem Inv.funs (I:Inv X pins σ H s):s.heap.FunFrames X.base X.outer:=by
 have all:∀ (l:List Env),(∀ b ∈ zQ l,b ∈ X.fs) -> X.s₀.heap.FunFrames X.base l -> s.heap.FunFrames X.base l:=by
  intro l
  induction l with
  | nil=>intro _ _; trivial
  | cons env r ih =>
   intro hs hl
   obtain ⟨hk,⟨L,o,hf,hn,ho,hd⟩,hr⟩:=hl
   have hL:L ∈ X.fs:=hs L (by unfold zQ; rw [List.filterMap_cons,hf]; exact List.mem_cons_self)
   obtain ⟨sl,e⟩:=I.base.slot L o ho (I.ok.frf L hL) hL fun z=>I.ok.exfs L z hL
   exact ⟨hk,⟨L,_,hf,hn,e,hd⟩,ih (fun b hb=>hs b (by unfold zQ; rw [List.filterMap_cons,hf]; exact List.mem_cons_of_mem _ hb)) hr⟩
 exact all X.outer (fun _ hb=>hb) I.ok.funs
theorem Inv.stack (I:Inv X pins σ H s):s.heap.FunFrames X.base X.stack:=by
 rcases I.ok.stk with e | ⟨e,hf⟩
 ·rw [e]; exact I.funs
 ·rw [e]
  obtain ⟨m,hn,_⟩:=I.loc
  refine .cons (by rw [I.ok.kind]; decide) hf hn ?_ I.funs
  exact Heap.get?_none_of_le (Nat.le_trans I.ok.bsz I.ok.above)
theorem Inv.stkSub (I:Inv X pins σ H s):∀ b ∈ zQ X.stack,b ∈ X.env.locals :: X.fs:=fun b hb=>by
 rcases I.ok.stk with e | ⟨e,hf⟩
 ·rw [e] at hb; exact List.mem_cons_of_mem _ hb
 ·rw [e] at hb
  unfold zQ at hb
  rw [List.filterMap_cons,hf] at hb
  exact hb
theorem Inv.stkFree (I:Inv X pins σ H s):∀ b ∈ zQ X.stack,H b=none:=fun b hb=>by
 rcases List.mem_cons.mp (I.stkSub b hb) with e | hb
 ·rw [e]; exact I.free
 ·obtain ⟨_,o,ho,_⟩:=I.ok.funs.mem hb
  exact I.base.free b o ho (I.ok.frf b hb) fun z=>I.ok.exfs b z hb
theorem Inv.step {g':Array GenState} {t':Nat} {d':Drawn} {ch:List Addr} (I:Inv X pins σ H s)
  (hch:∀ b ∈ ch,(b ∈ X.ex \/ X.s₀.heap.objs.size ≤ b) /\ b ≠ X.env.locals /\ (∀ x c,X.env.cells.lookup x=some c -> c ≠ b) /\ ∀ p ∈ X.pn ++ pins,p.1 ≠ b)
  (keep:∀ b o,b ≠ X.env.locals -> b ∉ X.fs -> b ∉ ch -> s.heap.get? b=some o -> H b=none -> h'.get? b=some o)
  (slot:∀ b o,b ≠ X.env.locals -> b ∈ X.fs -> b ∉ ch -> s.heap.get? b=some o -> H b=none -> ∃ sl,h'.get? b=some { o with slots:=sl }) (free:∀ b o,b ∉ ch -> s.heap.get? b=some o -> H b=none -> H' b=none)
  (there:∀ b o,b ∉ ch -> s.heap.get? b=some o -> ∃ o',h'.get? b=some o')
  (tups:∀ b xs,H b=some (.tup xs) -> H' b=some (.tup xs)) (frzs:∀ b o u,H b=some (.frz o u) -> H' b=some (.frz o u)) (tbls:∀ b ps,H b=some (.tbl ps) -> ∃ more,H' b=some (.tbl (ps ++ more)))
  (ns:∀ m,s.heap.Ns X.env.locals m -> h'.Ns X.env.locals m) (hok:mY X.prog X.w H' h') (hg:AllBare g') :
  Inv X pins σ H' { s with heap:=h',gens:=g',drawn:=d',toks:=t' }:=by
 have neL:∀ b o,X.s₀.heap.get? b=some o -> b ≠ X.env.locals:=fun b o e=>Nat.ne_of_lt (Nat.lt_of_lt_of_le (Heap.lt_size e) I.ok.above)
 have neC:∀ b o,X.s₀.heap.get? b=some o -> b ∉ X.ex -> b ∉ ch:=fun b o e hx hb=>by
  rcases (hch b hb).1 with z | z
  ·exact hx z
  ·exact absurd (Nat.lt_of_lt_of_le (Heap.lt_size e) z) (Nat.lt_irrefl _)
 have cellK:∀ x c,X.env.cells.lookup x=some c -> ∀ v,s.heap.IsCell c v -> h'.IsCell c v:=fun x c e v hq__=>by
  obtain ⟨o,ho,hd⟩:=hq__
  have nch:c ∉ ch:=fun z=>(hch c z).2.2.1 x c e rfl
  by_cases hc:c ∈ X.fs
  ·obtain ⟨sl,q⟩:=slot c o (I.cne x c e) hc nch ho (I.freeC x c e)
   exact ⟨_,q,hd⟩
  ·exact ⟨o,keep c o (I.cne x c e) hc nch ho (I.freeC x c e),hd⟩
 refine ⟨I.ok,I.os,hg,⟨fun b o e n hb hx=>?_,fun b o e n hb hx=>?_,fun b o e n hx=>?_,fun b o e hx=>?_,fun b xs e=>tups b xs (I.base.tups b xs e),fun b o xs e=>frzs b o xs (I.base.frzs b o xs e),fun b ps e=>?_⟩,?_,fun x c e=>?_,?_,fun x c e=>?_,fun p hp=>?_,hok,I.len⟩
 ·exact keep b o (neL b o e) hb (neC b o e hx) (I.base.keep b o e n hb hx) (I.base.free b o e n hx)
 ·obtain ⟨sl,e1⟩:=I.base.slot b o e n hb hx
  obtain ⟨sl',e2⟩:=slot b _ (neL b o e) hb (neC b o e hx) e1 (I.base.free b o e n hx)
  exact ⟨sl',e2⟩
 ·obtain ⟨o',e1⟩:=I.base.there b o e hx
  exact free b o' (neC b o e hx) e1 (I.base.free b o e n hx)
 ·obtain ⟨o',e1⟩:=I.base.there b o e hx
  exact there b o' (neC b o e hx) e1
 ·obtain ⟨m1,e1⟩:=I.base.tbls b ps e
  obtain ⟨m2,e2⟩:=tbls b _ e1
  exact ⟨m1 ++ m2,by rw [e2,Array.append_assoc]⟩
 ·obtain ⟨m,hn,hl⟩:=I.loc
  refine ⟨m,ns m hn,fun i x v e1 e2 e3=>?_⟩
  obtain ⟨u,r,l⟩:=hl i x v e1 e2 e3
  refine ⟨u,r,?_⟩
  rcases l with l | ⟨k,c,e,z⟩
  ·exact .inl l
  ·exact .inr ⟨k,c,e,cellK x c e _ z⟩
 ·obtain ⟨v,z⟩:=I.cell x c e
  exact ⟨v,cellK x c e v z⟩
 ·obtain ⟨m,⟨o,_,_,ho,_⟩,_⟩:=I.loc
  exact free _ o (fun z=>(hch _ z).2.1 rfl) ho I.free
 ·obtain ⟨v,o,ho,hd⟩:=I.cell x c e
  exact free c o (fun z=>(hch c z).2.2.1 x c e rfl) ho (I.freeC x c e)
 ·obtain ⟨e,n,ne,nf,d⟩:=I.pin p hp
  have nch:p.1 ∉ ch:=fun z=>(hch p.1 z).2.2.2 p hp rfl
  exact ⟨keep p.1 p.2 ne nf nch e n,free p.1 p.2 nch e n,ne,nf,d⟩
theorem Inv.un {t':Nat} (I:Inv X pins σ H s) (u:Un X.fs [] H H' s.heap h') (hok:mY X.prog X.w H' h'):Inv X pins σ H' { s with heap:=h',toks:=t' }:=by
 obtain ⟨m,⟨o,es,ep,ho,r⟩,_⟩:=id I.loc
 obtain ⟨sl,hL⟩:=u.any ho I.free (by simp)
 exact I.step (g':=s.gens) (d':=s.drawn) (ch:=[]) (fun _ z=>nomatch z) (fun b o _ hb _ e n=>u.keep b o e n hb (by simp)) (fun b o _ hb _ e n=>u.slot b o e n hb (by simp)) (fun b o _ e n=>u.free b o e n (by simp)) (fun b o _ e=>u.there b o e (by simp)) u.tups u.frzs u.tbls (fun m' hm=>by
  obtain ⟨o',es',ep',ho',r'⟩:=hm
  rw [ho] at ho'; cases ho'
  exact ⟨_,es',ep',hL,r'⟩) hok I.bare
theorem Inv.call {g':Array GenState} {t':Nat} {d':Drawn} {ch:List Addr} (I:Inv X pins σ H s) (u:Un (zQ X.stack) ch H H' s.heap h') (hok:mY X.prog X.w H' h') (hg:AllBare g')
  (hch:∀ b ∈ ch,(b ∈ X.ex \/ X.s₀.heap.objs.size ≤ b) /\ b ≠ X.env.locals /\ (∀ x c,X.env.cells.lookup x=some c -> c ≠ b) /\ ∀ p ∈ X.pn ++ pins,p.1 ≠ b) :
  Inv X pins σ H' { s with heap:=h',gens:=g',drawn:=d',toks:=t' }:=by
 obtain ⟨m,⟨o,es,ep,ho,r⟩,_⟩:=id I.loc
 obtain ⟨sl,hL⟩:=u.any ho I.free fun z=>(hch _ z).2.1 rfl
 exact I.step (ch:=ch) hch (fun b o hL hb hc e n=>u.keep b o e n (fun z=>(List.mem_cons.mp (I.stkSub b z)).elim hL hb) hc) (fun b o _ _ hc e n=>u.any e n hc) (fun b o hc e n=>u.free b o e n hc) (fun b o hc e=>u.there b o e hc) u.tups u.frzs u.tbls (fun m' hm=>by
  obtain ⟨o',es',ep',ho',r'⟩:=hm
  rw [ho] at ho'; cases ho'
  exact ⟨_,es',ep',hL,r'⟩) hok hg
theorem Inv.turned {t':Nat} {it:Addr} (I:Inv X pins σ H s) (k:∀ b o,b ≠ it -> s.heap.get? b=some o -> h'.get? b=some o) (hn:H it=none) (hL:it ≠ X.env.locals)
  (h1:it ∈ X.ex \/ X.s₀.heap.objs.size ≤ it) (h2:∀ x c,X.env.cells.lookup x=some c -> c ≠ it) (h3:∀ p ∈ X.pn ++ pins,p.1 ≠ it):Inv X pins σ H { s with heap:=h',toks:=t' }:=by
 have nit:∀ b u,H b=some u -> b ≠ it:=fun b u e z=>by rw [z,hn] at e; cases e
 refine I.step (g':=s.gens) (d':=s.drawn) (ch:=[it]) (fun b hb=>?_) (fun b o _ _ hc e _=>k b o (fun z=>hc (by simp [z])) e) (fun b o _ _ hc e _=>⟨o.slots,k b o (fun z=>hc (by simp [z])) e⟩) (fun _ _ _ _ n=>n)
  (fun b o hc e=>⟨o,k b o (fun z=>hc (by simp [z])) e⟩) (fun _ _ e=>e) (fun _ _ _ e=>e) (fun b ps e=>⟨#[],by rw [e]; simp⟩) (fun m hm=>?_) (fun b u e=>?_) I.bare
 ·have e:b=it:=by simpa using hb
  subst e
  exact ⟨h1,hL,h2,h3⟩
 ·obtain ⟨o,es,ep,ho,r⟩:=hm
  exact ⟨o,es,ep,k _ o (Ne.symm hL) ho,r⟩
 ·refine (I.hok b u e).stay (fun c v hc q=>k c v ?_ q) (fun _ q=>q) fun _ _ q=>q
  rcases hc with z | z
  ·rw [z]; exact nit b u e
  ·exact nit c _ z
theorem Inv.tok (I:Inv X pins σ H s) (t:Nat):Inv X pins σ H { s with toks:=t }:=I.un (h':=s.heap) (t':=t) Un.refl I.hok
theorem Inv.kept {t':Nat} (I:Inv X pins σ H s) (k:∀ b u,s.heap.get? b=some u -> h'.get? b=some u):Inv X pins σ H { s with heap:=h',toks:=t' }:=I.un (Un.kept k) (I.hok.kept k)
theorem Inv.laid {a:Addr} {o:HO} {t':Nat} (I:Inv X pins σ H s) (k:∀ b u,s.heap.get? b=some u -> h'.get? b=some u) (hp:s.heap.objs.size ≤ a) (new:fX X.prog X.w (upd H a o) h' a o) :
  Inv X pins σ (upd H a o) { s with heap:=h',toks:=t' }:=I.un (Un.laid k hp (I.hok.fresh hp)) (I.hok.laid k hp new)
theorem Inv.write {x e:Addr} {o:HO} {t':Nat} (I:Inv X pins σ H s) (mu:JH (H x)) (he:e=x \/ H e=some (.own x)) (k:∀ b u,b ≠ e -> s.heap.get? b=some u -> h'.get? b=some u) (heo:∃ u,h'.get? e=some u)
  (new:fX X.prog X.w (upd H x o) h' x o):Inv X pins σ (upd H x o) { s with heap:=h',toks:=t' }:=I.un (Un.write mu he k heo) (I.hok.write mu he k heo new)
theorem Inv.weak {σ':List (Option V)} (I:Inv X pins σ H s) (hl:σ'.length=σ.length) (w:∀ (i:Nat) v,σ'[i]? = some (some v) -> σ[i]? = some (some v)):Inv X pins σ' H s:=
 ⟨I.ok,I.os,I.bare,I.base,let ⟨m,hn,hl'⟩:=I.loc; ⟨m,hn,fun i x v e1 e2 e3=>hl' i x v e1 (w i v e2) e3⟩,I.cell,I.free,I.freeC,I.pin,I.hok,hl.trans I.len⟩
theorem Inv.pins_of {pins':List (Addr × Obj)} (I:Inv X pins σ H s) (h:∀ p ∈ pins',s.heap.get? p.1=some p.2 /\ H p.1=none /\ p.1 ≠ X.env.locals /\ p.1 ∉ X.fs /\ ∀ v,p.2.data ≠ .cell v):Inv X pins' σ H s:=
 ⟨I.ok,I.os,I.bare,I.base,I.loc,I.cell,I.free,I.freeC,fun p hp=>(List.mem_append.mp hp).elim (fun z=>I.pin p (List.mem_append_left _ z)) (h p),I.hok,I.len⟩
theorem vp {N:List Str} (hN:N.Nodup) {i j:Nat} {x:Str} (a:N[i]? = some x) (b:N[j]? = some x):i=j:=by
 obtain ⟨h1,e1⟩:=List.getElem?_eq_some_iff.mp a
 obtain ⟨h2,e2⟩:=List.getElem?_eq_some_iff.mp b
 exact (List.getElem_inj hN).mp (e1.trans e2.symm)
theorem qR {M:Model} {A:Around} {E:Value -> Shared -> Prop} {i:Nat} {x:Str} {v:V} {u:Value} {Q:Unit -> Shared -> Prop} (I:Inv X pins σ H s) (hN:X.N.Nodup) (hi:X.N[i]? = some x) (hx:Loc X.env.scope x) (r:RelV v u)
  (h:∀ s',Inv X pins (σ.set i (some v)) H s' -> (∃ a,Heap.SameBut a s.heap s'.heap /\ (a=X.env.locals \/ X.env.cells.lookup x=some a)) -> Q () s') (hf:X.fn x=true \/ X.env.scope.names.lookup x=some .local:=by first | exact .inl rfl | exact .inr rfl | assumption):wpAny M A (storeName X.env x u) Q E s:=by
 obtain ⟨m,hn,hl⟩:=id I.loc
 have hcls:(X.env.scope.kind == .class || (X.env.scope.kind == .module && X.env.locals != X.env.globals))=false:=by rw [I.ok.kind]; rfl
 have hiσ:i < σ.length:=by rw [I.len]; exact (List.getElem?_eq_some_iff.mp hi).1
 have cne:=I.cne
 have tracked:∀ {a:Addr} {h':Heap},(∃ o,s.heap.get? a=some o /\ H a=none) -> Heap.SameBut a s.heap h' -> mY X.prog X.w H h':=fun {a h'} ha hs b ob e=>by
  obtain ⟨_,_,hfree⟩:=ha
  refine (I.hok b ob e).stay (fun c w' hc q=>(hs.2 c ?_).trans q) (fun _ q=>q) fun _ _ q=>q
  rintro rfl
  rcases hc with rfl | hc
  ·rw [hfree] at e; cases e
  ·rw [hfree] at hc; cases hc
 rcases hx with hk | hk
 ·refine wpAny_storeName_local hk hn (fun h' hn' hs=>?_) hcls
  obtain ⟨oL,_,_,hoL,_⟩:=id hn
  refine h _ ⟨I.ok,I.os,I.bare,⟨fun b o e n hb hx=>?_,fun b o e n hb hx=>?_,I.base.free,fun b o e hx=>?_,I.base.tups,I.base.frzs,I.base.tbls⟩,⟨_,hn',fun j y v' e1 e2 e3=>?_⟩,fun y c e=>?_,I.free,I.freeC,fun p hp=>?_,tracked ⟨oL,hoL,I.free⟩ hs,by simpa using I.len⟩ ⟨_,hs,.inl rfl⟩
  ·exact (hs.2 b (Nat.ne_of_lt (Nat.lt_of_lt_of_le (Heap.lt_size e) I.ok.above))).trans (I.base.keep b o e n hb hx)
  ·obtain ⟨sl,e1⟩:=I.base.slot b o e n hb hx
   exact ⟨sl,(hs.2 b (Nat.ne_of_lt (Nat.lt_of_lt_of_le (Heap.lt_size e) I.ok.above))).trans e1⟩
  ·obtain ⟨o',e1⟩:=I.base.there b o e hx
   exact ⟨o',(hs.2 b (Nat.ne_of_lt (Nat.lt_of_lt_of_le (Heap.lt_size e) I.ok.above))).trans e1⟩
  ·by_cases hj:j=i
   ·subst hj
    rw [hi] at e1; cases e1
    rw [List.getElem?_set_self hiσ] at e2
    cases e2
    exact ⟨u,r,.inl ⟨hk,by simp⟩⟩
   ·rw [List.getElem?_set_ne (Ne.symm hj)] at e2
    obtain ⟨u',r',q⟩:=hl j y v' e1 e2 e3
    refine ⟨u',r',?_⟩
    rcases q with ⟨k,e⟩ | ⟨k,c,e,z⟩
    ·refine .inl ⟨k,?_⟩
     have:y ≠ x:=fun e=>hj (vp hN e1 (e ▸ hi))
     simp [this,e]
    ·exact .inr ⟨k,c,e,z.sameBut hs (cne y c e)⟩
  ·obtain ⟨w',z⟩:=I.cell y c e
   exact ⟨w',z.sameBut hs (cne y c e)⟩
  ·obtain ⟨e,n,ne,nf,d⟩:=I.pin p hp
   exact ⟨(hs.2 p.1 ne).trans e,n,ne,nf,d⟩
 ·have hfn:X.fn x=true:=by
   rcases hf with z | z
   ·exact z
   ·rw [z] at hk; cases hk
  obtain ⟨c,hc⟩:=I.ok.has x (.inl hk)
  obtain ⟨w',z⟩:=I.cell x c hc
  refine wpAny_storeName_cell I.ok.kind hk hc z (fun h' hc' hs=>?_)
  obtain ⟨oc,hoc,hocd⟩:=id z
  refine h { s with heap:=h' } ⟨I.ok,I.os,I.bare,⟨fun b o e n hb hx=>?_,fun b o e n hb hx=>?_,I.base.free,fun b o e hx=>?_,I.base.tups,I.base.frzs,I.base.tbls⟩,⟨m,hn.sameBut hs (Ne.symm (cne x c hc)),fun j y v' e1 e2 e3=>?_⟩,fun y c' e=>?_,I.free,I.freeC,fun p hp=>?_,tracked ⟨oc,hoc,I.freeC x c hc⟩ hs,by simpa using I.len⟩ ⟨c,hs,.inr hc⟩
  ·exact (hs.2 b (Nat.ne_of_lt (Nat.lt_of_lt_of_le (Heap.lt_size e) (I.ok.cab x c hfn hc)))).trans (I.base.keep b o e n hb hx)
  ·obtain ⟨sl,e1⟩:=I.base.slot b o e n hb hx
   exact ⟨sl,(hs.2 b (Nat.ne_of_lt (Nat.lt_of_lt_of_le (Heap.lt_size e) (I.ok.cab x c hfn hc)))).trans e1⟩
  ·obtain ⟨o',e1⟩:=I.base.there b o e hx
   exact ⟨o',(hs.2 b (Nat.ne_of_lt (Nat.lt_of_lt_of_le (Heap.lt_size e) (I.ok.cab x c hfn hc)))).trans e1⟩
  ·by_cases hj:j=i
   ·subst hj
    rw [hi] at e1; cases e1
    rw [List.getElem?_set_self hiσ] at e2
    cases e2
    exact ⟨u,r,.inr ⟨.inl hk,c,hc,hc'⟩⟩
   ·rw [List.getElem?_set_ne (Ne.symm hj)] at e2
    obtain ⟨u',r',q⟩:=hl j y v' e1 e2 e3
    refine ⟨u',r',?_⟩
    rcases q with q | ⟨k,c',e,z'⟩
    ·exact .inl q
    ·refine .inr ⟨k,c',e,z'.sameBut hs ?_⟩
     rintro rfl
     exact hj (vp hN e1 (I.ok.inj _ _ _ e hc ▸ hi))
  ·by_cases hcc:c'=c
   ·subst hcc; exact ⟨_,hc'⟩
   ·obtain ⟨w2,z2⟩:=I.cell y c' e
    exact ⟨w2,z2.sameBut hs hcc⟩
  ·obtain ⟨e,n,ne,nf,d⟩:=I.pin p hp
   refine ⟨(hs.2 p.1 ?_).trans e,n,ne,nf,d⟩
   intro q
   rw [q,hoc] at e
   have q':oc=p.2:=Option.some.inj e
   exact d w' (by rw [<- q']; exact hocd)
theorem gF {M:Model} {A:Around} {E:Value -> Shared -> Prop} {i:Nat} {x:Str} {v:V} {u:Value} {Q:Unit -> Shared -> Prop} (I:Inv X pins σ H s) (hN:X.N.Nodup) (hi:X.N[i]? = some x) (hx:Loc X.env.scope x) (r:RelV v u)
  (h:∀ s',Inv X pins (σ.set i (some v)) H s' -> Q () s') (hf:X.fn x=true \/ X.env.scope.names.lookup x=some .local:=by first | exact .inl rfl | exact .inr rfl | assumption):wpAny M A (storeName X.env x u) Q E s:=
 qR I hN hi hx r (fun s' I' _=>h s' I') hf
theorem Inv.call' {s':Shared} {ch:List Addr} (I:Inv X pins σ H s) (ho:s'.os=s.os) (u:Un (zQ X.stack) ch H H' s.heap s'.heap) (hok:mY X.prog X.w H' s'.heap) (hg:AllBare s'.gens)
  (hch:∀ b ∈ ch,(b ∈ X.ex \/ X.s₀.heap.objs.size ≤ b) /\ b ≠ X.env.locals /\ (∀ x c,X.env.cells.lookup x=some c -> c ≠ b) /\ ∀ p ∈ X.pn ++ pins,p.1 ≠ b):Inv X pins σ H' s':=by
 obtain ⟨h',g',d',t',o'⟩:=s'
 have e:o'=s.os:=ho
 subst e
 exact I.call (g':=g') (t':=t') (d':=d') u hok hg hch
end
abbrev XK:=Value -> Option Addr -> Hp -> Prop
abbrev St:=List (Option V)
abbrev VK:=V -> Hp -> Prop
abbrev TE:=St -> Hp -> VK -> Prop
abbrev TT:=St -> Hp -> (Bool -> Hp -> Prop) -> Prop
abbrev TA:=St -> Hp -> (List V -> Hp -> Prop) -> Prop
structure Ends where
 nx:St -> Hp -> Prop
 rt:VK
 bk:St -> Hp -> Prop:=fun _ _=>False
 ct:St -> Hp -> Prop:=fun _ _=>False
abbrev TS:=Ends -> St -> Hp -> Prop
def EP (X:Cx) (pins:List (Addr × Obj)) (σ:St) (Q:VK) (u:Value) (s':Shared):Prop:=∃ v H',Inv X pins σ H' s' /\ RelV v u /\ Q v H'
def TP (X:Cx) (pins:List (Addr × Obj)) (σ:St) (Q:Bool -> Hp -> Prop) (b:Bool) (s':Shared):Prop:=∃ H',Inv X pins σ H' s' /\ Q b H'
def AP (X:Cx) (pins:List (Addr × Obj)) (σ:St) (Q:List V -> Hp -> Prop) (us:List Value) (s':Shared):Prop:=∃ vs H',Inv X pins σ H' s' /\ Vals vs us /\ Q vs H'
def SP (X:Cx) (pins:List (Addr × Obj)) (D:Ends) (f:Flow) (s':Shared):Prop:=
 match f with
 | .next=>∃ σ' H',Inv X pins σ' H' s' /\ D.nx σ' H'
 | .brk=>∃ σ' H',Inv X pins σ' H' s' /\ D.bk σ' H'
 | .cont=>∃ σ' H',Inv X pins σ' H' s' /\ D.ct σ' H'
 | .ret u=>∃ v σ' H',Inv X pins σ' H' s' /\ RelV v u /\ D.rt v H'
def PE (X:Cx) (e:Expr) (t:TE):Prop:=
 ∀ (pins:List (Addr × Obj)) (s:Shared) (σ:St) (H:Hp) (Q:VK),Inv X pins σ H s -> t σ H Q -> wpAny (model X.prog X.w) X.A (eval e X.env) (EP X pins σ Q) X.xe s
def PT (X:Cx) (e:Expr) (t:TT):Prop:=
 ∀ (pins:List (Addr × Obj)) (s:Shared) (σ:St) (H:Hp) (Q:Bool -> Hp -> Prop),Inv X pins σ H s -> t σ H Q -> wpAny (model X.prog X.w) X.A (isTrue e X.env (eval e X.env)) (TP X pins σ Q) X.xe s
def PW (X:Cx) (e:Expr) (t:TT):Prop:=
 ∀ (whole:Sem Value) (pins:List (Addr × Obj)) (s:Shared) (σ:St) (H:Hp) (Q:Bool -> Hp -> Prop),Inv X pins σ H s -> t σ H Q -> wpAny (model X.prog X.w) X.A (isTrue e X.env whole) (TP X pins σ Q) X.xe s
theorem PW.pt {X:Cx} {e:Expr} {t:TT} (h:PW X e t):PT X e t:=h _
def PA (X:Cx) (es:List Expr) (t:TA):Prop:=
 ∀ (pos:Pos) (pins:List (Addr × Obj)) (s:Shared) (σ:St) (H:Hp) (Q:List V -> Hp -> Prop),Inv X pins σ H s -> t σ H Q -> wpAny (model X.prog X.w) X.A (spliced (backTo pos (starEach es X.env))) (AP X pins σ Q) X.xe s
def PS (X:Cx) (st:Stmt) (t:TS):Prop:=
 ∀ (pins:List (Addr × Obj)) (s:Shared) (σ:St) (H:Hp) (D:Ends),Inv X pins σ H s -> t D σ H -> wpAny (model X.prog X.w) X.A (exec st X.env) (SP X pins D) X.xe s
def ir (X:Cx) (st:List Stmt) (t:TS):Prop:=
 ∀ (pins:List (Addr × Obj)) (s:Shared) (σ:St) (H:Hp) (D:Ends),Inv X pins σ H s -> t D σ H -> wpAny (model X.prog X.w) X.A (execs st X.env) (SP X pins D) X.xe s
theorem cM {α:Type} {t:Sem α} {Q Q':α -> Shared -> Prop} {M:Model} {A:Around} {E:Value -> Shared -> Prop} {s:Shared} (h:wpAny M A t Q E s) (hQ:∀ a s,Q a s -> Q' a s):wpAny M A t Q' E s:=wpAny_mono h hQ fun _ _ x=>x
open PySem PySem.Spec PyProof.Rows
section
variable {X:Cx}
def ip (i:Nat):TE:=fun σ H Q=>∃ v,σ[i]? = some (some v) /\ Q v H
def tC (v:V):TE:=fun _ H Q=>Q v H
theorem GL {i:Nat} {x:Str} {pos:Pos} (hN:X.N[i]? = some x) (hv:HJ X.env.scope x) (hd:(x == ("__debug__" : Str))=false:=by decide) (hcd:(x == ("__classdict__" : Str))=false:=by decide):PE X (.Name x pos) (ip i):=by
 intro pins s σ H Q I h
 obtain ⟨v,e,h⟩:=h
 obtain ⟨m,hn,hl⟩:=I.loc
 obtain ⟨u,r,l⟩:=hl i x v hN e hv
 have fin:EP X pins σ Q u s:=⟨v,H,I,r,h⟩
 rcases l with ⟨hk,hm⟩ | ⟨hk,c,hc,hcell⟩
 ·exact wpAny_Name (wpAny_loadName_local I.ok.kind hk hn hm fin) hd
 ·rcases hk with hk | hk
  ·exact wpAny_Name (wpAny_loadName_cell I.ok.kind hk hc hcell fin) hd
  ·exact wpAny_Name (wpAny_loadName_free I.ok.kind hk hc hcell fin hcd) hd
theorem GH {i j pos}:PE X (.Constant (.int i) j pos) (tC (.int i)):=fun _ _ _ H _ I h=>wpAny_Constant_int ⟨.int i,H,I.tok _,⟨_,rfl⟩,h⟩
theorem I0 {b j pos}:PE X (.Constant (.bool b) j pos) (tC (.bl b)):=fun _ _ _ H _ I h=>Constant_bool ⟨.bl b,H,I,rfl,h⟩
def Gl (X:Cx) (x:Str):Prop:=X.env.kindOf x=some .globalImplicit
theorem sM {E:Value -> Shared -> Prop} {pins:List (Addr × Obj)} {s:Shared} {σ:St} {H:Hp} {x:Str} {u:Value} {pos:Pos} {Q:Value -> Shared -> Prop} (I:Inv X pins σ H s) (hg:Gl X x) (hm:X.mg x=some u) (h:Q u s)
  (hd:(x == ("__debug__" : Str))=false:=by decide):wpAny (model X.prog X.w) X.A (eval (.Name x pos) X.env) Q E s:=
 Calls.Name_function_global I.ok.kind hg (Calls.loadGlobal_global (by rw [I.ok.glob]; exact I.mod.glob.keeps I.bk) hm h) hd
theorem lW {E:Value -> Shared -> Prop} {pins:List (Addr × Obj)} {s:Shared} {σ:St} {H:Hp} {x:Str} {u:Value} {pos:Pos} {Q:Value -> Shared -> Prop} (I:Inv X pins σ H s) (hg:Gl X x) (hm:X.mg x=none) (hv:bootBuiltins x=some u) (h:Q u s)
  (hn:x ≠ "__name__" := by decide) (hd:(x == ("__debug__" : Str))=false:=by decide):wpAny (model X.prog X.w) X.A (eval (.Name x pos) X.env) Q E s:=by
 obtain ⟨mb,h1,h2⟩:=I.mod.blt
 exact Calls.Name_function_global I.ok.kind hg (Calls.loadGlobal_builtin (by rw [I.ok.glob]; exact I.mod.glob.keeps I.bk) hm (by rw [I.ok.blt]; exact h1.keeps I.bk) ((h2 x hn).trans hv) h) hd
theorem yV {x:Str} {v:V} {u:Value} {pos:Pos} (hg:Gl X x) (hm:X.mg x=some u) (r:RelV v u) (hd:(x == ("__debug__" : Str))=false:=by decide):PE X (.Name x pos) (tC v):=
 fun _ _ _ H _ I h=>sM I hg hm ⟨v,H,I,r,h⟩ hd
theorem DI {x:Str} {v:V} {u:Value} {pos:Pos} (hg:Gl X x) (hm:X.mg x=none) (hv:bootBuiltins x=some u) (r:RelV v u) (hn:x ≠ "__name__" := by decide) (hd:(x == ("__debug__" : Str))=false:=by decide):PE X (.Name x pos) (tC v):=
 fun _ _ _ H _ I h=>lW I hg hm hv ⟨v,H,I,r,h⟩ hn hd
variable {a b:Expr} {ta tb:TE} {pos:Pos}
variable {tA tB':TT} {rest:List Expr}
def KL (t u:TT):TT:=fun σ H Q=>t σ H fun c H1=>if c=true then u σ H1 Q else Q false H1
def LJ (t u:TT):TT:=fun σ H Q=>t σ H fun c H1=>if c=true then Q true H1 else u σ H1 Q
def KU (t:TT):TT:=fun σ H Q=>t σ H fun c H1=>Q (!c) H1
theorem DR (ha:PT X a tA):PW X (.BoolOp .And [a] pos) tA:=by
 intro wh pins s σ H Q I h
 refine isTrue_and (cM (ha pins s σ H Q I h) fun c s1 e=>?_)
 cases c with
 | true=>exact isTrue_and_nil e
 | false=>exact e
theorem GX (ha:PT X a tA):PW X (.BoolOp .Or [a] pos) tA:=by
 intro wh pins s σ H Q I h
 refine isTrue_or (cM (ha pins s σ H Q I h) fun c s1 e=>?_)
 cases c with
 | false=>exact isTrue_or_nil e
 | true=>exact e
theorem GW (ha:PT X a tA) (hb:PW X (.BoolOp .And (b :: rest) pos) tB'):PW X (.BoolOp .And (a :: b :: rest) pos) (KL tA tB'):=by
 intro wh pins s σ H Q I h
 refine isTrue_and (cM (ha pins s σ H _ I h) fun c s1 ⟨H1,I1,q1⟩=>?_)
 cases c with
 | true=>exact hb wh pins s1 σ H1 Q I1 q1
 | false=>exact ⟨H1,I1,q1⟩
theorem Jd (ha:PT X a tA) (hb:PW X (.BoolOp .Or (b :: rest) pos) tB'):PW X (.BoolOp .Or (a :: b :: rest) pos) (LJ tA tB'):=by
 intro wh pins s σ H Q I h
 refine isTrue_or (cM (ha pins s σ H _ I h) fun c s1 ⟨H1,I1,q1⟩=>?_)
 cases c with
 | true=>exact ⟨H1,I1,q1⟩
 | false=>exact hb wh pins s1 σ H1 Q I1 q1
theorem GV (ha:PT X a tA):PT X (.UnaryOp .Not a pos) (KU tA):=by
 intro pins s σ H Q I h
 exact isTrue_not (ha pins s σ H (fun c H1=>Q (!c) H1) I h)
def Jo (ta tb:TE):TE:=fun σ H Q=>ta σ H fun x H1=>∃ c,x=.bl c /\ if c=true then tb σ H1 Q else Q (.bl false) H1
def Jx (ta:TE):TE:=fun σ H Q=>ta σ H fun x H1=>∃ c,x=.bl c /\ Q (.bl (!c)) H1
theorem GJ {op} {t:TE} (h:PE X a t):PE X (.BoolOp op [a] pos) t:=fun pins s σ H Q I hw=>BoolOp_one (h pins s σ H Q I hw)
theorem GF (ha:PE X a ta) (hb:PE X (.BoolOp .And (b :: rest) pos) tb):PE X (.BoolOp .And (a :: b :: rest) pos) (Jo ta tb):=by
 intro pins s σ H Q I h
 refine BoolOp_and (cM (ha pins s σ H _ I h) fun v s1 ⟨x,H1,I1,r1,q1⟩=>?_)
 obtain ⟨c,rfl,q1⟩:=q1
 cases r1
 refine wpAny_truthy_bool ?_
 cases c with
 | true=>exact hb pins s1 σ H1 Q I1 q1
 | false=>exact ⟨.bl false,H1,I1,rfl,q1⟩
theorem GI (ha:PE X a ta):PE X (.UnaryOp .Not a pos) (Jx ta):=by
 intro pins s σ H Q I h
 refine UnaryOp_ (cM (ha pins s σ H _ I h) fun v s1 ⟨x,H1,I1,r1,q1⟩=>?_)
 obtain ⟨c,rfl,q1⟩:=q1
 cases r1
 exact not_of (wpAny_truthy_bool ⟨.bl (!c),H1,I1,rfl,q1⟩)
end
open PySem PySem.Spec PyProof.Rows
def eZ (K:PySem.W.Frag) (H:Hp) (a:Addr) (xs:List V):Prop:=
 Rd H a (.lst xs) \/
  ∃ (o:Obj) (its:Array Value) (n:Nat),K.lookup a=some o /\ o.cls=.type "list" /\ o.dict=none /\ o.data=.seq its n /\ its.size ≤ sizeLine /\ Vals xs its.toList
def kc (K:PySem.W.Frag) (H:Hp) (a:Addr) (xs:List V):Prop:=
 Rd H a (.tup xs) \/
  ∃ (o:Obj) (its:Array Value) (n:Nat),K.lookup a=some o /\ o.cls=.type "tuple" /\ o.data=.seq its n /\ its.size ≤ sizeLine /\ Vals xs its.toList
def Ka:Value -> Option V
 | .none=>some .non
 | .bool b=>some (.bl b)
 | .int i _=>some (.int i)
 | .str x _=>some (.str x)
 | .bytes b _=>some (.byt b)
 | .float b _=>some (.flt b)
 | .ref a=>some (.ref a)
 | .type n=>some (.ty n)
 | _=>none
theorem RelV.abs {x:V} {u:Value} (r:RelV x u):Ka u=some x:=by
 cases x with
 | non=>cases r; rfl
 | bl _=>cases r; rfl
 | int _=>obtain ⟨t,rfl⟩:=r; rfl
 | str _=>obtain ⟨t,rfl⟩:=r; rfl
 | byt _=>obtain ⟨t,rfl⟩:=r; rfl
 | flt _=>obtain ⟨t,rfl⟩:=r; rfl
 | ref _=>cases r; rfl
 | ty _=>cases r; rfl
theorem RelV.inj {x y:V} {u:Value} (r:RelV x u) (q:RelV y u):x=y:=Option.some.inj (r.abs.symm.trans q.abs)
theorem Vals.inj:∀ {xs ys:List V} {us:List Value},Vals xs us -> Vals ys us -> xs=ys
 | _,_,_,.nil,.nil=>rfl
 | _,_,_,.cons r t,.cons r' t'=>by rw [r.inj r',Vals.inj t t']
section
variable {X:Cx} {pins:List (Addr × Obj)} {σ:St} {H:Hp} {s:Shared} {a:Addr} {xs ys:List V}
theorem eZ.of {K:PySem.W.Frag} (h:H a=some (.lst xs)):eZ K H a xs:=.inl (.inl h)
theorem kc.of {K:PySem.W.Frag} (h:H a=some (.tup xs)):kc K H a xs:=.inl (.inl h)
theorem Inv.list (I:Inv X pins σ H s) (h:eZ X.K H a xs):∃ its:List Value,Vals xs its /\ PlainL s.heap a its.toArray /\ xs.length ≤ sizeLine:=by
 rcases h with h | ⟨o,its,n,hk,hc,hd,hs,hz,r⟩
 ·obtain ⟨z,its,n,r,e⟩:=h.ok I.hok
  exact ⟨its,r,⟨_,n,e,rfl,rfl,rfl⟩,z⟩
 ·refine ⟨its.toList,r,⟨o,n,I.kIn a o hk,hc,hd,by simpa using hs⟩,?_⟩
  have e:=r.length
  simp only [Array.length_toList] at e
  omega
theorem Inv.tuple (I:Inv X pins σ H s) (h:kc X.K H a xs):∃ its:List Value,Vals xs its /\ IsTup s.heap a its.toArray /\ xs.length ≤ sizeLine:=by
 rcases h with h | ⟨o,its,n,hk,hc,hs,hz,r⟩
 ·obtain ⟨z,its,r,p⟩:=h.ok I.hok
  exact ⟨its,r,p,z⟩
 ·refine ⟨its.toList,r,⟨o,I.kIn a o hk,hc,n,by simpa using hs⟩,?_⟩
  have e:=r.length
  simp only [Array.length_toList] at e
  omega
theorem Inv.list_inj (I:Inv X pins σ H s) (h:eZ X.K H a xs) (h':eZ X.K H a ys):xs=ys:=by
 obtain ⟨its,r,⟨o,n,e,_,_,d⟩,_⟩:=I.list h
 obtain ⟨its',r',⟨o',n',e',_,_,d'⟩,_⟩:=I.list h'
 rw [e] at e'; cases e'
 rw [d] at d'
 injection d' with d1 _
 have:its=its':=by simpa using congrArg Array.toList d1
 subst this
 exact r.inj r'
theorem Inv.tuple_inj (I:Inv X pins σ H s) (h:kc X.K H a xs) (h':kc X.K H a ys):xs=ys:=by
 obtain ⟨its,r,⟨o,e,_,n,d⟩,_⟩:=I.tuple h
 obtain ⟨its',r',⟨o',e',_,n',d'⟩,_⟩:=I.tuple h'
 rw [e] at e'; cases e'
 rw [d] at d'
 injection d' with d1 _
 have:its=its':=by simpa using congrArg Array.toList d1
 subst this
 exact r.inj r'
end
abbrev Cx.wish (X:Cx) (E:Value -> Shared -> Prop):Cx:={ X with xe:=E }
abbrev Cx.nox (X:Cx):Cx:=X.wish fun _ _=>False
theorem Cx.Ok.wish {X:Cx} (ok:X.Ok) (E:Value -> Shared -> Prop):(X.wish E).Ok:=
 ⟨ok.mod,ok.kind,ok.glob,ok.blt,ok.above,ok.inj,ok.has,ok.cab,ok.hd,ok.frames,ok.stk,ok.exf,ok.bs,ok.bsz,ok.noex,ok.exfs,ok.funs,ok.frf⟩
theorem Cx.Ok.unwish {X:Cx} {E:Value -> Shared -> Prop} (ok:(X.wish E).Ok):X.Ok:=
 ⟨ok.mod,ok.kind,ok.glob,ok.blt,ok.above,ok.inj,ok.has,ok.cab,ok.hd,ok.frames,ok.stk,ok.exf,ok.bs,ok.bsz,ok.noex,ok.exfs,ok.funs,ok.frf⟩
section
variable {X:Cx} {pins:List (Addr × Obj)} {σ:St} {H:Hp} {s:Shared} {E:Value -> Shared -> Prop}
theorem Inv.wish (I:Inv X pins σ H s) (E:Value -> Shared -> Prop):Inv (X.wish E) pins σ H s:=⟨I.ok.wish E,I.os,I.bare,I.base,I.loc,I.cell,I.free,I.freeC,I.pin,I.hok,I.len⟩
theorem Inv.unwish (I:Inv (X.wish E) pins σ H s):Inv X pins σ H s:=⟨I.ok.unwish,I.os,I.bare,I.base,I.loc,I.cell,I.free,I.freeC,I.pin,I.hok,I.len⟩
theorem SP.unwish {D:Ends} {f:Flow} {s':Shared} (h:SP (X.wish E) pins D f s'):SP X pins D f s':=by
 cases f with
 | next=>obtain ⟨σ',H',I,q⟩:=h; exact ⟨σ',H',I.unwish,q⟩
 | brk=>obtain ⟨σ',H',I,q⟩:=h; exact ⟨σ',H',I.unwish,q⟩
 | cont=>obtain ⟨σ',H',I,q⟩:=h; exact ⟨σ',H',I.unwish,q⟩
 | ret u=>obtain ⟨v,σ',H',I,r,q⟩:=h; exact ⟨v,σ',H',I.unwish,r,q⟩
theorem PE.nox {e:Expr} {t:TE} (h:PE X.nox e t):PE X e t:=fun pins s σ H Q I hw =>
 wpAny_mono (h pins s σ H Q (I.wish _) hw) (fun _ _ ⟨v,H',I',r,q⟩=>⟨v,H',I'.unwish,r,q⟩) fun _ _ z=>False.elim z
theorem PT.nox {e:Expr} {t:TT} (h:PT X.nox e t):PT X e t:=fun pins s σ H Q I hw =>
 wpAny_mono (h pins s σ H Q (I.wish _) hw) (fun _ _ ⟨H',I',q⟩=>⟨H',I'.unwish,q⟩) fun _ _ z=>False.elim z
theorem ir.nox {st:List Stmt} {t:TS} (h:ir X.nox st t):ir X st t:=fun pins s σ H D I hw =>
 wpAny_mono (h pins s σ H D (I.wish _) hw) (fun _ _ q=>q.unwish) fun _ _ z=>False.elim z
end
section
variable {X:Cx} {st:Stmt} {rest:List Stmt} {t u:TS} {e:Expr} {te:TE} {pos:Pos}
def Jv:TS:=fun D σ H=>D.nx σ H
def KZ (t u:TS):TS:=fun D σ H=>t { D with nx:=u D } σ H
theorem tM:ir X [] Jv:=fun _ _ σ H _ I h=>wpAny_execs_nil ⟨σ,H,I,h⟩
theorem cX (h1:PS X st t) (h2:ir X rest u):ir X (st :: rest) (KZ t u):=by
 intro pins s σ H D I h
 refine wpAny_execs_cons (cM (h1 pins s σ H { D with nx:=u D } I h) fun f s1 q=>?_)
 cases f with
 | next =>
  obtain ⟨σ',H',I',q⟩:=q
  exact h2 pins s1 σ' H' D I' q
 | ret v=>exact q
 | brk=>exact q
 | cont=>exact q
theorem iH (h1:PS X st t):ir X [st] t:=by
 intro pins s σ H D I h
 refine wpAny_execs_cons (cM (h1 pins s σ H D I h) fun f s1 q=>?_)
 cases f with
 | next=>exact wpAny_execs_nil q
 | ret v=>exact q
 | brk=>exact q
 | cont=>exact q
theorem Inv.quiet {pins:List (Addr × Obj)} {σ:St} {H:Hp} {s:Shared} (I:Inv X pins σ H s):interactive X.env=false:=by simp [interactive,I.ok.kind]
def Jt (te:TE):TS:=fun D σ H=>te σ H fun _ H1=>D.nx σ H1
theorem jI (he:PE X e te) (hs:swapsWith e none pos.line X.env=pure false:=by rfl):PS X (.Expr e pos) (Jt te):=by
 intro pins s σ H D I h
 exact wpAny_Expr_any (cM (he pins s σ H _ I h) fun v s1 ⟨x,H1,I1,r1,q1⟩=>⟨σ,H1,I1,q1⟩) I.quiet hs
def KY (te:TE):TS:=fun D σ H=>te σ H D.rt
theorem tJ (he:PE X e te):PS X (.Return (some e) pos) (KY te):=by
 intro pins s σ H D I h
 exact wpAny_Return_some (cM (he pins s σ H _ I h) fun v s1 ⟨x,H1,I1,r1,q1⟩=>⟨x,σ,H1,I1,r1,q1⟩)
def KR (c:TT) (t u:TS):TS:=fun D σ H=>c σ H fun b H1=>if b=true then t D σ H1 else u D σ H1
theorem E5 {c:Expr} {a b:List Stmt} {tc:TT} (hc:PT X c tc) (ha:ir X a t) (hb:ir X b u):PS X (.If c a b pos) (KR tc t u):=by
 intro pins s σ H D I h
 refine wpAny_If (cM (hc pins s σ H _ I h) fun d s1 ⟨H1,I1,q1⟩=>?_)
 cases d with
 | true=>exact ha pins s1 σ H1 D I1 q1
 | false=>exact hb pins s1 σ H1 D I1 q1
def B8:TS:=fun _ _ _=>False
theorem BM:PS X st B8:=fun _ _ _ _ _ _ h=>h.elim
theorem Ah {sts:List Stmt}:ir X sts B8:=fun _ _ _ _ _ _ h=>h.elim
end
abbrev TG:=V -> St -> Hp -> (St -> Hp -> Prop) -> Prop
abbrev Ci:=List V -> St -> Hp -> (St -> Hp -> Prop) -> Prop
def PG (X:Cx) (target:Expr) (t:TG):Prop:=
 ∀ (pins:List (Addr × Obj)) (s:Shared) (σ:St) (H:Hp) (v:V) (u:Value) (Q:St -> Hp -> Prop),Inv X pins σ H s -> RelV v u -> t v σ H Q ->
  wpAny (model X.prog X.w) X.A (assign target X.env u) (fun _ s'=>∃ σ' H',Inv X pins σ' H' s' /\ Q σ' H') X.xe s
def Hl (X:Cx) (ts:List Expr) (t:Ci):Prop:=
 ∀ (pins:List (Addr × Obj)) (s:Shared) (σ:St) (H:Hp) (vs:List V) (us:List Value) (Q:St -> Hp -> Prop),Inv X pins σ H s -> Vals vs us -> t vs σ H Q ->
  wpAny (model X.prog X.w) X.A (assignInOrder ((assignEach ts X.env).map (·.2)) us) (fun _ s'=>∃ σ' H',Inv X pins σ' H' s' /\ Q σ' H') X.xe s
abbrev Fi:=V -> V -> V -> Hp -> (Hp -> Prop) -> Prop
def HE (X:Cx) (t:Fi):Prop:=
 ∀ (pins:List (Addr × Obj)) (s:Shared) (σ:St) (H:Hp) (o i v:V) (ov iv u:Value) (Q:Hp -> Prop),Inv X pins σ H s -> RelV o ov -> RelV i iv -> RelV v u -> t o i v H Q ->
  wpAny (model X.prog X.w) X.A (setItem ov iv u) (fun _ s'=>∃ H',Inv X pins σ H' s' /\ Q H') X.xe s
section
variable {X:Cx} {pos:Pos}
def oB (i:Nat):TG:=fun v σ H Q=>Q (σ.set i (some v)) H
theorem tF {i:Nat} {x:Str} (hN:X.N.Nodup) (hi:X.N[i]? = some x) (hx:Loc X.env.scope x) (hf:X.fn x=true \/ X.env.scope.names.lookup x=some .local:=by first | exact .inl rfl | exact .inr rfl | assumption):PG X (.Name x pos) (oB i):=by
 intro pins s σ H v u Q I r h
 exact wpAny_assign_Name (gF I hN hi hx r (fun s' I'=>⟨_,H,I',h⟩) hf)
def Kl:Ci:=fun vs σ H Q=>vs=[] /\ Q σ H
def Io (t:TG) (u:Ci):Ci:=fun vs σ H Q=>∃ v r,vs=v :: r /\ t v σ H fun σ' H'=>u r σ' H' Q
theorem DL:Hl X [] Kl:=by
 intro pins s σ H vs us Q I r h
 obtain ⟨e,h⟩:=h
 subst e
 cases r
 exact assignInOrder_nil ⟨σ,H,I,h⟩
theorem BJ {e:Expr} {es:List Expr} {t:TG} {u:Ci} (h1:PG X e t) (h2:Hl X es u)
  (hs:(assignEach (e :: es) X.env).map (·.2)=assign e X.env :: (assignEach es X.env).map (·.2):=by rfl):Hl X (e :: es) (Io t u):=by
 intro pins s σ H vs us Q I r h
 obtain ⟨v,vr,e1,h⟩:=h
 subst e1
 cases r with
 | cons r rr =>
  rw [hs]
  refine assignInOrder_cons (cM (h1 pins s σ H _ _ _ I r h) fun _ s1 ⟨σ1,H1,I1,q1⟩=>?_)
  exact h2 pins s1 σ1 H1 _ _ Q I1 rr q1
def Kn (K:PySem.W.Frag) (n:Nat) (t:Ci):TG:=fun v σ H Q=>∃ a xs,v=.ref a /\ kc K H a xs /\ xs.length=n /\ t xs σ H Q
theorem GP {es:List Expr} {k:Nat} {t:Ci} {n:Nat} (hc:X.calm=true) (h:Hl X es t)
  (hn:(assignEach es X.env).length=n:=by rfl) (hst:(assignEach es X.env).findIdx? (·.1)=none:=by rfl):PG X (.Tuple es k pos) (Kn X.K n t):=by
 intro pins s σ H v u Q I r hw
 obtain ⟨a,xs,e1,hq,hl,hw⟩:=hw
 subst e1
 cases r
 obtain ⟨its,rv,ht,hz⟩:=I.tuple hq
 refine assign_Tuple_tuple (I.ok.hd hc) ht (by simp [hn,<- hl,rv.length]) hst fun h' hx=>?_
 have I1:Inv X pins σ H { s with heap:=h' }:=I.kept (t':=s.toks) fun b o e=>hx b o (Nat.ne_of_lt (Heap.lt_size e)) e
 exact h pins _ σ H xs _ Q I1 (by simpa using rv) hw
def jO (to ti:TE) (t:Fi):TG:=fun v σ H Q=>to σ H fun o H1=>ti σ H1 fun i H2=>t o i v H2 fun H3=>Q σ H3
theorem GO {o i:Expr} {to ti:TE} {t:Fi} (ho:PE X o to) (hi:PE X i ti) (hs:HE X t)
  (ha:∀ v,assign (.Subscript o i pos) X.env v=(do
   let ov <- holding [v] (eval o X.env)
   let iv <- holding [v,ov] (eval i X.env)
   standAt pos
   holding [v,ov,iv] (setItem ov iv v)
   release [v,ov,iv] []):=by intro _; rfl):PG X (.Subscript o i pos) (jO to ti t):=by
 intro pins s σ H v u Q I r h
 rw [ha]
 refine wpAny_bind (wpAny_holding (cM (ho pins s σ H _ I h) fun ov s1 ⟨x,H1,I1,r1,q1⟩=>?_))
 refine wpAny_bind (wpAny_holding (cM (hi pins s1 σ H1 _ I1 q1) fun iv s2 ⟨y,H2,I2,r2,q2⟩=>?_))
 refine wpAny_bind (wpAny_standAt (wpAny_bind (wpAny_holding (cM (hs pins s2 σ H2 x y v ov iv u _ I2 r1 r2 r q2) fun _ s3 ⟨H3,I3,q3⟩=>?_))))
 exact wpAny_release ⟨σ,H3,I3,q3⟩
def Jp (te:TE) (g:TG):TS:=fun D σ H=>te σ H fun x H1=>g x σ H1 D.nx
theorem xB {tg e:Expr} {te:TE} {g:TG} (he:PE X e te) (hg:PG X tg g) (hs:swapsWithSole [tg] e pos.line X.env=pure false:=by rfl) (hw:swappedStores [tg] e X.env=pure none:=by rfl)
  (h1:(assignEach [tg] X.env).map (·.2)=[assign tg X.env]:=by rfl):PS X (.Assign [tg] e pos) (Jp te g):=by
 intro pins s σ H D I h
 refine wpAny_Assign_stores (cM (he pins s σ H _ I h) fun v s1 ⟨x,H1,I1,r1,q1⟩=>?_) hs hw
 rw [h1]
 exact cM (hg pins s1 σ H1 x v _ I1 r1 q1) fun _ s2 q=>q
theorem tK {i:Nat} {x:Str} {e:Expr} {te:TE} {pos':Pos} (hN:X.N.Nodup) (hi:X.N[i]? = some x) (hx:Loc X.env.scope x) (he:PE X e te) (hs:swapsWith e (some (.Name x pos')) pos.line X.env=pure false:=by rfl) (hf:X.fn x=true \/ X.env.scope.names.lookup x=some .local:=by first | exact .inl rfl | exact .inr rfl | assumption) :
  PS X (.Assign [.Name x pos'] e pos) (Jp te (oB i)):=by
 intro pins s σ H D I h
 refine wpAny_Assign_Name (cM (he pins s σ H _ I h) fun v s1 ⟨y,H1,I1,r1,q1⟩=>?_) hs
 exact gF I1 hN hi hx r1 (fun s2 I2=>⟨_,H1,I2,q1⟩) hf
def KW (i j:Nat) (ta:TA):TS:=fun D σ H=>ta σ H fun vs H1=>∃ v w,vs=[v,w] /\ D.nx ((σ.set i (some v)).set j (some w)) H1
theorem GU {i j:Nat} {x y:Str} {a b:Expr} {ta:TA} {px py pt:Pos} {kt k2 pt2} (hc:X.calm=true) (hN:X.N.Nodup) (hi:X.N[i]? = some x) (hj:X.N[j]? = some y) (hij:i ≠ j)
  (hx:X.env.scope.names.lookup x=some .local) (hy:X.env.scope.names.lookup y=some .local) (ha:PA X [a,b] ta)
  (hw:swappedStores [.Tuple [.Name x px,.Name y py] kt pt] (.Tuple [a,b] k2 pt2) X.env=pure (some [x,y]))
  (hs:swapsWithSole [.Tuple [.Name x px,.Name y py] kt pt] (.Tuple [a,b] k2 pt2) pos.line X.env=pure false:=by rfl) :
  PS X (.Assign [.Tuple [.Name x px,.Name y py] kt pt] (.Tuple [a,b] k2 pt2) pos) (KW i j ta):=by
 intro pins s σ H D I h
 rw [exec_Assign_arm]
 refine wpAny_bind (wpAny_standAt ?_)
 rw [hs]
 refine wpAny_bind (wpAny_pure ?_)
 rw [if_neg (by decide)]
 refine wpAny_bind (Tuple_ (cM (ha _ pins s σ H _ I h) fun us s1 ⟨vs,H1,I1,r1,q1⟩=>?_))
 obtain ⟨v,w,e1,q1⟩:=q1
 subst e1
 obtain ⟨u1,u2,rfl,rv,rw'⟩:∃ u1 u2,us=[u1,u2] /\ RelV v u1 /\ RelV w u2:=by
  cases r1 with
  | cons p q =>
   cases q with
   | cons p' q' =>
    cases q'
    exact ⟨_,_,rfl,p,p'⟩
 refine wpAny_newObj_type ?_ (by show 2 ≤ sizeLine; decide)
 have I2:Inv X pins σ H1 { s1 with heap:=s1.heap.push { cls:=.type "tuple", data:=.seq [u1,u2].toArray } }:=I1.kept (t':=s1.toks) fun b o e=>Heap.get?_push_of_some _ e
 rw [hw]
 refine wpAny_bind (wpAny_pure ?_)
 show wpAny (model X.prog X.w) X.A (do rule "assign.swapped-stores"; let items <- unpackItems (.ref s1.heap.objs.size) 2 none; assignInOrder [fun v=>bindName X.env y v,fun v=>bindName X.env x v] items.reverse; pure Flow.next) _ _ _
 refine wpAny_bind (wpAny_rule (wpAny_bind (unpackItems_tuple (items:=#[u1,u2]) (I.ok.hd hc) (IsTup.new s1.heap _) fun h' hx'=>?_)))
 have I3:=I2.kept (h':=h') (t':=s1.toks) fun b o e=>hx' b o (Nat.ne_of_lt (Heap.lt_size e)) e
 show wpAny _ _ (assignInOrder [fun v=>bindName X.env y v,fun v=>bindName X.env x v] [u2,u1] >>= fun _=>pure Flow.next) _ _ _
 refine wpAny_bind (assignInOrder_cons (wpAny_bindName (gF I3 hN hj (.inl hy) rw' (fun s2 I4=>?_) (.inr hy))))
 refine assignInOrder_cons (wpAny_bindName (gF I4 hN hi (.inl hx) rv (fun s3 I5=>assignInOrder_nil (wpAny_pure ?_)) (.inr hx)))
 rw [List.set_comm _ _ (Ne.symm hij)] at I5
 exact ⟨_,H1,I5,q1⟩
end
section
variable {X:Cx} {pos:Pos}
def Ha (c:TT) (tb:TS):TS:=fun D σ H=>∃ W:Nat -> St -> Hp -> Prop,(∃ m,W m σ H) /\ ∀ m σ H,W m σ H ->
 c σ H fun b H1=>if b=true then ∃ N:St -> Hp -> Prop,(∀ σ' H',N σ' H' -> ∃ m',m' < m /\ W m' σ' H') /\ tb { D with nx:=N,ct:=N,bk:=D.nx } σ H1 else D.nx σ H1
theorem vF {c:Expr} {body:List Stmt} {tc:TT} {tb:TS} (hp:PassesOwn (model X.prog X.w) X.A X.env X.xe) (hc:PT X c tc) (hb:ir X body tb):PS X (.While c body [] pos) (Ha tc tb):=by
 intro pins s σ H D I h
 obtain ⟨W,⟨m0,w0⟩,turn⟩:=h
 refine wpAny_While (codeAny_whileLoop (fun n s'=>∃ σ' H',Inv X pins σ' H' s' /\ W n σ' H') ?_ m0 ⟨σ,H,I,w0⟩)
 rintro n s1 ⟨σ1,H1,I1,w1⟩
 refine wpAny_passesOwn hp (cM (hc pins s1 σ1 H1 _ I1 (turn n σ1 H1 w1)) fun b s2 ⟨H2,I2,q2⟩=>?_)
 cases b with
 | true =>
  obtain ⟨N,hN,q2⟩:=q2
  rw [if_pos rfl]
  refine wpAny_passesOwn hp (cM (hb pins s2 σ1 H2 _ I2 q2) fun f s3 q3=>?_)
  cases f with
  | next =>
   obtain ⟨σ3,H3,I3,n3⟩:=q3
   obtain ⟨m',hm,w3⟩:=hN σ3 H3 n3
   exact ⟨m',hm,σ3,H3,I3,w3⟩
  | cont =>
   obtain ⟨σ3,H3,I3,n3⟩:=q3
   obtain ⟨m',hm,w3⟩:=hN σ3 H3 n3
   exact ⟨m',hm,σ3,H3,I3,w3⟩
  | brk=>exact q3
  | ret v=>exact q3
 | false =>
  rw [if_neg Bool.false_ne_true]
  exact wpAny_execs_nil ⟨σ1,H2,I2,q2⟩
end
structure It where
 go:Nat -> Hp -> Prop
 yld:Nat -> Hp -> V -> Hp -> Prop
 stop:Nat -> Hp -> Prop
def pX (X:Cx) (pins:List (Addr × Obj)) (H:Hp) (b:Addr):Prop:=
 H b=none /\ b ≠ X.env.locals /\ b ∉ X.fs /\ (b ∈ X.ex \/ X.s₀.heap.objs.size ≤ b) /\ (∀ x c,X.env.cells.lookup x=some c -> c ≠ b) /\ ∀ p ∈ X.pn ++ pins,p.1 ≠ b
theorem Inv.fpOk {X:Cx} {pins:List (Addr × Obj)} {σ:St} {H H':Hp} {s:Shared} {b:Addr} (I:Inv X pins σ H s) (hb:s.heap.objs.size ≤ b) (hn:H' b=none):pX X pins H' b:=by
 refine ⟨hn,Nat.ne_of_gt (Nat.lt_of_lt_of_le I.lt hb),I.nofs hb,.inr (Nat.le_trans I.sz hb),fun x c e z=>?_,fun p hp z=>?_⟩
 ·obtain ⟨v,q⟩:=I.cell x c e
  exact absurd (Nat.lt_of_lt_of_le q.lt (by rw [z]; exact hb)) (Nat.lt_irrefl _)
 ·exact absurd (Nat.lt_of_lt_of_le (Heap.lt_size (I.pin p hp).1) (by rw [z]; exact hb)) (Nat.lt_irrefl _)
structure Turn (P:Program) (w:World) (K:PySem.W.Frag) (tg:Expr) (J:It) (fp:List Addr) (it:Addr) (tn:Nat -> Heap -> Prop):Prop where
 mem:it ∈ fp
 obj:∀ i h,tn i h -> ∀ b ∈ fp,∃ o,h.get? b=some o /\ ∀ v,o.data ≠ .cell v
 keep:∀ i h h',tn i h -> (∀ b ∈ fp,∀ o,h.get? b=some o -> h'.get? b=some o) -> tn i h'
 item:∀ (X:Cx),X.prog=P -> X.w=w -> X.K=K -> X.calm=true -> ∀ (i:Nat) (pins:List (Addr × Obj)) (s:Shared) (σ:St) (H:Hp) (E:Value -> Shared -> Prop),Inv X pins σ H s -> (∀ b ∈ fp,pX X pins H b) -> tn i s.heap -> J.go i H ->
  wpAny (model P w) X.A (pyNext (.ref it)) (fun r s1=>∃ u,r=some u /\
   wpAny (model P w) X.A (letOwnedTupleGo tg (.ref it) u) (fun _ s2=>∃ x H',Inv X pins σ H' s2 /\ RelV x u /\ J.yld i H x H' /\ tn (i + 1) s2.heap /\ ∀ b ∈ fp,H' b=none) E s1) E s
 done:∀ (X:Cx),X.prog=P -> X.w=w -> X.K=K -> X.calm=true -> ∀ (i:Nat) (pins:List (Addr × Obj)) (s:Shared) (σ:St) (H:Hp) (E:Value -> Shared -> Prop),Inv X pins σ H s -> (∀ b ∈ fp,pX X pins H b) -> tn i s.heap -> J.stop i H ->
  wpAny (model P w) X.A (pyNext (.ref it)) (fun r s1=>r=none /\ Inv X pins σ H s1) E s
 self:∀ (A:Around) (i:Nat) (s:Shared) (Q:Value -> Shared -> Prop) (E:Value -> Shared -> Prop),tn i s.heap -> Q (.ref it) s -> wpAny (model P w) A (pyIter (.ref it)) Q E s
abbrev TI:=St -> Hp -> (It -> Hp -> Prop) -> Prop
def K8 (X:Cx) (pins:List (Addr × Obj)) (σ:St) (tg:Expr) (R:It -> Hp -> Prop) (itv:Value) (s2:Shared):Prop:=
 ∃ (it:Addr) (fp:List Addr) (tn:Nat -> Heap -> Prop) (J:It) (H':Hp),itv=.ref it /\ Inv X pins σ H' s2 /\ Turn X.prog X.w X.K tg J fp it tn /\ tn 0 s2.heap /\ (∀ b ∈ fp,pX X pins H' b) /\ R J H'
def PI (X:Cx) (tg iter:Expr) (wi:TI):Prop:=
 ∀ (pins:List (Addr × Obj)) (s:Shared) (σ:St) (H:Hp) (R:It -> Hp -> Prop),Inv X pins σ H s -> wi σ H R ->
  wpAny (model X.prog X.w) X.A (eval iter X.env) (fun v s1=>wpAny (model X.prog X.w) X.A (pyIter v) (K8 X pins σ tg R) X.xe s1) X.xe s
theorem Bi {M:Model} {A:Around} {E:Value -> Shared -> Prop} {s:Shared} {tg:Expr} {it:Addr} {u:Value} {o:Obj} {n:String} {vs:Array Value} {Q:Unit -> Shared -> Prop} (ho:s.heap.get? it=some o) (hc:o.cls=.type n) (hd:o.data=.fields vs)
    (hn:["enumerate", "zip", "dict_itemiterator", "dict_reverseitemiterator", "odict_iterator", "itertools.zip_longest", "itertools.pairwise"].contains n=false) (hQ:Q () s):wpAny M A (letOwnedTupleGo tg (.ref it) u) Q E s:=by
  unfold letOwnedTupleGo
  cases tg <;> first
    | exact wpAny_pure hQ
    | (cases u <;> first
        | exact wpAny_pure hQ
        | (refine wpAny_bind (wpAny_load ho ?_)
           rw [hc,hd]
           show wpAny M A (if (["enumerate", "zip", "dict_itemiterator", "dict_reverseitemiterator", "odict_iterator", "itertools.zip_longest", "itertools.pairwise"].contains n && vs[0]? == some (rawInt _))=true then _ else _) Q E s
           rw [if_neg (by intro h; rw [hn,Bool.false_and] at h; cases h)]
           exact wpAny_pure hQ))
def J3 (K:PySem.W.Frag) (a:Addr):It:=
 ⟨fun i H=>∃ xs x,eZ K H a xs /\ xs[i]? = some x,fun i H x H'=>H'=H /\ ∀ xs,eZ K H a xs -> xs[i]? = some x,fun i H=>∃ xs,eZ K H a xs /\ xs.length ≤ i⟩
def J4 (K:PySem.W.Frag) (a:Addr):It:=
 ⟨fun i H=>∃ xs x,kc K H a xs /\ xs[i]? = some x,fun i H x H'=>H'=H /\ ∀ xs,kc K H a xs -> xs[i]? = some x,fun i H=>∃ xs,kc K H a xs /\ xs.length ≤ i⟩
def JG (lo:Int) (n:Nat):It:=⟨fun i _=>i < n,fun i H x H'=>H'=H /\ x=.int (lo + i),fun i _=>n ≤ i⟩
theorem Au {P:Program} {w:World} {K:PySem.W.Frag} {tg:Expr} (a it:Addr):Turn P w K tg (J3 K a) [it] it (fun i h=>h.IsListIter it a i) where
 mem:=by simp
 obj:=fun i h st b hb=>by
  have e:b=it:=by simpa using hb
  subst e
  obtain ⟨o,e,c,d⟩:=st
  exact ⟨o,e,fun v z=>by rw [d] at z; cases z⟩
 keep:=fun i h h' st k=>st.at fun o e=>k it (by simp) o e
 item:=by
  intro X hP hw hK hc i pins s σ H E I hf st hg
  subst hP hw hK
  obtain ⟨xs,x,hq,hx⟩:=hg
  obtain ⟨its,rv,p,hz⟩:=I.list hq
  obtain ⟨u,hu,ru⟩:=rv.get hx
  obtain ⟨f0,f1,f2,f3,f4,f5⟩:=hf it (by simp)
  refine wpAny_pyNext_list_item st p.isList (x:=u) (by simpa using hu) fun h' st' sb=>?_
  have I1:Inv X pins σ H { s with heap:=h' }:=I.turned (t':=s.toks) (fun b o hb e=>(sb.2 b hb).trans e) f0 f1 f3 f4 f5
  obtain ⟨o,e,c,d⟩:=id st'
  exact ⟨u,rfl,Bi (s:={ s with heap:=h' }) e c d (by decide) ⟨x,H,I1,ru,⟨rfl,fun ys hy=>by rw [I.list_inj hy hq]; exact hx⟩,st',fun b hb=>(hf b hb).1⟩⟩
 done:=by
  intro X hP hw hK hc i pins s σ H E I hf st hg
  subst hP hw hK
  obtain ⟨xs,hq,hx⟩:=hg
  obtain ⟨its,rv,p,hz⟩:=I.list hq
  obtain ⟨f0,f1,f2,f3,f4,f5⟩:=hf it (by simp)
  have hl:=rv.length
  exact wpAny_pyNext_list_end (I.ok.hd hc) st p.isList (by simp; omega) fun h' eb=>⟨rfl,I.turned (t':=s.toks) (fun b o hb e=>eb b o hb e) f0 f1 f3 f4 f5⟩
 self:=fun _ _ _ _ _ st h=>wpAny_pyIter_listiter st h
theorem xX {P:Program} {w:World} {K:PySem.W.Frag} {tg:Expr} (a it:Addr):Turn P w K tg (J4 K a) [it] it (fun i h=>h.IsTupleIter it a i) where
 mem:=by simp
 obj:=fun i h st b hb=>by
  have e:b=it:=by simpa using hb
  subst e
  obtain ⟨o,e,c,d⟩:=st
  exact ⟨o,e,fun v z=>by rw [d] at z; cases z⟩
 keep:=fun i h h' st k=>st.at fun o e=>k it (by simp) o e
 item:=by
  intro X hP hw hK hc i pins s σ H E I hf st hg
  subst hP hw hK
  obtain ⟨xs,x,hq,hx⟩:=hg
  obtain ⟨its,rv,p,hz⟩:=I.tuple hq
  obtain ⟨u,hu,ru⟩:=rv.get hx
  obtain ⟨f0,f1,f2,f3,f4,f5⟩:=hf it (by simp)
  refine wpAny_pyNext_tuple_item st (show s.heap.IsTuple a its.toArray from p) (x:=u) (by simpa using hu) fun h' st' sb=>?_
  have I1:Inv X pins σ H { s with heap:=h' }:=I.turned (t':=s.toks) (fun b o hb e=>(sb.2 b hb).trans e) f0 f1 f3 f4 f5
  obtain ⟨o,e,c,d⟩:=id st'
  exact ⟨u,rfl,Bi (s:={ s with heap:=h' }) e c d (by decide) ⟨x,H,I1,ru,⟨rfl,fun ys hy=>by rw [I.tuple_inj hy hq]; exact hx⟩,st',fun b hb=>(hf b hb).1⟩⟩
 done:=by
  intro X hP hw hK hc i pins s σ H E I hf st hg
  subst hP hw hK
  obtain ⟨xs,hq,hx⟩:=hg
  obtain ⟨its,rv,p,hz⟩:=I.tuple hq
  obtain ⟨f0,f1,f2,f3,f4,f5⟩:=hf it (by simp)
  have hl:=rv.length
  exact wpAny_pyNext_tuple_end (I.ok.hd hc) st (show s.heap.IsTuple a its.toArray from p) (by simp; omega) fun h' eb=>⟨rfl,I.turned (t':=s.toks) (fun b o hb e=>eb b o hb e) f0 f1 f3 f4 f5⟩
 self:=fun _ _ _ _ _ st h=>wpAny_pyIter_tupleiter st h
theorem xW {P:Program} {w:World} {K:PySem.W.Frag} {tg:Expr} (it:Addr) (lo:Int) (n:Nat):Turn P w K tg (JG lo n) [it] it (fun i h=>IsRangeIter h it (lo + (i:Nat) * 1) ((n:Int) - (i:Nat)) 1) where
 mem:=by simp
 obj:=fun i h st b hb=>by
  have e:b=it:=by simpa using hb
  subst e
  exact ⟨_,st,fun v z=>by
   have z':Data.fields _=Data.cell v:=z
   cases z'⟩
 keep:=fun i h h' st k=>k it (by simp) _ st
 item:=by
  intro X hP hw hK hc i pins s σ H E I hf st hg
  subst hP hw hK
  obtain ⟨f0,f1,f2,f3,f4,f5⟩:=hf it (by simp)
  have W:=Walks.range (prog:=X.prog) (w:=X.w) (I.ok.hd hc) it lo 1 n
  refine W.item i s _ _ hg st fun v h' tk hv st' kk=>?_
  obtain ⟨t,rfl⟩:=hv
  have I1:Inv X pins σ H { s with heap:=h',toks:=tk }:=I.turned (fun b o hb e=>kk b o (by simpa using hb) e) f0 f1 f3 f4 f5
  refine ⟨_,rfl,Bi (s:={ s with heap:=h',toks:=tk }) (n := "range_iterator") st' rfl rfl (by decide) ⟨.int (lo + i),H,I1,⟨t,?_⟩,⟨rfl,rfl⟩,st',fun b hb=>(hf b hb).1⟩⟩
  rw [Int.mul_one]
 done:=by
  intro X hP hw hK hc i pins s σ H E I hf st hg
  subst hP hw hK
  obtain ⟨f0,f1,f2,f3,f4,f5⟩:=hf it (by simp)
  exact wpAny_pyNext_range_end (I.ok.hd hc) st (by have:n ≤ i:=hg; omega) fun h' eb=>⟨rfl,I.turned (t':=s.toks) (fun b o hb e=>eb b o hb e) f0 f1 f3 f4 f5⟩
 self:=fun _ _ _ _ _ st h=>wpAny_pyIter_rangeiter st h
open PySem PySem.Spec PyProof.Rows
section
variable {X:Cx} {tg:Expr}
def Ir (K:PySem.W.Frag) (tl:TE):TI:=fun σ H R=>tl σ H fun x H1=>∃ a,x=.ref a /\ (∃ xs,eZ K H1 a xs) /\ R (J3 K a) H1
def Ko (K:PySem.W.Frag) (tl:TE):TI:=fun σ H R=>tl σ H fun x H1=>∃ a,x=.ref a /\ (∃ xs,kc K H1 a xs) /\ R (J4 K a) H1
theorem tH {l:Expr} {tl:TE} (hl:PE X l tl):PI X tg l (Ir X.K tl):=by
 intro pins s σ H R I h
 refine cM (hl pins s σ H _ I h) fun v s1 ⟨x,H1,I1,r1,q1⟩=>?_
 obtain ⟨a,e,⟨xs,hq⟩,q⟩:=q1
 subst e
 cases r1
 obtain ⟨its,rv,p,hz⟩:=I1.list hq
 refine wpAny_pyIter_list p.isList ?_
 refine ⟨s1.heap.objs.size,[s1.heap.objs.size],_,_,H1,rfl,I1.kept (t':=s1.toks) fun b o e=>Heap.get?_push_of_some _ e,Au a _,⟨_,Heap.get?_push_size _ rfl,rfl,rfl⟩,fun b hb=>?_,q⟩
 have e:b=s1.heap.objs.size:=by simpa using hb
 subst e
 exact I1.fpOk (Nat.le_refl _) (I1.hok.fresh (Nat.le_refl _))
theorem GQ {l:Expr} {tl:TE} (hl:PE X l tl):PI X tg l (Ko X.K tl):=by
 intro pins s σ H R I h
 refine cM (hl pins s σ H _ I h) fun v s1 ⟨x,H1,I1,r1,q1⟩=>?_
 obtain ⟨a,e,⟨xs,hq⟩,q⟩:=q1
 subst e
 cases r1
 obtain ⟨its,rv,p,hz⟩:=I1.tuple hq
 refine wpAny_pyIter_tuple (show s1.heap.IsTuple a its.toArray from p) ?_
 refine ⟨s1.heap.objs.size,[s1.heap.objs.size],_,_,H1,rfl,I1.kept (t':=s1.toks) fun b o e=>Heap.get?_push_of_some _ e,xX a _,⟨_,Heap.get?_push_size _ rfl,rfl,rfl⟩,fun b hb=>?_,q⟩
 have e:b=s1.heap.objs.size:=by simpa using hb
 subst e
 exact I1.fpOk (Nat.le_refl _) (I1.hok.fresh (Nat.le_refl _))
theorem BP {pins:List (Addr × Obj)} {σ:St} {H:Hp} {s:Shared} {R:It -> Hp -> Prop} {E:Value -> Shared -> Prop} {lo hi:Int} {t u v:Tok} {tk:Nat} (I:Inv X pins σ H s) (h1 : -(2 ^ 62) ≤ lo) (h2:lo < 2 ^ 62) (h3 : -(2 ^ 62) ≤ hi) (h4:hi < 2 ^ 62)
  (q:R (JG lo (hi - lo).toNat) H):wpAny (model X.prog X.w) X.A (pyIter (.ref s.heap.objs.size)) (K8 X pins σ tg R) E { s with heap:=s.heap.push { cls:=.type "range", data:=.fields #[.int lo t,.int hi u,.int 1 v] },toks:=tk }:=by
 refine wpAny_pyIter_range (IsRange.new ..) (small_one h1 h2 h3 h4) ?_
 have I1:Inv X pins σ H { s with heap:=s.heap.push { cls:=.type "range", data:=.fields #[.int lo t,.int hi u,.int 1 v] },toks:=tk }:=I.kept fun b o e=>Heap.get?_push_of_some _ e
 refine ⟨(s.heap.push { cls:=.type "range", data:=.fields #[.int lo t,.int hi u,.int 1 v] }).objs.size,[(s.heap.push { cls:=.type "range", data:=.fields #[.int lo t,.int hi u,.int 1 v] }).objs.size],_,_,H,rfl,
  I1.kept (t':=tk) fun b o e=>Heap.get?_push_of_some _ e,xW _ lo (hi - lo).toNat,?_,fun b hb=>?_,q⟩
 ·have e1:lo + ((0:Nat):Int) * 1=lo:=by simp
  have e2:(((hi - lo).toNat:Nat):Int) - ((0:Nat):Int)=Builtin.Range.rangeSize lo hi 1:=by rw [rangeSize_one]; split <;> omega
  show IsRangeIter _ _ (lo + ((0:Nat):Int) * 1) ((((hi - lo).toNat:Nat):Int) - ((0:Nat):Int)) 1
  rw [e1,e2]
  exact Heap.get?_push_size _ rfl
 ·have e:b=(s.heap.push { cls:=.type "range", data:=.fields #[.int lo t,.int hi u,.int 1 v] }).objs.size:=by simpa using hb
  subst e
  exact I1.fpOk (Nat.le_refl _) (I1.hok.fresh (Nat.le_refl _))
def Iu (ta:TA):TI:=fun σ H R=>ta σ H fun vs H1=>∃ j:Int,vs=[.int j] /\ -(2 ^ 62) ≤ j /\ j < 2 ^ 62 /\ R (JG 0 j.toNat) H1
theorem Ae {a:Expr} {ta:TA} {p pos:Pos} (hg:Gl X "range") (hm:X.mg "range" = none) (ha:PA X [a] ta) (hs:starEach [a] X.env=[(false,eval a X.env)]:=by rfl):PI X tg (.Call (.Name "range" p) [a] [] pos) (Iu ta):=by
 intro pins s σ H R I h
 refine Call_ (lW I hg hm boot_range (PyProof.Rows.callWith_type1 (cM (ha pos pins s σ H _ I h) fun us s1 ⟨vs,H1,I1,r1,q1⟩=>?_) hs rfl))
 obtain ⟨j,e,q1,q2,q⟩:=q1
 subst e
 cases r1 with
 | cons r rr =>
  cases rr
  obtain ⟨t,rfl⟩:=r
  exact call_range_1 (BP I1 (by omega) (by omega) q1 q2 (by simpa using q))
def KQ (wi:TI) (g:TG) (tb:TS):TS:=fun D σ H=>wi σ H fun J H1=>∃ W:Nat -> Nat -> St -> Hp -> Prop,(∃ m,W 0 m σ H1) /\ ∀ i m σ H,W i m σ H ->
 (J.stop i H /\ D.nx σ H) \/ (J.go i H /\ ∃ N:St -> Hp -> Prop,(∀ σ' H',N σ' H' -> ∃ m',m' < m /\ W (i + 1) m' σ' H') /\ ∀ x H',J.yld i H x H' -> g x σ H' fun σ2 H2=>tb { D with nx:=N,ct:=N,bk:=D.nx } σ2 H2)
def mf (fp:List Addr) (h:Heap):List (Addr × Obj):=fp.filterMap fun b=>(h.get? b).map fun o=>(b,o)
theorem fA {fp:List Addr} {h:Heap} {b:Addr} {o:Obj} (hb:b ∈ fp) (e:h.get? b=some o):(b,o) ∈ mf fp h:=List.mem_filterMap.mpr ⟨b,hb,by rw [e]; rfl⟩
theorem z9 {fp:List Addr} {h:Heap} {p:Addr × Obj} (hp:p ∈ mf fp h):p.1 ∈ fp /\ h.get? p.1=some p.2:=by
 obtain ⟨b,hb,e⟩:=List.mem_filterMap.mp hp
 cases q:h.get? b with
 | none=>rw [q] at e; cases e
 | some o =>
  rw [q] at e
  have e':(b,o)=p:=Option.some.inj e
  subst e'
  exact ⟨hb,q⟩
theorem Inv.pinned {pins:List (Addr × Obj)} {σ:St} {H:Hp} {s:Shared} {fp:List Addr} (I:Inv X pins σ H s) (hf:∀ b ∈ fp,pX X pins H b) (ho:∀ b ∈ fp,∃ o,s.heap.get? b=some o /\ ∀ v,o.data ≠ .cell v):Inv X (pins ++ mf fp s.heap) σ H s:=
 I.pins_of fun p hp=>(List.mem_append.mp hp).elim (fun z=>I.pin p (List.mem_append_right _ z)) fun z=>by
  obtain ⟨hb,e⟩:=z9 z
  obtain ⟨f0,f1,f2,_⟩:=hf p.1 hb
  obtain ⟨o,e',d⟩:=ho p.1 hb
  rw [e] at e'; cases e'
  exact ⟨e,f0,f1,f2,d⟩
theorem Inv.unpinned {pins pl:List (Addr × Obj)} {σ:St} {H:Hp} {s:Shared} (I:Inv X (pins ++ pl) σ H s):Inv X pins σ H s:=I.pins_of fun p hp=>I.pin p (List.mem_append_right _ (List.mem_append_left _ hp))
theorem xC {iter:Expr} {body:List Stmt} {wi:TI} {g:TG} {tb:TS} {pos:Pos} (hp:PassesOwn (model X.prog X.w) X.A X.env X.xe) (hc:X.calm=true) (hi:PI X tg iter wi) (hg:PG X tg g) (hb:ir X body tb)
  (hs:∀ x,foldedSetIterable iter X.env x=pure x:=by intro _; rfl):PS X (.For tg iter body [] pos) (KQ wi g tb):=by
 intro pins s σ H D I h
 refine wpAny_For (cM (hi pins s σ H _ I h) fun v s1 h1=>cM h1 fun itv s2 h2=>?_) hs
 obtain ⟨it,fp,tn,J,H2,e,I2,T,st2,f2,W,⟨m0,w0⟩,turn⟩:=h2
 subst e
 -- what stays true of the iterator's objects through the loop
 have stat:∀ {H':Hp},(∀ b ∈ fp,H' b=none) -> ∀ b ∈ fp,pX X pins H' b:=fun hn b hb=>⟨hn b hb,(f2 b hb).2⟩
 refine codeAny_forLoop_any (fun n s'=>∃ i σ' H',Inv X pins σ' H' s' /\ tn i s'.heap /\ (∀ b ∈ fp,H' b=none) /\ W i n σ' H') ?_ m0 ⟨0,σ,H2,I2,st2,fun b hb=>(f2 b hb).1,w0⟩
 rintro n s3 ⟨i,σ3,H3,I3,st3,fr3,w3⟩
 rcases turn i n σ3 H3 w3 with ⟨stop,qn⟩ | ⟨go,N,hN,step⟩
 ·refine wpAny_passesOwn hp (cM (T.done X rfl rfl rfl hc i pins s3 σ3 H3 X.xe I3 (stat fr3) st3 stop) fun r s4 ⟨hr,I4⟩=>?_)
  subst hr
  exact wpAny_execs_nil ⟨σ3,H3,I4,qn⟩
 ·refine wpAny_passesOwn hp (cM (T.item X rfl rfl rfl hc i pins s3 σ3 H3 X.xe I3 (stat fr3) st3 go) fun r s4 ⟨u,hr,h4⟩=>?_)
  subst hr
  refine wpAny_passesOwn hp (cM h4 fun _ s5 ⟨x,H5,I5,r5,y5,st5,fr5⟩=>?_)
  have I5':=I5.pinned (stat fr5) (T.obj _ _ st5)
  refine wpAny_passesOwn hp (cM (hg _ s5 σ3 H5 x u _ I5' r5 (step x H5 y5)) fun _ s6 ⟨σ6,H6,I6,q6⟩=>?_)
  refine wpAny_passesOwn hp (cM (hb _ s6 σ6 H6 _ I6 q6) fun f s7 q7=>?_)
  have again:∀ {σ7:St} {H7:Hp},Inv X (pins ++ mf fp s5.heap) σ7 H7 s7 -> N σ7 H7 -> ∃ m,m < n /\ ∃ i σ' H',Inv X pins σ' H' s7 /\ tn i s7.heap /\ (∀ b ∈ fp,H' b=none) /\ W i m σ' H':=fun {σ7 H7} I7 n7=>by
   obtain ⟨m',hm,w7⟩:=hN σ7 H7 n7
   refine ⟨m',hm,i + 1,σ7,H7,I7.unpinned,T.keep _ _ _ st5 fun b hb o e=>(I7.pin (b,o) (List.mem_append_right _ (List.mem_append_right _ (fA hb e)))).1,fun b hb=>?_,w7⟩
   obtain ⟨o,e,d⟩:=T.obj _ _ st5 b hb
   exact (I7.pin (b,o) (List.mem_append_right _ (List.mem_append_right _ (fA hb e)))).2.1
  cases f with
  | next=>obtain ⟨σ7,H7,I7,n7⟩:=q7; exact again I7 n7
  | cont=>obtain ⟨σ7,H7,I7,n7⟩:=q7; exact again I7 n7
  | brk=>obtain ⟨σ7,H7,I7,q7⟩:=q7; exact ⟨σ7,H7,I7.unpinned,q7⟩
  | ret v=>obtain ⟨x7,σ7,H7,I7,r7,q7⟩:=q7; exact ⟨x7,σ7,H7,I7.unpinned,r7,q7⟩
end
open PySem PySem.Spec PyProof.Rows
abbrev R2:=V -> V -> Hp -> VK -> Prop
def lJ (X:Cx) (f:Value -> Value -> Sem Value) (r:R2):Prop:=
 ∀ (pins:List (Addr × Obj)) (s:Shared) (σ:St) (H:Hp) (x y:V) (v u:Value) (Q:VK),Inv X pins σ H s -> RelV x v -> RelV y u -> r x y H Q ->
  wpAny (model X.prog X.w) X.A (f v u) (EP X pins σ Q) X.xe s
def JJ (X:Cx) (f:Value -> Sem Value) (r:V -> Hp -> VK -> Prop):Prop:=
 ∀ (pins:List (Addr × Obj)) (s:Shared) (σ:St) (H:Hp) (x:V) (v:Value) (Q:VK),Inv X pins σ H s -> RelV x v -> r x H Q ->
  wpAny (model X.prog X.w) X.A (f v) (EP X pins σ Q) X.xe s
def gH (X:Cx) (f:Value) (r:List V -> Hp -> VK -> Prop):Prop:=
 ∀ (pins:List (Addr × Obj)) (s:Shared) (σ:St) (H:Hp) (xs:List V) (us:List Value) (Q:VK),Inv X pins σ H s -> Vals xs us -> r xs H Q ->
  wpAny (model X.prog X.w) X.A (call f us) (EP X pins σ Q) X.xe s
def J8 (X:Cx) (r:V -> Hp -> (Bool -> Hp -> Prop) -> Prop):Prop:=
 ∀ (pins:List (Addr × Obj)) (s:Shared) (σ:St) (H:Hp) (x:V) (v:Value) (Q:Bool -> Hp -> Prop),Inv X pins σ H s -> RelV x v -> r x H Q ->
  wpAny (model X.prog X.w) X.A (truthy v) (TP X pins σ Q) X.xe s
def Jy (r:R2) (ta tb:TE):TE:=fun σ H Q=>ta σ H fun x H1=>tb σ H1 fun y H2=>r x y H2 Q
def LM (r:V -> Hp -> VK -> Prop) (ta:TE):TE:=fun σ H Q=>ta σ H fun x H1=>r x H1 Q
def rI (C:Int -> Int -> Prop) (g:Int -> Int -> V):R2:=fun x y H Q=>∃ i j,x=.int i /\ y=.int j /\ C i j /\ Q (g i j) H
def DU (g:Int -> Int -> V):R2:=fun x y H Q=>∃ i j,x=.int i /\ y=.int j /\ Q (g i j) H
def rU (g:Int -> V):V -> Hp -> VK -> Prop:=fun x H Q=>∃ i,x=.int i /\ Q (g i) H
section
variable {X:Cx} {a b c:Expr} {ta tb tc:TE} {pos:Pos}
theorem Fp (ha:PE X a ta) (hb:PE X b tb) {pins:List (Addr × Obj)} {s:Shared} {σ:St} {H:Hp} {R:V -> V -> Hp -> Prop} (I:Inv X pins σ H s)
  (h:ta σ H fun x H1=>tb σ H1 fun y H2=>R x y H2) {Q:Value -> Shared -> Prop} {f:Value -> Value -> Sem Value}
  (hf:∀ v u s2 x y H2,Inv X pins σ H2 s2 -> RelV x v -> RelV y u -> R x y H2 -> wpAny (model X.prog X.w) X.A (f v u) Q X.xe s2) :
  wpAny (model X.prog X.w) X.A (eval a X.env) (fun v s₁=>wpAny (model X.prog X.w) X.A (eval b X.env) (fun u s₂=>wpAny (model X.prog X.w) X.A (f v u) Q X.xe s₂) X.xe s₁) X.xe s:=by
 refine cM (ha pins s σ H _ I h) fun v s1 ⟨x,H1,I1,r1,q1⟩=>?_
 refine cM (hb pins s1 σ H1 _ I1 q1) fun u s2 ⟨y,H2,I2,r2,q2⟩=>?_
 exact hf v u s2 x y H2 I2 r1 r2 q2
theorem Jb {op:Operator} {r:R2} (ho:lJ X (binaryOp op) r) (ha:PE X a ta) (hb:PE X b tb):PE X (.BinOp a op b pos) (Jy r ta tb):=by
 intro pins s σ H Q I h
 exact wpAny_BinOp (Fp ha hb I h fun v u s2 x y H2 I2 rx ry q=>ho pins s2 σ H2 x y v u Q I2 rx ry q)
theorem Jc {op:UnaryOp} {r:V -> Hp -> VK -> Prop} (ho:JJ X (unaryOp op) r) (ha:PE X a ta):PE X (.UnaryOp op a pos) (LM r ta):=by
 intro pins s σ H Q I h
 exact UnaryOp_ (cM (ha pins s σ H _ I h) fun v s1 ⟨x,H1,I1,r1,q1⟩=>ho pins s1 σ H1 x v Q I1 r1 q1)
theorem Kx {f:Value -> Value -> Sem Value} {C:Int -> Int -> Prop} {g:Int -> Int -> Int}
  (rule:∀ (i j:Int) (t u:Tok) (s:Shared) (Q:Value -> Shared -> Prop) (E:Value -> Shared -> Prop),C i j -> Q (.int (g i j) s.toks) { s with toks:=s.toks + 1 } -> wpAny (model X.prog X.w) X.A (f (.int i t) (.int j u)) Q E s) :
  lJ X f (rI C fun i j=>.int (g i j)):=by
 intro pins s σ H x y v u Q I rx ry h
 obtain ⟨i,j,rfl,rfl,hc,q⟩:=h
 obtain ⟨t,rfl⟩:=rx
 obtain ⟨t',rfl⟩:=ry
 exact rule i j t t' s _ _ hc ⟨.int (g i j),H,I.tok _,⟨_,rfl⟩,q⟩
theorem IS {f:Value -> Value -> Sem Value} {g:Int -> Int -> Int}
  (rule:∀ (i j:Int) (t u:Tok) (s:Shared) (Q:Value -> Shared -> Prop) (E:Value -> Shared -> Prop),Q (.int (g i j) s.toks) { s with toks:=s.toks + 1 } -> wpAny (model X.prog X.w) X.A (f (.int i t) (.int j u)) Q E s) :
  lJ X f (DU fun i j=>.int (g i j)):=by
 intro pins s σ H x y v u Q I rx ry h
 obtain ⟨i,j,rfl,rfl,q⟩:=h
 obtain ⟨t,rfl⟩:=rx
 obtain ⟨t',rfl⟩:=ry
 exact rule i j t t' s _ _ ⟨.int (g i j),H,I.tok _,⟨_,rfl⟩,q⟩
theorem DC {f:Value -> Value -> Sem Value} {g:Int -> Int -> Bool}
  (rule:∀ (i j:Int) (t u:Tok) (s:Shared) (Q:Value -> Shared -> Prop) (E:Value -> Shared -> Prop),Q (.bool (g i j)) s -> wpAny (model X.prog X.w) X.A (f (.int i t) (.int j u)) Q E s) :
  lJ X f (DU fun i j=>.bl (g i j)):=by
 intro pins s σ H x y v u Q I rx ry h
 obtain ⟨i,j,rfl,rfl,q⟩:=h
 obtain ⟨t,rfl⟩:=rx
 obtain ⟨t',rfl⟩:=ry
 exact rule i j t t' s _ _ ⟨.bl (g i j),H,I,rfl,q⟩
def J2 (i j:Int):Prop:=0 ≤ j /\ j ≤ 1000000 /\ i.natAbs < 2 ^ 64
def HB (i j:Int):Prop:=(-(2 ^ 64) < i /\ i < 2 ^ 64) \/ (-(2 ^ 64) < j /\ j < 2 ^ 64)
theorem HB.ok {i j:Int} (h:HB i j):IntMulOk i j:=by
 rcases h with ⟨h1,h2⟩ | ⟨h1,h2⟩
 ·exact .of_left (intBits_le_64 h1 h2)
 ·exact .of_right (intBits_le_64 h1 h2)
theorem Gy:lJ X (binaryOp .Add) (DU fun i j=>.int (i + j)):=IS fun _ _ _ _ _ _ _ q=>add_int q
theorem GB:lJ X (binaryOp .Sub) (DU fun i j=>.int (i - j)):=IS fun _ _ _ _ _ _ _ q=>sub_int q
theorem DF:lJ X (binaryOp .Mod) (rI (fun _ j=>j ≠ 0) fun i j=>.int (i.fmod j)):=Kx fun _ _ _ _ _ _ _ hc q=>mod_int' hc q
theorem LN {f:Value -> Sem Value} {g:Int -> Int}
  (rule:∀ (i:Int) (t:Tok) (s:Shared) (Q:Value -> Shared -> Prop) (E:Value -> Shared -> Prop),Q (.int (g i) s.toks) { s with toks:=s.toks + 1 } -> wpAny (model X.prog X.w) X.A (f (.int i t)) Q E s) :
  JJ X f (rU fun i=>.int (g i)):=by
 intro pins s σ H x v Q I rx h
 obtain ⟨i,rfl,q⟩:=h
 obtain ⟨t,rfl⟩:=rx
 exact rule i t s _ _ ⟨.int (g i),H,I.tok _,⟨_,rfl⟩,q⟩
theorem Hj:JJ X (unaryOp .USub) (rU fun i=>.int (-i)):=LN fun _ _ _ _ _ q=>neg_int q
end
section
variable {X:Cx} {a b c:Expr} {ta tb tc:TE} {pos:Pos}
theorem IW:lJ X (compareOp .Lt) (DU fun i j=>.bl (decide (i < j))):=DC fun _ _ _ _ _ _ _ q=>lt_int q
theorem IV:lJ X (compareOp .LtE) (DU fun i j=>.bl (decide (i ≤ j))):=DC fun _ _ _ _ _ _ _ q=>le_int q
theorem IU:lJ X (compareOp .Gt) (DU fun i j=>.bl (decide (j < i))):=DC fun _ _ _ _ _ _ _ q=>gt_int q
theorem IT:lJ X (compareOp .GtE) (DU fun i j=>.bl (decide (j ≤ i))):=DC fun _ _ _ _ _ _ _ q=>ge_int q
theorem lJ.or {f:Value -> Value -> Sem Value} {r r':R2} (h:lJ X f r) (h':lJ X f r'):lJ X f (fun x y H Q=>r x y H Q \/ r' x y H Q):=by
 intro pins s σ H x y v u Q I rx ry q
 rcases q with q | q
 ·exact h pins s σ H x y v u Q I rx ry q
 ·exact h' pins s σ H x y v u Q I rx ry q
theorem bZ (b:Expr) {op:CmpOp} (h:op ≠ .In:=by decide) (h2:op ≠ .NotIn:=by decide):behindInMarks op b=false:=by
 have e1:(op == CmpOp.In)=false:=by cases op <;> first | rfl | exact absurd rfl h
 have e2:(op == CmpOp.NotIn)=false:=by cases op <;> first | rfl | exact absurd rfl h2
 cases b <;> simp [behindInMarks,e1,e2]
theorem DJ {op:CmpOp} {r:R2} (ho:lJ X (compareOp op) r) (ha:PE X a ta) (hb:PE X b tb) (hm:behindInMarks op b=false):PE X (.Compare a [op] [b] pos) (Jy r ta tb):=by
 intro pins s σ H Q I h
 exact wpAny_Compare1 (Fp ha hb I h fun v u s2 x y H2 I2 rx ry q=>ho pins s2 σ H2 x y v u Q I2 rx ry q) hm
def Fe (t:TE):TT:=fun σ H Q=>t σ H fun x H'=>∃ k,x=.bl k /\ Q k H'
theorem DP {op:CmpOp} {r:R2} (ho:lJ X (compareOp op) r) (ha:PE X a ta) (hb:PE X b tb) (hm:behindInMarks op b=false):PT X (.Compare a [op] [b] pos) (Fe (Jy r ta tb)):=by
 intro pins s σ H Q I h
 refine wpAny_isTrue_Compare1 (cM (ha pins s σ H _ I h) fun v s1 ⟨x,H1,I1,r1,q1⟩=>cM (hb pins s1 σ H1 _ I1 q1) fun u s2 ⟨y,H2,I2,r2,q2⟩ =>
  cM (ho pins s2 σ H2 x y v u _ I2 r1 r2 q2) fun c s3 ⟨z,H3,I3,r3,k,e,q3⟩=>?_) hm
 subst e
 cases r3
 exact wpAny_truthy_bool ⟨H3,I3,q3⟩
def xT (r r':R2) (ta tb tc:TE):TE:=fun σ H Q=>ta σ H fun x H1=>tb σ H1 fun y H2=>r x y H2 fun z H3=>∃ k,z=.bl k /\
 (if k=true then tc σ H3 fun w' H4=>r' y w' H4 Q else Q (.bl false) H3)
theorem BI {op op':CmpOp} {r r':R2} (ho:lJ X (compareOp op) r) (ho':lJ X (compareOp op') r') (ha:PE X a ta) (hb:PE X b tb) (hc:PE X c tc)
  (hm:lastMarks [op,op'] [b,c]=false:=by with_unfolding_all rfl):PE X (.Compare a [op,op'] [b,c] pos) (xT r r' ta tb tc):=by
 intro pins s σ H Q I h
 refine Compare_chain (cM (ha pins s σ H _ I h) fun v s1 ⟨x,H1,I1,r1,q1⟩=>chain_link (cM (hb pins s1 σ H1 _ I1 q1) fun u s2 ⟨y,H2,I2,r2,q2⟩ =>
  cM (ho pins s2 σ H2 x y v u _ I2 r1 r2 q2) fun d s3 ⟨z,H3,I3,r3,k,e,q3⟩=>?_)) hm
 subst e
 cases r3
 refine wpAny_truthy_bool ?_
 cases k with
 | false=>exact ite_ff ⟨.bl false,H3,I3,rfl,q3⟩
 | true=>exact ite_tt (chain_last (cM (hc pins s3 σ H3 _ I3 q3) fun w' s4 ⟨z',H4,I4,r4,q4⟩=>ho' pins s4 σ H4 y z' u w' Q I4 r2 r4 q4))
theorem BN {op op':CmpOp} {r r':R2} (ho:lJ X (compareOp op) r) (ho':lJ X (compareOp op') r') (ha:PE X a ta) (hb:PE X b tb) (hc:PE X c tc)
  (hm:lastMarks [op,op'] [b,c]=false:=by with_unfolding_all rfl):PT X (.Compare a [op,op'] [b,c] pos) (Fe (xT r r' ta tb tc)):=by
 intro pins s σ H Q I h
 refine isTrue_chain (cM (ha pins s σ H _ I h) fun v s1 ⟨x,H1,I1,r1,q1⟩=>test_link (cM (hb pins s1 σ H1 _ I1 q1) fun u s2 ⟨y,H2,I2,r2,q2⟩ =>
  cM (ho pins s2 σ H2 x y v u _ I2 r1 r2 q2) fun d s3 ⟨z,H3,I3,r3,k,e,q3⟩=>?_)) hm
 subst e
 cases r3
 refine wpAny_truthy_bool ?_
 cases k with
 | false =>
  obtain ⟨k',e',q'⟩:=q3
  cases e'
  exact ite_ff ⟨H3,I3,q'⟩
 | true =>
  refine ite_tt (test_last (cM (hc pins s3 σ H3 _ I3 q3) fun w' s4 ⟨z',H4,I4,r4,q4⟩=>cM (ho' pins s4 σ H4 y z' u w' _ I4 r2 r4 q4) fun d' s5 ⟨z2,H5,I5,r5,k2,e2,q5⟩=>?_))
  subst e2
  cases r5
  exact wpAny_truthy_bool ⟨H5,I5,q5⟩
def Fj (K:PySem.W.Frag) (x:V) (H:Hp) (k:Bool):Prop:=
 match x with
 | .non=>k=false
 | .bl b=>k=b
 | .int i=>k=(i != 0)
 | .str y=>y.length ≤ sizeLine /\ k=((y.length:Int) != 0)
 | .byt y=>y.size ≤ sizeLine /\ k=((y.size:Int) != 0)
 | .ref p=>(∃ xs,eZ K H p xs /\ k = !xs.isEmpty) \/ (∃ xs,kc K H p xs /\ k = !xs.isEmpty) \/ ∃ kvs,H p=some (.dK kvs) /\ k = !kvs.isEmpty
 | _=>False
theorem wQ {κ:Type} {kvs:List (κ × V)} {vs:List (κ × Value)} (r:KV kvs vs):(!vs.isEmpty) = !kvs.isEmpty:=by
 cases r <;> rfl
theorem oF {xs:List V} {its:List Value} (r:Vals xs its):(!its.toArray.isEmpty) = !xs.isEmpty:=by
 cases r <;> simp
theorem kn:(sizeLine:Nat) < 2 ^ 63:=by rw [sizeLine_eq]; decide
theorem Hf:J8 X (fun x H Q=>∃ k,Fj X.K x H k /\ Q k H):=by
 intro pins s σ H x v Q I rx h
 obtain ⟨k,e,q⟩:=h
 have hl:=kn
 have hs:sizeLine=16777216:=sizeLine_eq
 cases x with
 | non =>
  cases rx
  have e':k=false:=e
  subst e'
  exact truthy_none ⟨H,I,q⟩
 | bl b =>
  cases rx
  have e':k=b:=e
  subst e'
  exact wpAny_truthy_bool ⟨H,I,q⟩
 | int i =>
  obtain ⟨t,rfl⟩:=rx
  have e':k=(i != 0):=e
  subst e'
  exact PySem.P.truthy_int ⟨H,I,q⟩
 | str y =>
  obtain ⟨t,rfl⟩:=rx
  obtain ⟨hy,e'⟩:y.length ≤ sizeLine /\ k=((y.length:Int) != 0):=e
  subst e'
  exact PySem.P.truthy_str (by omega) ⟨H,I.tok _,q⟩
 | byt y =>
  obtain ⟨t,rfl⟩:=rx
  obtain ⟨hy,e'⟩:y.size ≤ sizeLine /\ k=((y.size:Int) != 0):=e
  subst e'
  exact PySem.W.truthy_bytes (by omega) ⟨H,I.tok _,q⟩
 | ref p =>
  cases rx
  have e':(∃ xs,eZ X.K H p xs /\ k = !xs.isEmpty) \/ (∃ xs,kc X.K H p xs /\ k = !xs.isEmpty) \/ ∃ kvs,H p=some (.dK kvs) /\ k = !kvs.isEmpty:=e
  rcases e' with ⟨xs,hx,e'⟩ | ⟨xs,hx,e'⟩ | ⟨kvs,hx,e'⟩
  ·subst e'
   obtain ⟨its,r,pl,hz⟩:=I.list hx
   have hlen:=r.length
   exact wpAny_truthy_list pl.isList (by simp only [List.size_toArray]; omega) ⟨H,I.tok _,by rw [oF r]; exact q⟩
  ·subst e'
   obtain ⟨its,r,pl,hz⟩:=I.tuple hx
   have hlen:=r.length
   exact truthy_tuple pl (by simp only [List.size_toArray]; omega) ⟨H,I.tok _,by rw [oF r]; exact q⟩
  ·subst e'
   obtain ⟨hz,hS,vs,r,m⟩:kvs.length ≤ sizeLine /\ (p == sysModules)=false /\ ∃ vs,KV kvs vs /\ s.heap.DictOf (sQ X.prog X.w) p vs:=I.hok p _ hx
   have hlen:kvs.length=vs.length:=Paired.length r
   exact wpAny_truthy_dict hS m (by omega) ⟨H,I.tok _,by rw [wQ r]; exact q⟩
 | _=>exact (show False from e).elim
theorem BO (ha:PE X a ta) (he:∀ whole,isTrue a X.env whole=(do let v <- whole; standAt a.pos; holding [v] (truthy v))) :
  PT X a (fun σ H Q=>ta σ H fun x H'=>∃ k,Fj X.K x H' k /\ Q k H'):=by
 intro pins s σ H Q I h
 exact isTrue_plain (cM (ha pins s σ H _ I h) fun v s1 ⟨x,H1,I1,r1,q1⟩=>Hf pins s1 σ H1 x v Q I1 r1 q1) (he _)
theorem xu:lJ X (binaryOp .Add) (fun x y H Q=>∃ i j,x=.str i /\ y=.str j /\ i.length + j.length ≤ sizeLine /\ Q (.str (i ++ j)) H):=by
 intro pins s σ H x y v u Q I rx ry h
 obtain ⟨i,j,rfl,rfl,hz,q⟩:=h
 obtain ⟨t,rfl⟩:=rx
 obtain ⟨t',rfl⟩:=ry
 exact add_str (fun t' tk=>⟨.str (i ++ j),H,I.tok _,⟨_,rfl⟩,q⟩) hz
theorem vals1 {x:V} {us:List Value} (r:Vals [x] us):∃ u,us=[u] /\ RelV x u:=by
 cases r with
 | cons r1 r2=>cases r2; exact ⟨_,rfl,r1⟩
theorem AJ:gH X (.builtin "abs") (fun xs H Q=>∃ i,xs=[.int i] /\ Q (.int (if i < 0 then -i else i)) H):=by
 intro pins s σ H xs us Q I r h
 obtain ⟨i,rfl,q⟩:=h
 obtain ⟨u,rfl,t,rfl⟩:=vals1 r
 exact call_abs_int fun u tk=>⟨.int (if i < 0 then -i else i),H,I.tok _,⟨_,rfl⟩,q⟩
end
open PySem PySem.Spec PyProof.Rows
structure wj (h:Heap) (x dx C:Addr) (mA:Str -> Option Value):Prop where
 obj:h.get? x=some (PySem.W.instObj C dx)
 ns:h.Ns1 dx mA
 ne:dx ≠ x
theorem zY {h:Heap} {dx:Addr} {mA:Str -> Option Value} (n:h.Ns1 dx mA):∃ od,h.get? dx=some od /\ ∀ name,PySem.W.lookIn name od=some (mA name):=by
 obtain ⟨o,es,ep,ho,hd,hk,_,hm⟩:=n
 refine ⟨o,ho,fun name=>?_⟩
 have e:=hm name
 unfold nsFind findBy at e
 rw [<- Array.find?_toList] at e
 unfold PySem.W.lookIn
 rw [hd]
 dsimp only
 split
 ·rename_i y q
  rw [q] at e
  exact congrArg some e
 ·rename_i q
  rw [q] at e
  have a:es.toList.any (·.refKey)=false:=by
   rw [List.any_eq_false]
   intro y hy
   obtain ⟨z,t,hkey⟩:=hk y (Array.mem_toList_iff.mp hy)
   simp [DictEntry.refKey,hkey]
  have a':¬ es.toList.any (·.refKey)=true:=by rw [a]; exact Bool.false_ne_true
  rw [if_neg a']
  exact congrArg some e
theorem wj.look {h:Heap} {x dx C:Addr} {mA:Str -> Option Value} (I:wj h x dx C mA):∃ od,PySem.W.InstAt h x (PySem.W.instObj C dx) C (some od) /\ ∀ name,PySem.W.lookIn name od=some (mA name):=
 let ⟨od,ho,hl⟩:=zY I.ns
 ⟨od,⟨I.obj,rfl,rfl,ho⟩,hl⟩
section
variable {prog:Program} {w:World} {A:Around} {E:Value -> Shared -> Prop} {s:Shared} {K:PySem.W.Frag} {x dx C f:Addr} {mA:Str -> Option Value} {name:Str} {v:Value}
theorem get_map {expr:Bool} {Q:Value -> Shared -> Prop} (X:K.In s.heap) (I:wj s.heap x dx C mA) (hg:PySem.W.plainGet K C name=true) (hh:PySem.W.hasDictIn K C=true)
  (ha:PySem.W.findIn K (.ref C) name=some none) (hv:mA name=some v) (hv':PySem.W.handedIn v=true) (h:Q v { s with toks:=s.toks + 1 }) :
  wpAny (model prog w) A (getAttr (.ref x) name expr) Q E s:=by
 obtain ⟨od,J,hl⟩:=I.look
 exact PySem.W.get_value X J (PySem.W.plainGet_of hg).1 (PySem.W.findObj_own hh ha rfl (by rw [hl,hv])) hv' h
theorem Bh {pl:Sem Bool} {Q:Value × List Value -> Shared -> Prop} (X:K.In s.heap) (I:wj s.heap x dx C mA) (hg:PySem.W.plainGet K C name=true)
  (hf:PySem.W.findIn K (.ref C) name=some (some (.ref f))) (ht:PySem.W.isFn K (.ref f)=true) (hv:mA name=none) (h:Q (.ref f,[.ref x]) s) :
  wpAny (model prog w) A (getMethod (.ref x) name pl) Q E s:=by
 obtain ⟨od,J,hl⟩:=I.look
 exact PySem.W.method_fn X J (PySem.W.plainGet_of hg).1 (PySem.W.plainGet_of hg).2 hf (beq_iff_eq.mp ht) (by show (PySem.W.lookIn name od).map (·.isSome)=some false; rw [hl,hv]; rfl) h
theorem D2 {ns:List Str} {Q:Unit -> Shared -> Prop} (X:K.In s.heap) (I:wj s.heap x dx C mA)
  (hs:PySem.W.findIn K (.ref C) "__setattr__" = some (some (.builtin "object.__setattr__"))) (hp:PySem.W.plainOver K C=true) (ht:PySem.W.takerIn K C name=some none) (hh:PySem.W.hasDictIn K C=true)
  (hw:PySem.Within mA ns) (hsz:ns.length ≤ sizeLine)
  (h:∀ h',wj h' x dx C (fun y=>if y=name then some v else mA y) -> Heap.SameBut dx s.heap h' -> Q () { s with heap:=h',toks:=s.toks + 2 }) :
  wpAny (model prog w) A (setAttr (.ref x) name v) Q E s:=by
 obtain ⟨od,J,hl⟩:=I.look
 refine PySem.W.set_plain X J hs (PySem.W.osa_open (s:={ s with toks:=s.toks + 1 }) (r:=none) X J hp ht fun b=>?_)
 obtain ⟨cd,hc,hd'⟩:=PySem.W.any_some hh
 have hx:s.heap.get? x=some ⟨.ref C,some dx,.plain,#[]⟩:=I.obj
 refine wpAny_bind (wpAny_pure (wpAny_bind (wpAny_bind (wpAny_loadPart hx (wpAny_bind (PySem.W.Looks.here (s:={ s with toks:=s.toks + 1 }) (PySem.W.looks_clsIn X hc) ?_))))))
 rw [hd']
 refine wpAny_pure (a:=some dx) (wpAny_bind (wpAny_pure (wpAny_bind ?_)))
 refine wpAny_nsSet1 (s:={ s with toks:=s.toks + 1 }) I.ns fun h' hn2 hs2=>?_
 obtain ⟨oD,esD,epD,hoD,hdD,hcD⟩:=hn2.count (PySem.Within.cons name v hw)
 refine wpAny_bind (wpAny_lookBehind hoD (by rw [hdD]; exact pastItsLine_dict (Nat.le_trans hcD (by rw [List.length_cons]; omega))) ?_)
 exact wpAny_pure (h _ ⟨(hs2.2 _ (Ne.symm I.ne)).trans I.obj,hn2,I.ne⟩ hs2)
theorem Bu {R:Result -> Shared -> Prop} {vs:List Value} {kw:List (Str × Value)} (X:K.In s.heap) (hm:PySem.W.makesIn K C=true)
  (hi:PySem.W.findIn K (.ref C) "__init__" = some (some (.ref f))) (hf:PySem.W.typeIn K (.ref f)=some (.type "function"))
  (h:codeAny (model prog w) (A.under (.builtin "type.__call__" ⟨.ref C :: vs,kw⟩)) (.call (.ref f) ⟨.ref (s.heap.objs.size + 1) :: vs,kw⟩) (PySem.W.InitBack (s.heap.objs.size + 1) R)
   { s with heap:=(s.heap.push PySem.W.emptyDict).push (PySem.W.instObj C s.heap.objs.size) }) :
  codeAny (model prog w) A (.call (.ref C) ⟨vs,kw⟩) R s:=by
 obtain ⟨hh,g,d,t,os⟩:=s
 exact PySem.W.make_core (PySem.W.makes_of X hm) (PySem.W.looks_findIn X hi) (fun self=>PySem.W.bind_fn X self hf) (.inl rfl) h
end
def iI (f:Str) (v:V):List (Str × V) -> List (Str × V)
 | []=>[(f,v)]
 | (g,x) :: r=>if g=f then (g,v) :: r else (g,x) :: iI f v r
theorem mP (f g:Str) (v:V):∀ fs:List (Str × V),(iI f v fs).lookup g=if g=f then some v else fs.lookup g
 | []=>by
  show List.lookup g [(f,v)]=_
  by_cases h:g=f
  ·have hb:(g == f)=true:=beq_iff_eq.mpr h
   simp only [List.lookup,hb,if_pos h]
  ·have hb:(g == f)=false:=beq_eq_false_iff_ne.mpr h
   simp only [List.lookup,hb,if_neg h]
 | (k,x) :: r=>by
  have ih:=mP f g v r
  rw [show iI f v ((k,x) :: r)=(if k=f then (k,v) :: r else (k,x) :: iI f v r) from rfl]
  by_cases hk:k=f
  ·rw [if_pos hk]
   by_cases h:g=k
   ·have hb:(g == k)=true:=beq_iff_eq.mpr h
    simp only [List.lookup,hb,if_pos (h.trans hk)]
   ·have hb:(g == k)=false:=beq_eq_false_iff_ne.mpr h
    simp only [List.lookup,hb,if_neg (fun e:g=f=>h (e.trans hk.symm))]
  ·rw [if_neg hk]
   by_cases h:g=k
   ·have hb:(g == k)=true:=beq_iff_eq.mpr h
    simp only [List.lookup,hb,if_neg (fun e:g=f=>hk (h.symm.trans e))]
   ·have hb:(g == k)=false:=beq_eq_false_iff_ne.mpr h
    simp only [List.lookup,hb]
    exact ih
theorem lV (f:Str) (v:V):∀ fs:List (Str × V),f ∈ (iI f v fs).map (·.1) /\ ∀ g,g ∈ fs.map (·.1) -> g ∈ (iI f v fs).map (·.1)
 | []=>⟨by simp [iI],fun g h=>by simp at h⟩
 | (k,x) :: r=>by
  obtain ⟨i1,i2⟩:=lV f v r
  rw [show iI f v ((k,x) :: r)=(if k=f then (k,v) :: r else (k,x) :: iI f v r) from rfl]
  by_cases hk:k=f
  ·rw [if_pos hk]
   subst hk
   exact ⟨by simp,fun g h=>by simpa using h⟩
  ·rw [if_neg hk]
   refine ⟨?_,fun g h=>?_⟩
   ·rw [List.map_cons]
    exact List.mem_cons_of_mem _ i1
   ·rw [List.map_cons] at h ⊢
    rcases List.mem_cons.mp h with e | e
    ·exact List.mem_cons.mpr (.inl e)
    ·exact List.mem_cons_of_mem _ (i2 g e)
theorem mO (f:Str) (v:V):∀ fs:List (Str × V),(iI f v fs).length ≤ fs.length + 1
 | []=>by simp [iI]
 | (k,x) :: r=>by
  have ih:=mO f v r
  rw [show iI f v ((k,x) :: r)=(if k=f then (k,v) :: r else (k,x) :: iI f v r) from rfl]
  by_cases hk:k=f
  ·rw [if_pos hk,List.length_cons,List.length_cons]; omega
  ·rw [if_neg hk,List.length_cons,List.length_cons]; omega
theorem pY.some_of {v:V} {o:Option Value} (r:pY (some v) o):∃ u,o=some u /\ RelV v u:=by
 cases o with
 | none=>exact (show False from r).elim
 | some u=>exact ⟨u,rfl,r⟩
theorem pY.none_of {o:Option Value} (r:pY none o):o=none:=by
 cases o with
 | none=>rfl
 | some u=>exact (show False from r).elim
theorem zS {v:V} {u:Value} (r:RelV v u):PySem.W.handedIn u=true:=by
 cases v with
 | non=>cases (show u=Value.none from r); rfl
 | bl b=>cases (show u=Value.bool b from r); rfl
 | int i=>obtain ⟨t,e⟩:=(show ∃ t,u=Value.int i t from r); cases e; rfl
 | str x=>obtain ⟨t,e⟩:=(show ∃ t,u=Value.str x t from r); cases e; rfl
 | byt b=>obtain ⟨t,e⟩:=(show ∃ t,u=Value.bytes b t from r); cases e; rfl
 | flt b=>obtain ⟨t,e⟩:=(show ∃ t,u=Value.float b t from r); cases e; rfl
 | ref a=>cases (show u=Value.ref a from r); rfl
 | ty n=>cases (show u=Value.type n from r); rfl
section
variable {P:Program} {w:World} {H H':Hp} {h h':Heap} {a C dx:Addr} {fs fs':List (Str × V)}
theorem rP (hok:mY P w H h) (e:H a=some (.ins C dx fs)):∃ mA,wj h a dx C mA /\ (∀ f,pY (fs.lookup f) (mA f)) /\ PySem.Within mA (fs.map (·.1)) /\ fs.length ≤ 1000 /\ H dx=some (.own a):=by
 obtain ⟨d,z,ne,ob,mA,n,r,q⟩:=(show fX P w H h a (.ins C dx fs) from hok a _ e)
 exact ⟨mA,⟨ob,n,ne⟩,r,q,z,d⟩
end
structure mX (K:PySem.W.Frag) (C:Addr):Prop where
 pg:PySem.W.plainGet K C Str.empty=true
 hd:PySem.W.hasDictIn K C=true
 po:PySem.W.plainOver K C=true
 sa:PySem.W.findIn K (.ref C) "__setattr__" = some (some (.builtin "object.__setattr__"))
theorem mX.get {K:PySem.W.Frag} {C:Addr} (c:mX K C) (f:Str):PySem.W.plainGet K C f=true:=c.pg
def fu (K:PySem.W.Frag) (C:Addr) (f:Str):Prop:=PySem.W.findIn K (.ref C) f=some none
theorem fu.taker {K:PySem.W.Frag} {C:Addr} {f:Str} (n:fu K C f):PySem.W.takerIn K C f=some none:=by
 unfold PySem.W.takerIn
 rw [show PySem.W.findIn K (.ref C) f=some none from n]
 rfl
structure LO (K:PySem.W.Frag) (C:Addr) (f:Str) (v:V) (u:Value):Prop where
 at_:PySem.W.findIn K (.ref C) f=some (some u)
 rel:RelV v u
 get:PySem.W.specialIn K u "__get__" = some none
 cp:PySem.W.copiedNames.contains f=false
structure Meth (K:PySem.W.Frag) (C:Addr) (m:Str) (f:Addr):Prop where
 at_:PySem.W.findIn K (.ref C) m=some (some (.ref f))
 fn:PySem.W.isFn K (.ref f)=true
 kp:PySem.W.keepIn K (.ref f)=true
section
variable {X:Cx} {pins:List (Addr × Obj)} {σ:St} {H:Hp} {s:Shared} {a C dx:Addr} {fs:List (Str × V)} {f:Str} {v:V} {A:Around} {E:Value -> Shared -> Prop}
theorem wN {b:Bool} {Q:Value -> Shared -> Prop} (I:Inv X pins σ H s) (e:H a=some (.ins C dx fs)) (c:mX X.K C) (n:fu X.K C f) (l:fs.lookup f=some v)
  (h:∀ u s',Inv X pins σ H s' -> RelV v u -> Q u s'):wpAny (model X.prog X.w) A (getAttr (.ref a) f b) Q E s:=by
 obtain ⟨mA,O,r,_,_,_⟩:=rP I.hok e
 obtain ⟨u,hu,ru⟩:=pY.some_of (v:=v) (o:=mA f) (by rw [<- l]; exact r f)
 exact get_map I.kIn O (c.get f) c.hd n hu (zS ru) (h u _ (I.tok _) ru)
theorem wO {m:Str} {g:Addr} {pl:Sem Bool} {Q:Value × List Value -> Shared -> Prop} (I:Inv X pins σ H s) (e:H a=some (.ins C dx fs)) (c:mX X.K C) (k:Meth X.K C m g) (l:fs.lookup m=none)
  (h:Q (.ref g,[.ref a]) s):wpAny (model X.prog X.w) A (getMethod (.ref a) m pl) Q E s:=by
 obtain ⟨mA,O,r,_,_,_⟩:=rP I.hok e
 have hn:mA m=none:=pY.none_of (by rw [<- l]; exact r m)
 exact Bh I.kIn O (c.get m) k.at_ k.fn hn h
theorem xM {y:V} {u:Value} {Q:Unit -> Shared -> Prop} (I:Inv X pins σ H s) (e:H a=some (.ins C dx fs)) (c:mX X.K C) (n:fu X.K C f) (hl:fs.length < 1000) (ry:RelV y u)
  (h:∀ s',Inv X pins σ (upd H a (.ins C dx (iI f y fs))) s' -> Q () s'):wpAny (model X.prog X.w) A (setAttr (.ref a) f u) Q E s:=by
 obtain ⟨mA,O,r,wi,_,ho⟩:=rP I.hok e
 have hz:(fs.map (·.1)).length ≤ sizeLine:=by rw [List.length_map,sizeLine_eq]; omega
 refine D2 I.kIn O c.sa c.po n.taker c.hd wi hz fun h' O' sb=>h _ ?_
 have hd:∃ o,h'.get? dx=some o:=let ⟨o,_,_,e',_⟩:=O'.ns; ⟨o,e'⟩
 refine I.write (x:=a) (e:=dx) (by rw [e]; exact True.intro) (.inr ho) (fun b q hb z=>(sb.2 b hb).trans z) hd ?_
 refine ⟨by rw [aJ O.ne]; exact ho,?_,O.ne,O'.obj,_,O'.ns,fun g=>?_,fun g hg=>?_⟩
 ·have:=mO f y fs; omega
 ·show pY ((iI f y fs).lookup g) (if g=f then some u else mA g)
  rw [mP]
  by_cases q:g=f
  ·rw [if_pos q,if_pos q]; exact ry
  ·rw [if_neg q,if_neg q]; exact r g
 ·by_cases q:g=f
  ·rw [q]; exact (lV f y fs).1
  ·refine (lV f y fs).2 g (wi g fun z=>hg ?_)
   show (if g=f then some u else mA g)=none
   rw [if_neg q]; exact z
theorem Inv.made (I:Inv X pins σ H s):Inv X pins σ (upd (upd H s.heap.objs.size (.own (s.heap.objs.size + 1))) (s.heap.objs.size + 1) (.ins C s.heap.objs.size []))
  { s with heap:=(s.heap.push PySem.W.emptyDict).push (PySem.W.instObj C s.heap.objs.size) }:=by
 have e1:(s.heap.push PySem.W.emptyDict).get? s.heap.objs.size=some PySem.W.emptyDict:=Heap.get?_push_size s.heap rfl
 have e2:((s.heap.push PySem.W.emptyDict).push (PySem.W.instObj C s.heap.objs.size)).get? (s.heap.objs.size + 1)=some (PySem.W.instObj C s.heap.objs.size):=by
  have:=Heap.get?_push_size (s.heap.push PySem.W.emptyDict) (o:=PySem.W.instObj C s.heap.objs.size) rfl
  rwa [Heap.size_push] at this
 have e3:(s.heap.push PySem.W.emptyDict).Ns s.heap.objs.size (fun _=>none):=⟨PySem.W.emptyDict,#[],_,e1,rfl,(fun e he=>absurd he (by simp)),fun _=>rfl⟩
 have I1:=I.laid (a:=s.heap.objs.size) (o:=.own (s.heap.objs.size + 1)) (h':=s.heap.push PySem.W.emptyDict) (t':=s.toks) (fun b u q=>Heap.get?_push_of_some _ q) (Nat.le_refl _) ⟨_,e1⟩
 refine I1.laid (a:=s.heap.objs.size + 1) (o:=.ins C s.heap.objs.size []) (t':=s.toks) (fun b u q=>Heap.get?_push_of_some _ q) (Nat.le_of_eq (Heap.size_push _ _)) ?_
 have ne:s.heap.objs.size ≠ s.heap.objs.size + 1:=Nat.ne_of_lt (Nat.lt_succ_self _)
 refine ⟨by rw [aJ ne,aR],Nat.zero_le _,ne,e2,fun _=>none,(Heap.Ns1.of_empty e3).at fun o q=>Heap.get?_push_of_some _ q,fun _=>True.intro,fun y hy=>absurd rfl hy⟩
theorem CD {prog:Program} {w:World} {env:Env} {e:Expr} {f:Str} {pos:Pos} {s:Shared} {Q:Value -> Shared -> Prop} (hb:attributeBase e f env (eval e env)=eval e env)
  (h:wpAny (model prog w) A (eval e env) (fun o s₁=>wpAny (model prog w) A (getAttr o f true) Q E s₁) E s):wpAny (model prog w) A (eval (.Attribute e f pos) env) Q E s:=
 Attribute_any_ h (by rw [arm_eval_Attribute,hb])
end
def KP (K:PySem.W.Frag) (ta:TE) (f:Str):TE:=fun σ H Q=>ta σ H fun x H1=>∃ a C dx fs v,x=.ref a /\ H1 a=some (.ins C dx fs) /\ mX K C /\ fu K C f /\ fs.lookup f=some v /\ Q v H1
def KI (K:PySem.W.Frag) (ta tv:TE) (f:Str):TS:=fun D σ H=>tv σ H fun y H1=>ta σ H1 fun x H2=>∃ a C dx fs,x=.ref a /\ H2 a=some (.ins C dx fs) /\ mX K C /\ fu K C f /\ fs.length < 1000 /\
 D.nx σ (upd H2 a (.ins C dx (iI f y fs)))
section
variable {X:Cx} {o e value:Expr} {f:Str} {pos pos' tpos:Pos} {ta tv:TE}
theorem GG (he:PE X e ta) (hb:attributeBase e f X.env (eval e X.env)=eval e X.env):PE X (.Attribute e f pos) (KP X.K ta f):=by
 intro pins s σ H Q I h
 refine CD hb (cM (he pins s σ H _ I h) fun u s1 ⟨x,H1,I1,rx,a,C,dx,fs,v,ex,ea,c,n,l,q⟩=>?_)
 subst ex
 obtain rfl:u=Value.ref a:=rx
 exact wN I1 ea c n l fun u' s2 I2 ru=>⟨v,H1,I2,ru,q⟩
theorem GS (ha:PE X o ta) (hv:PE X value tv) (hs:swapsWith value (some (.Attribute o f pos')) pos.line X.env=pure false):PS X (.Assign [.Attribute o f pos'] value pos) (KI X.K ta tv f):=by
 intro pins s σ H D I h
 refine plainObj_wpAny_Assign_Attribute (cM (hv pins s σ H _ I h) fun u s1 ⟨y,H1,I1,ry,q⟩=>cM (ha pins s1 σ H1 _ I1 q) fun ov s2 ⟨x,H2,I2,rx,a,C,dx,fs,ex,ea,c,n,l,q2⟩=>?_) hs
 subst ex
 obtain rfl:ov=Value.ref a:=rx
 exact xM I2 ea c n l ry fun s3 I3=>⟨σ,_,I3,q2⟩
end
section
variable {X:Cx} {pins:List (Addr × Obj)} {σ:St} {H:Hp} {s:Shared} {A:Around} {E:Value -> Shared -> Prop} {Q:Value -> Shared -> Prop} {c:Value} {b:Bool}
inductive nZ (K:PySem.W.Frag) (H:Hp):V -> Value -> Prop where
 | non:nZ K H .non (.type "NoneType")
 | bl (x:Bool):nZ K H (.bl x) (.type "bool")
 | int (i:Int):nZ K H (.int i) (.type "int")
 | str (x:Str):nZ K H (.str x) (.type "str")
 | flt (x:UInt64):nZ K H (.flt x) (.type "float")
 | lst {a:Addr} {xs:List V} (e:H a=some (.lst xs)):nZ K H (.ref a) (.type "list")
 | frz {a:Addr} {o:Obj} {xs:List V} (e:H a=some (.frz o (.lst xs))):nZ K H (.ref a) (.type "list")
 | tup {a:Addr} {xs:List V} (e:H a=some (.tup xs)):nZ K H (.ref a) (.type "tuple")
 | dK {a:Addr} {kvs:List (Key × V)} (e:H a=some (.dK kvs)):nZ K H (.ref a) (.type "dict")
 | dT {a:Addr} {kvs:List (List Key × V)} (e:H a=some (.dT kvs)):nZ K H (.ref a) (.type "dict")
 | ins {a C dx:Addr} {fs:List (Str × V)} (e:H a=some (.ins C dx fs)) (cl:mX K C) (ha:PySem.W.findIn K (.ref C) "__class__" = some (some (.builtin "object.__class__")))
   (hn:PySem.W.specialIn K (.builtin "object.__class__") "__get__" = some (some (.builtin "getset_descriptor.__get__"))) (htk:PySem.W.takesIn K (.builtin "object.__class__")=some true)
   (hm:PySem.W.mroIn K C (.type "object")=some true):nZ K H (.ref a) (.ref C)
end
open PySem PySem.Spec PyProof.Rows
structure dz (k:Nat) (A:Around):Prop where
 hd:A.handled=none
 dp:A.depth + 3 * k + 5 < recursionLimit
 un:A.units + 16 * k + 200 < cLine
theorem dz.mono {j k:Nat} {A:Around} (r:dz k A) (h:j ≤ k):dz j A:=⟨r.hd,by have:=r.dp; omega,by have:=r.un; omega⟩
theorem dz.deeper {k:Nat} {A:Around} (r:dz (k + 1) A) (env:Env):dz k (A.deeper env):=
 ⟨r.hd,by have:=r.dp; show A.depth + 1 + 3 * k + 5 < _; omega,by have:=r.un; show A.units + 3 + 16 * k + 200 < _; omega⟩
theorem dz.in1 {k:Nat} {A:Around} (r:dz (k + 1) A):dz k A.in1:=
 ⟨r.hd,by have:=r.dp; show A.depth + 3 * k + 5 < _; omega,by have:=r.un; show A.units + 1 + 16 * k + 200 < _; omega⟩
theorem xg {A:Around} {C:Addr} {us:List Value} {kw:List (Str × Value)}:(A.under (.builtin "type.__call__" ⟨.ref C :: us,kw⟩)).depth=A.depth + 1:=by
 first | rfl | simp [Around.under,Code.weight,Code.isCreation,Code.isGuard,Code.isCaller,Code.frames,Code.isFrame,guardIds]
theorem xh {A:Around} {C:Addr} {us:List Value} {kw:List (Str × Value)}:(A.under (.builtin "type.__call__" ⟨.ref C :: us,kw⟩)).units=A.units + 1:=by
 first | rfl | simp [Around.under,Code.cUnits,Code.frames,Code.isFrame]
theorem dz.make {k:Nat} {A:Around} (r:dz (k + 1) A) (C:Addr) (us:List Value) (kw:List (Str × Value)):dz k (A.under (.builtin "type.__call__" ⟨.ref C :: us,kw⟩)):=
 ⟨r.hd,by have:=r.dp; rw [xg]; omega,by have:=r.un; rw [xh]; omega⟩
theorem dz.depth {k:Nat} {A:Around} (r:dz k A):A.depth < recursionLimit:=by have:=r.dp; omega
theorem dz.units {k:Nat} {A:Around} (r:dz k A):A.units + 64 < cLine:=by have:=r.un; omega
def Jw:TA:=fun _ H Q=>Q [] H
def Js (ta:TE) (tr:TA):TA:=fun σ H Q=>ta σ H fun x H1=>tr σ H1 fun xs H2=>Q (x :: xs) H2
section
variable {X:Cx} {e:Expr} {es:List Expr} {te:TE} {t:TA} {pos:Pos}
theorem md:PA X [] Jw:=fun _ _ _ _ H Q I h=>Calls.spliced_nil ⟨[],H,I,.nil,h⟩
theorem jH (ha:PE X e te) (hr:PA X es t) (hs:starEach (e :: es) X.env=(false,eval e X.env) :: starEach es X.env:=by rfl):PA X (e :: es) (Js te t):=by
 intro pos pins s σ H Q I h
 rw [hs]
 show wpAny _ _ (spliced ((false,eval e X.env) :: backTo pos (starEach es X.env))) _ _ s
 refine Calls.spliced_cons (cM (ha pins s σ H _ I h) fun u s1 ⟨x,H1,I1,r1,q1⟩=>?_)
 exact cM (hr pos pins s1 σ H1 _ I1 q1) fun us s2 ⟨xs,H2,I2,r2,q2⟩=>⟨x :: xs,H2,I2,.cons r1 r2,q2⟩
def K1 (t:TA):TE:=fun σ H Q=>t σ H fun xs H1=>xs.length ≤ sizeLine /\ ∀ p,H1 p=none -> Q (.ref p) (upd H1 p (.tup xs))
def KS (t:TA):TE:=fun σ H Q=>t σ H fun xs H1=>xs.length ≤ sizeLine /\ ∀ p,H1 p=none -> Q (.ref p) (upd H1 p (.lst xs))
theorem GK {x1} (h:PA X es t):PE X (.Tuple es x1 pos) (K1 t):=by
 intro pins s σ H Q I hq
 refine wpAny_Tuple_spliced (cM (h pos pins s σ H _ I hq) fun us s1 ⟨xs,H1,I1,r,z,q⟩=>⟨by rw [<- r.length]; exact z,?_⟩)
 have hf:H1 s1.heap.objs.size=none:=I1.hok.fresh (Nat.le_refl _)
 refine ⟨.ref s1.heap.objs.size,upd H1 s1.heap.objs.size (.tup xs),I1.laid (t':=s1.toks) (fun b u e=>Heap.get?_push_of_some _ e) (Nat.le_refl _) ?_,rfl,q _ hf⟩
 exact ⟨z,us,r,⟨_,Heap.get?_push_size _ rfl,rfl,_,rfl⟩⟩
theorem xv (h:PA X es t):PE X (.List es pos) (KS t):=by
 intro pins s σ H Q I hq
 refine wpAny_List_spliced (cM (h pos pins s σ H _ I hq) fun us s1 ⟨xs,H1,I1,r,z,q⟩=>⟨by rw [<- r.length]; exact z,?_⟩)
 have hf:H1 s1.heap.objs.size=none:=I1.hok.fresh (Nat.le_refl _)
 refine ⟨.ref s1.heap.objs.size,upd H1 s1.heap.objs.size (.lst xs),I1.laid (t':=s1.toks) (fun b u e=>Heap.get?_push_of_some _ e) (Nat.le_refl _) ?_,rfl,q _ hf⟩
 exact ⟨z,us,0,r,Heap.get?_push_size _ rfl⟩
end
abbrev Sp:=List V -> Hp -> VK -> XK -> Prop
abbrev zG:=List Env -> Hp -> Shared -> XK -> Value -> Shared -> Prop
structure pW (P:Program) (w:World) (K:PySem.W.Frag) (mg:Str -> Option Value) (base:Heap) (A:Around) (outer:List Env) (s:Shared) (H:Hp):Prop where
 frames:A.frames=some outer
 mod:Mod K mg base
 bs:∀ b o,base.get? b=some o -> s.heap.get? b=some o /\ H b=none
 bsz:base.objs.size ≤ s.heap.objs.size
 funs:s.heap.FunFrames base outer
 frf:∀ b ∈ zQ outer,H b=none
 hok:mY P w H s.heap
 bare:AllBare s.gens
def CE (outer:List Env) (P:Program) (w:World) (H:Hp) (s:Shared) (Q:VK) (u:Value) (s':Shared):Prop:=
 ∃ v H',s'.os=s.os /\ AllBare s'.gens /\ Un (zQ outer) [] H H' s.heap s'.heap /\ mY P w H' s'.heap /\ RelV v u /\ Q v H'
def CR (CX:zG) (outer:List Env) (P:Program) (w:World) (H:Hp) (s:Shared) (Q:VK) (E:XK) (r:Result) (s':Shared):Prop:=
 match r with
 | .ok (.ret u)=>CE outer P w H s Q u s'
 | .ok _=>False
 | .error e=>CX outer H s E e s'
structure gb (P:Program) (w:World) (K:PySem.W.Frag) (mg:Str -> Option Value) (base:Heap) (CX:zG) (k:Nat) (f:Addr) (fd:FuncData) (ps:List Str) (sp:Sp):Prop where
 len:∀ vs H Q E,sp vs H Q E -> vs.length=ps.length
 run:∀ (A:Around) (outer:List Env) (s:Shared) (H:Hp) (args:Args) (us:List Value) (vs:List V) (Q:VK) (E:XK),dz k A -> pW P w K mg base A outer s H -> BindsTo s fd args (ps.zip us) -> Vals vs us -> sp vs H Q E ->
  codeAny (model P w) A (.call (.ref f) args) (CR CX outer P w H s Q E) s
theorem gb.mono {P:Program} {w:World} {K:PySem.W.Frag} {mg:Str -> Option Value} {base:Heap} {CX:zG} {j k:Nat} {f:Addr} {fd:FuncData} {ps:List Str} {sp:Sp} (F:gb P w K mg base CX j f fd ps sp) (h:j ≤ k) :
  gb P w K mg base CX k f fd ps sp:=⟨F.len,fun A outer s H args us vs Q E hr=>F.run A outer s H args us vs Q E (hr.mono h)⟩
theorem gb.imp {P:Program} {w:World} {K:PySem.W.Frag} {mg:Str -> Option Value} {base:Heap} {CX:zG} {k:Nat} {f:Addr} {fd:FuncData} {ps:List Str} {sp sp':Sp} (F:gb P w K mg base CX k f fd ps sp)
  (h:∀ vs H Q E,sp' vs H Q E -> sp vs H Q E):gb P w K mg base CX k f fd ps sp':=
 ⟨fun vs H Q E q=>F.len vs H Q E (h _ _ _ _ q),fun A outer s H args us vs Q E hr he hb hv hs=>F.run A outer s H args us vs Q E hr he hb hv (h _ _ _ _ hs)⟩
theorem pW.make {P:Program} {w:World} {K:PySem.W.Frag} {mg:Str -> Option Value} {base:Heap} {A:Around} {outer:List Env} {s:Shared} {H:Hp} (e:pW P w K mg base A outer s H) (C:Addr) (us:List Value) (kw:List (Str × Value)) :
  pW P w K mg base (A.under (.builtin "type.__call__" ⟨.ref C :: us,kw⟩)) outer s H:=⟨by first | exact e.frames | (simpa [Around.under,Code.envs,Code.isFrame,pushEnvs] using e.frames),e.mod,e.bs,e.bsz,e.funs,e.frf,e.hok,e.bare⟩
theorem pW.in1 {P:Program} {w:World} {K:PySem.W.Frag} {mg:Str -> Option Value} {base:Heap} {A:Around} {outer:List Env} {s:Shared} {H:Hp} (e:pW P w K mg base A outer s H) :
  pW P w K mg base A.in1 outer s H:=⟨e.frames,e.mod,e.bs,e.bsz,e.funs,e.frf,e.hok,e.bare⟩
section
variable {X:Cx} {pins:List (Addr × Obj)} {σ:St} {H:Hp} {s s':Shared}
theorem Inv.env0 (I:Inv X pins σ H s):pW X.prog X.w X.K X.mg X.base X.A X.stack s H:=
 ⟨I.ok.frames,I.ok.mod,I.bs,Nat.le_trans I.ok.bsz I.sz,I.stack,I.stkFree,I.hok,I.bare⟩
theorem Inv.after {Q:VK} {u:Value} (I:Inv X pins σ H s) (h:CE X.stack X.prog X.w H s Q u s'):EP X pins σ Q u s':=by
 obtain ⟨v,H',os,bare,un,hok,r,q⟩:=h
 obtain ⟨hh,g,d,t,os'⟩:=s'
 obtain rfl:os'=s.os:=os
 exact ⟨v,H',I.call (h':=hh) (g':=g) (d':=d) (t':=t) (ch:=[]) un hok bare (fun b z=>absurd z (by simp)),r,q⟩
end
def Jr (sp:Sp) (dvs:List V) (E:XK) (t:TA):TE:=fun σ H Q=>t σ H fun vs H1=>sp (vs ++ dvs) H1 Q E
def Fd (C:Addr) (m:Str) (sp:Sp) (dvs:List V) (E:XK) (ta:TE) (t:TA):TE:=fun σ H Q=>ta σ H fun x H1=>∃ a dx fs,x=.ref a /\ H1 a=some (.ins C dx fs) /\ fs.lookup m=none /\
 t σ H1 fun vs H2=>sp (x :: (vs ++ dvs)) H2 Q E
def Ju (C:Addr) (sp:Sp) (dvs:List V) (E:XK) (t:TA):TE:=fun σ H Q=>t σ H fun vs H1=>∀ x dx,H1 x=none -> H1 dx=none -> dx ≠ x ->
 sp (.ref x :: (vs ++ dvs)) (upd (upd H1 dx (.own x)) x (.ins C dx [])) (fun v H2=>v=.non /\ Q (.ref x) H2) E
def Binds (K:PySem.W.Frag) (fd:FuncData) (ps:List Str) (ds:List Value):Prop:=
 ∀ (s:Shared) (us:List Value),K.In s.heap -> (us ++ ds).length=ps.length -> BindsTo s fd ⟨us,[]⟩ (ps.zip (us ++ ds))
theorem Binds.all {K:PySem.W.Frag} {fd:FuncData} {ps:List Str} (h:∀ us:List Value,us.length=ps.length -> bindArgs fd ⟨us,[]⟩=pure (ps.zip us)):Binds K fd ps []:=fun s us _ hl=>by
 rw [List.append_nil] at hl ⊢
 exact .of_eq (h us hl)
def Passes (CX:zG) (X:Cx) (E:XK):Prop:=∀ (pins:List (Addr × Obj)) (σ:St) (H:Hp) (s:Shared) (e:Value) (s':Shared),Inv X pins σ H s -> CX X.stack H s E e s' -> X.xe e s'
section
variable {X:Cx} {CX:zG} {k:Nat} {f C:Addr} {fd:FuncData} {ps:List Str} {sp:Sp} {dvs:List V} {ds:List Value} {E:XK} {x m:Str} {p pos apos:Pos} {e o:Expr} {es:List Expr} {ta:TE} {t:TA}
theorem BR {pins:List (Addr × Obj)} {σ:St} {H:Hp} {s:Shared} {Q:VK} {us:List Value} {vs:List V} (F:gb X.prog X.w X.K X.mg X.base CX k f fd ps sp) (hr:dz k X.A) (hb:Binds X.K fd ps ds) (hd:Vals dvs ds) (hx:Passes CX X E)
  (I:Inv X pins σ H s) (r:Vals vs us) (h:sp (vs ++ dvs) H Q E):wpAny (model X.prog X.w) X.A (call (.ref f) us) (EP X pins σ Q) X.xe s:=by
 have r2:Vals (vs ++ dvs) (us ++ ds):=r.append hd
 have hl:(us ++ ds).length=ps.length:=by rw [<- r2.length]; exact F.len _ _ _ _ h
 refine wpAny_call (codeAny_mono (F.run X.A X.stack s H ⟨us,[]⟩ (us ++ ds) (vs ++ dvs) Q E hr I.env0 (hb s us I.kIn hl) r2 h) fun r s' hq=>?_)
 cases r with
 | error e=>exact hx pins σ H s e s' I hq
 | ok fl =>
  cases fl with
  | ret u=>exact I.after hq
  | next=>exact False.elim hq
  | brk=>exact False.elim hq
  | cont=>exact False.elim hq
theorem yU (F:gb X.prog X.w X.K X.mg X.base CX k f fd ps sp) (hr:dz k X.A) (hg:Gl X x) (hm:X.mg x=some (.ref f)) (hk:PySem.W.keepIn X.K (.ref f)=true) (hb:Binds X.K fd ps ds) (hd:Vals dvs ds) (hx:Passes CX X E)
  (ha:PA X (e :: es) t) (hdb:(x == ("__debug__" : Str))=false:=by decide) (he:starEach (e :: es) X.env=(false,eval e X.env) :: starEach es X.env:=by rfl) (hpl:(backTo pos (starEach es X.env)).any (·.1)=false:=by rfl) :
  PE X (.Call (.Name x p) (e :: es) [] pos) (Jr sp dvs E t):=by
 intro pins s σ H Q I h
 refine wpAny_Call_Name_kw (sM I hg hm ?_ hdb)
 refine PySem.W.callWith_K (h₀:=X.base) I.ok.mod.kin hk (cM (ha pos pins s σ H _ I h) fun us s1 ⟨vs,H1,I1,r,q⟩=>⟨I1.kIn,?_⟩) he hpl
 exact BR F hr hb hd hx I1 r q
theorem vC {pl:Sem Bool} (he:PE X o ta) (c:mX X.K C) (hm:Meth X.K C m f) (F:gb X.prog X.w X.K X.mg X.base CX k f fd ps sp) (hr:dz k X.A) (hb:Binds X.K fd ps ds) (hd:Vals dvs ds) (hx:Passes CX X E)
  (ht:eval (.Call (.Attribute o m apos) [] [] pos) X.env=(do
   let ov <- eval o X.env
   standAt apos.atName
   let (f,first) <- holding [ov] (getMethod ov m pl)
   callWith pos f first (backTo pos (starEach [] X.env)) (backToKw pos (keywordEach [] X.env))):=by rfl) :
  PE X (.Call (.Attribute o m apos) [] [] pos) (Fd C m sp dvs E ta Jw):=by
 intro pins s σ H Q I h
 refine PySem.W.methodCall_KW (pl:=pl) (cM (he pins s σ H _ I h) fun u s1 ⟨x,H1,I1,rx,a,dx,fs,ex,ea,l,q⟩=>?_) ht
 subst ex
 obtain rfl:u=Value.ref a:=rx
 refine wO I1 ea c hm l ?_
 exact PySem.W.callWith_K0 (first:=[.ref a]) I1.kIn hm.kp (BR (us:=[.ref a]) (vs:=[.ref a]) F hr hb hd hx I1 (.cons rfl .nil) q)
structure Mk (K:PySem.W.Frag) (C f:Addr):Prop where
 makes:PySem.W.makesIn K C=true
 init:PySem.W.findIn K (.ref C) "__init__" = some (some (.ref f))
 fn:PySem.W.isFn K (.ref f)=true
 kp:PySem.W.keepIn K (.ref C)=true
theorem BS {pins:List (Addr × Obj)} {σ:St} {H:Hp} {s:Shared} {Q:VK} {us:List Value} {vs:List V} (M:Mk X.K C f) (F:gb X.prog X.w X.K X.mg X.base CX k f fd ps sp) (hr:dz (k + 1) X.A) (hb:Binds X.K fd ps ds) (hd:Vals dvs ds)
  (hx:Passes CX X E) (I:Inv X pins σ H s) (r:Vals vs us)
  (h:∀ x dx,H x=none -> H dx=none -> dx ≠ x -> sp (.ref x :: (vs ++ dvs)) (upd (upd H dx (.own x)) x (.ins C dx [])) (fun v H2=>v=.non /\ Q (.ref x) H2) E) :
  wpAny (model X.prog X.w) X.A (call (.ref C) us) (EP X pins σ Q) X.xe s:=by
 have hq:=h (s.heap.objs.size + 1) s.heap.objs.size (I.hok.fresh (Nat.le_succ _)) (I.hok.fresh (Nat.le_refl _)) (Nat.ne_of_lt (Nat.lt_succ_self _))
 have I2:=Inv.made (C:=C) I
 have r2:Vals (V.ref (s.heap.objs.size + 1) :: (vs ++ dvs)) (Value.ref (s.heap.objs.size + 1) :: (us ++ ds)):=.cons rfl (r.append hd)
 have hl:(Value.ref (s.heap.objs.size + 1) :: us ++ ds).length=ps.length:=by
  have e:=r2.length
  rw [F.len _ _ _ _ hq] at e
  exact e.symm
 refine wpAny_call (Bu (f:=f) I.kIn M.makes M.init (beq_iff_eq.mp M.fn) (codeAny_mono (F.run _ X.stack _ _ ⟨Value.ref (s.heap.objs.size + 1) :: us,[]⟩ (Value.ref (s.heap.objs.size + 1) :: (us ++ ds)) _ _ E (hr.make C us [])
  (I2.env0.make C us []) (hb _ (Value.ref (s.heap.objs.size + 1) :: us) I2.kIn hl) r2 hq) fun r s' hq'=>?_))
 cases r with
 | error e=>exact hx pins σ _ _ e s' I2 hq'
 | ok fl =>
  cases fl with
  | ret u =>
   obtain ⟨v,H',I3,rv,ev,q3⟩:=I2.after hq'
   subst ev
   exact ⟨rv,⟨V.ref (s.heap.objs.size + 1),H',I3,rfl,q3⟩⟩
  | next=>exact False.elim hq'
  | brk=>exact False.elim hq'
  | cont=>exact False.elim hq'
theorem DK (M:Mk X.K C f) (F:gb X.prog X.w X.K X.mg X.base CX k f fd ps sp) (hr:dz (k + 1) X.A) (hg:Gl X x) (hm:X.mg x=some (.ref C)) (hb:Binds X.K fd ps ds) (hd:Vals dvs ds) (hx:Passes CX X E)
  (ha:PA X (e :: es) t) (hdb:(x == ("__debug__" : Str))=false:=by decide) (he:starEach (e :: es) X.env=(false,eval e X.env) :: starEach es X.env:=by rfl) (hpl:(backTo pos (starEach es X.env)).any (·.1)=false:=by rfl) :
  PE X (.Call (.Name x p) (e :: es) [] pos) (Ju C sp dvs E t):=by
 intro pins s σ H Q I h
 refine wpAny_Call_Name_kw (sM I hg hm ?_ hdb)
 refine PySem.W.callWith_K (h₀:=X.base) I.ok.mod.kin M.kp (cM (ha pos pins s σ H _ I h) fun us s1 ⟨vs,H1,I1,r,q⟩=>⟨I1.kIn,?_⟩) he hpl
 exact BS M F hr hb hd hx I1 r q
end
section
variable {X:Cx} {CX:zG} {k:Nat} {f C:Addr} {fd:FuncData} {ps ks:List Str} {sp:Sp} {E:XK} {x m:Str} {p pos apos kpos:Pos} {e o:Expr} {es:List Expr} {kws:List Keyword} {te ta:TE} {t tk:TA} {nm:Option Str}
structure J7 (K:PySem.W.Frag) (fd:FuncData) (ps ks:List Str) (g:List Value -> List Value -> List Value) (gV:List V -> List V -> List V):Prop where
 to:∀ (s:Shared) (us ws:List Value),K.In s.heap -> (g us ws).length=ps.length -> BindsTo s fd ⟨us,ks.zip ws⟩ (ps.zip (g us ws))
 rel:∀ {vs:List V} {us:List Value} {zs:List V} {ws:List Value},Vals vs us -> Vals zs ws -> Vals (gV vs zs) (g us ws)
variable {g:List Value -> List Value -> List Value} {gV:List V -> List V -> List V}
end
structure aQ (N P:List Str) (sc:Scope):Prop where
 kind:sc.kind=.function
 co:sc.isCoroutine=false
 gen:sc.isGenerator=false
 nd:N.Nodup
 pre:N.take P.length=P
 par:∀ x ∈ P,sc.names.lookup x=some .local \/ sc.names.lookup x=some .cell
 nofree:∀ y ∈ sc.names,y.2 ≠ .free
theorem qy {kindOf:Str -> Option NameKind} {x:Str}:∀ {binds:List (Str × Value)} {m:Str -> Option Value},(∀ v,(x,v) ∉ binds) -> bindL kindOf binds m x=m x
 | [],_,_=>rfl
 | (n,v) :: r,m,h=>by
  unfold bindL
  rw [qy fun w hw=>h w (List.mem_cons_of_mem _ hw)]
  split
  ·have:x ≠ n:=by rintro rfl; exact h v List.mem_cons_self
   simp [this]
  ·rfl
theorem qw {kindOf:Str -> Option NameKind} {x:Str}:∀ {binds:List (Str × Value)} {m:Str -> Option Value},(∀ v,(x,v) ∉ binds) -> bindC kindOf binds m x=m x
 | [],_,_=>rfl
 | (n,v) :: r,m,h=>by
  unfold bindC
  rw [qw fun w hw=>h w (List.mem_cons_of_mem _ hw)]
  split
  ·rfl
  ·have:x ≠ n:=by rintro rfl; exact h v List.mem_cons_self
   simp [this]
theorem qx {kindOf:Str -> Option NameKind} {x:Str} {v:Value}:∀ {P:List Str} {vs:List Value} {i:Nat} {m:Str -> Option Value},P.Nodup -> P[i]? = some x -> vs[i]? = some v -> kindOf x=some .local ->
  bindL kindOf (P.zip vs) m x=some v
 | [],_,_,_,_,h,_,_=>by simp at h
 | _ :: _,[],_,_,_,_,h,_=>by simp at h
 | p :: P,w :: vs,0,m,nd,h1,h2,hk=>by
  simp at h1 h2; subst h1; subst h2
  show bindL kindOf ((p,w) :: P.zip vs) m p=_
  unfold bindL
  rw [qy fun v hv=>(List.nodup_cons.mp nd).1 (List.of_mem_zip hv).1,if_pos hk]
  simp
 | p :: P,w :: vs,i + 1,m,nd,h1,h2,hk=>by
  show bindL kindOf ((p,w) :: P.zip vs) m x=_
  unfold bindL
  exact qx (i:=i) (List.nodup_cons.mp nd).2 (by simpa using h1) (by simpa using h2) hk
theorem qu {kindOf:Str -> Option NameKind} {x:Str} {v:Value}:∀ {P:List Str} {vs:List Value} {i:Nat} {m:Str -> Option Value},P.Nodup -> P[i]? = some x -> vs[i]? = some v -> kindOf x ≠ some .local ->
  bindC kindOf (P.zip vs) m x=some v
 | [],_,_,_,_,h,_,_=>by simp at h
 | _ :: _,[],_,_,_,_,h,_=>by simp at h
 | p :: P,w :: vs,0,m,nd,h1,h2,hk=>by
  simp at h1 h2; subst h1; subst h2
  show bindC kindOf ((p,w) :: P.zip vs) m p=_
  unfold bindC
  rw [qw fun v hv=>(List.nodup_cons.mp nd).1 (List.of_mem_zip hv).1,if_neg hk]
  simp
 | p :: P,w :: vs,i + 1,m,nd,h1,h2,hk=>by
  show bindC kindOf ((p,w) :: P.zip vs) m x=_
  unfold bindC
  exact qu (i:=i) (List.nodup_cons.mp nd).2 (by simpa using h1) (by simpa using h2) hk
def start (N:List Str) (vs:List V):St:=vs.map some ++ List.replicate (N.length - vs.length) none
def m5 (CX:zG) (P:Program) (w:World) (K:PySem.W.Frag) (mg:Str -> Option Value) (base:Heap) (N:List Str) (qual:Str) (scope:Scope) (f:Addr) (cd:Value) (A:Around) (outer:List Env) (s:Shared) (H:Hp) (E:XK):Cx where
 prog:=P
 w:=w
 K:=K
 mg:=mg
 base:=base
 A:=A.deeper (envOfC qual scope s.heap.objs.size f cd)
 N:=N
 s₀:=s
 H₀:=H
 env:=envOfC qual scope s.heap.objs.size f cd
 outer:=outer
 stack:=envOfC qual scope s.heap.objs.size f cd :: outer
 ex:=[]
 calm:=true
 fn:=fun _=>true
 pn:=[]
 xe:=fun e s'=>wpAny (model P w) (A.deeper (envOfC qual scope s.heap.objs.size f cd)) (leaving (envOfC qual scope s.heap.objs.size f cd) e) (fun _ s''=>CX outer H s E e s'') (fun e' s''=>CX outer H s E e' s'') s'
theorem uw {sc:Scope} {n:Nat} {x:Str} (h:sc.names.lookup x=some .cell):∃ c,(cellsFrom n sc.names []).lookup x=some c:=by
 have q:=PySem.W.cellsFrom_some sc.names n [] (.inl h)
 exact Option.isSome_iff_exists.mp q
theorem zV {CX:zG} {P:Program} {w:World} {K:PySem.W.Frag} {mg:Str -> Option Value} {base:Heap} {N ps:List Str} {qual:Str} {scope:Scope} {f:Addr} {cd:Value} {A:Around} {outer:List Env} {s s1:Shared} {H:Hp} {E:XK} {us:List Value} {vs:List V}
  (S:aQ N ps scope) (hd:A.handled=none) (e0:pW P w K mg base A outer s H) (hl:vs.length=ps.length) (r:Vals vs us)
  (x:InCallC s s.heap.objs.size (bindL (envOfC qual scope s.heap.objs.size f cd).kindOf (ps.zip us) fun _=>none) (cellsFrom (s.heap.objs.size + 1) scope.names []) (bindC (envOfC qual scope s.heap.objs.size f cd).kindOf (ps.zip us) fun _=>none) s1) :
  Inv (m5 CX P w K mg base N qual scope f cd A outer s H E) [] (start N vs) H s1:=by
 have hpl:ps.length ≤ N.length:=by have:=congrArg List.length S.pre; rw [List.length_take] at this; omega
 obtain ⟨h1,tk,rfl,hk⟩:=x.done
 have noA:∀ b:Addr,b ∉ (m5 CX P w K mg base N qual scope f cd A outer s H E).ex:=fun b z=>absurd (show b ∈ ([]:List Addr) from z) (by simp)
 refine ⟨⟨e0.mod,S.kind,rfl,rfl,Nat.le_refl _,fun y z c h1 h2=>?_,fun y hy=>?_,fun y c _ h=>?_,fun _=>hd,Around.frames_deeper e0.frames,.inr ⟨rfl,rfl⟩,fun b z=>absurd z (noA b),e0.bs,e0.bsz,fun b _ _=>noA b,fun b z=>absurd z (noA b),e0.funs,e0.frf⟩,
  rfl,e0.bare,Un.kept hk,⟨_,x.toInCall.ns,fun i y v h1 h2 h3=>?_⟩,fun y c h=>⟨_,x.cell y c h⟩,e0.hok.fresh (Nat.le_refl _),fun y c h=>?_,fun p hp=>absurd (show p ∈ ([]:List (Addr × Obj)) from hp) (by simp),e0.hok.kept hk,?_⟩
 ·exact name_of_addr x.apart (PySem.mem_of_lookup h1) (PySem.mem_of_lookup h2)
 ·have hy:scope.names.lookup y=some .cell \/ scope.names.lookup y=some .free:=hy
  rcases hy with hy | hy
  ·exact uw hy
  ·exact absurd rfl (S.nofree _ (PySem.mem_of_lookup hy))
 ·exact Nat.le_of_lt (x.above y c (PySem.mem_of_lookup h))
 ·have hi:i < vs.length:=by
   unfold start at h2
   by_cases hi:i < vs.length
   ·exact hi
   ·rw [List.getElem?_append_right (by simpa using hi)] at h2
    rw [List.getElem?_replicate] at h2
    split at h2 <;> cases h2
  have ha:vs[i]? = some v:=by
   unfold start at h2
   rw [List.getElem?_append_left (by simpa using hi),List.getElem?_map] at h2
   cases e:vs[i]? with
   | none=>rw [e] at h2; cases h2
   | some a=>rw [e] at h2; cases h2; rfl
  obtain ⟨u,hu,rv⟩:=r.get ha
  have hp:ps[i]? = some y:=by
   rw [<- S.pre,List.getElem?_take_of_lt (by omega)]; exact h1
  have ndP:ps.Nodup:=by rw [<- S.pre]; exact S.nd.sublist (List.take_sublist _ _)
  refine ⟨u,rv,?_⟩
  rcases S.par y (List.mem_of_getElem? hp) with k | k
  ·exact .inl ⟨k,qx ndP hp hu k⟩
  ·obtain ⟨c,e⟩:=uw (n:=s.heap.objs.size + 1) k
   refine .inr ⟨.inl k,c,e,?_⟩
   have q:=x.cell y c e
   rw [qu ndP hp hu (by show scope.names.lookup y ≠ _; rw [k]; decide)] at q
   exact q
 ·exact e0.hok.fresh (Nat.le_of_lt (x.above y c (PySem.mem_of_lookup h)))
 ·unfold start
  show _=N.length
  rw [List.length_append,List.length_map,List.length_replicate]
  omega
theorem Im {CX:zG} {P:Program} {w:World} {K:PySem.W.Frag} {mg:Str -> Option Value} {base:Heap} {k:Nat} {f:Addr} {name qual:Str} {params:Arguments} {body:List Stmt} {scope:Scope} {dV kV doc pm cdv ct oc:Value} {an od:Option Addr}
  {osl:Array (Option Value)} {N ps:List Str} {sp:Sp} (lk:K.lookup f=some ⟨oc,od,.func (PySem.W.fnOf name qual params body scope dV kV doc pm an cdv ct),osl⟩) (hcd:PySem.W.codeIn K cdv qual=true) (S:aQ N ps scope)
  (len:∀ vs H Q E,sp vs H Q E -> vs.length=ps.length)
  (hbody:∀ (A:Around) (outer:List Env) (s:Shared) (H:Hp) (vs:List V) (Q:VK) (E:XK),dz k (A.deeper (envOfC qual scope s.heap.objs.size f cdv)) -> sp vs H Q E ->
   ∃ t,ir (m5 CX P w K mg base N qual scope f cdv A outer s H E) body t /\ t { nx:=fun _ H'=>Q .non H',rt:=Q } (start N vs) H) :
  gb P w K mg base CX (k + 1) f (PySem.W.fnOf name qual params body scope dV kV doc pm an cdv ct) ps sp:=by
 refine ⟨len,fun A outer s H args us vs Q E hr e0 hb r hsp=>?_⟩
 have hl:=len _ _ _ _ hsp
 have KX:K.In s.heap:=e0.mod.kin.keeps fun b o e=>(e0.bs b o e).1
 have lim:s.heap.NoLimit:=e0.mod.nolimit.keeps fun b o e=>(e0.bs b o e).1
 have hkind:∀ y ∈ ps.zip us,scope.names.lookup y.1=some .local \/ (scope.names.lookup y.1=some .cell /\ ((cellsFrom (s.heap.objs.size + 1) scope.names []).lookup y.1).isSome=true):=fun ⟨n,v⟩ hy=>by
  rcases S.par n (List.of_mem_zip hy).1 with q | q
  ·exact .inl q
  ·exact .inr ⟨q,PySem.W.cellsFrom_some _ _ _ (.inl q)⟩
 refine codeAny_call_function hr.depth (KX _ _ lk) rfl S.co S.gen rfl (PySem.W.codeRec_of KX hcd) (hb _ _ _ _ ?_)
 refine wpAny_newFunctionEnv_cells S.kind hkind fun env he s1 x=>?_
 subst he
 refine ⟨lim.keeps x.toInCall.keep,codeAny_func ?_⟩
 obtain ⟨t,ht,hq⟩:=hbody A outer s H vs Q E (hr.deeper _) hsp
 have I:Inv (m5 CX P w K mg base N qual scope f cdv A outer s H E) [] (start N vs) H s1:=zV S hr.hd e0 hl r x
 refine wpAny_mono (ht [] s1 (start N vs) H _ I hq) (fun fl s' hs=>?_) fun e s' hs=>hs
 have fin:∀ {σ':St} {H':Hp} {v:V} {u:Value},Inv (m5 CX P w K mg base N qual scope f cdv A outer s H E) [] σ' H' s' -> RelV v u -> Q v H' -> CE outer P w H s Q u s':=
  fun {σ' H' v u} J rv q=>⟨v,H',J.os,J.bare,J.base,J.hok,rv,q⟩
 cases fl with
 | ret u =>
  obtain ⟨v,σ',H',J,rv,q⟩:=hs
  exact fin J rv q
 | next =>
  obtain ⟨σ',H',J,q⟩:=hs
  exact fin (v:=V.non) (u:=Value.none) J rfl q
 | brk =>
  obtain ⟨_,_,_,q⟩:=hs
  exact False.elim q
 | cont =>
  obtain ⟨_,_,_,q⟩:=hs
  exact False.elim q
open PySem PySem.Spec PyProof.Rows
section
variable {X:Cx} {x:Str} {p pos:Pos} {e:Expr} {es:List Expr} {t:TA} {id T:String} {r:List V -> Hp -> VK -> Prop}
def Ld (r:List V -> Hp -> VK -> Prop) (t:TA):TE:=fun σ H Q=>t σ H fun vs H1=>r vs H1 Q
theorem BH (hc:gH X (.builtin id) r) (hg:Gl X x) (hm:X.mg x=none) (hv:bootBuiltins x=some (.builtin id)) (ha:PA X (e :: es) t) (hn:x ≠ "__name__" := by decide) (hdb:(x == ("__debug__" : Str))=false:=by decide)
  (he:starEach (e :: es) X.env=(false,eval e X.env) :: starEach es X.env:=by rfl) (hpl:(backTo pos (starEach es X.env)).any (·.1)=false:=by rfl):PE X (.Call (.Name x p) (e :: es) [] pos) (Ld r t):=by
 intro pins s σ H Q I h
 refine wpAny_Call_Name_kw (lW I hg hm hv ?_ hn hdb)
 exact PyProof.Rows.callWith_builtin1 (cM (ha pos pins s σ H _ I h) fun us s1 ⟨vs,H1,I1,r1,q1⟩=>hc pins s1 σ H1 vs us Q I1 r1 q1) he hpl
theorem me (hc:gH X (.type T) r) (hg:Gl X x) (hm:X.mg x=none) (hv:bootBuiltins x=some (.type T)) (ha:PA X (e :: es) t) (hn:x ≠ "__name__" := by decide) (hdb:(x == ("__debug__" : Str))=false:=by decide)
  (he:starEach (e :: es) X.env=(false,eval e X.env) :: starEach es X.env:=by rfl) (hpl:(backTo pos (starEach es X.env)).any (·.1)=false:=by rfl):PE X (.Call (.Name x p) (e :: es) [] pos) (Ld r t):=by
 intro pins s σ H Q I h
 refine wpAny_Call_Name_kw (lW I hg hm hv ?_ hn hdb)
 exact PyProof.Rows.callWith_type1 (cM (ha pos pins s σ H _ I h) fun us s1 ⟨vs,H1,I1,r1,q1⟩=>hc pins s1 σ H1 vs us Q I1 r1 q1) he hpl
end
end L2
namespace HT
open PySem PyProof.Rows
section
open PySem.SeqAt
open PySem.AutoSeq1 (wpAny_loadPart')
open PySem.MeetsSeq PySem.MeetsSeq2 PySem.MeetsSeq3
end
section
variable {prog:Program} {w:World} {A:Around} {E:Value -> Shared -> Prop} {s:Shared}
theorem CI {t b:Addr} {vs ws:List Value} {Q:Value -> Shared -> Prop} (ht:IsTup s.heap t vs.toArray) (hb:IsTup s.heap b ws.toArray) (hv:vs ≠ [])
  (h1:ws=[] -> Q (.ref t) s) (h2:ws ≠ [] -> Q (.ref s.heap.objs.size) { s with heap:=s.heap.push { cls:=.type "tuple", data:=.seq (vs ++ ws).toArray } })
  (hsz:vs.length + ws.length ≤ sizeLine):wpAny (model prog w) A (binaryOp .Add (.ref t) (.ref b)) Q E s:=by
 obtain ⟨⟨cls,dd,data,sl⟩,ho,hc,n,hd⟩:=id ht
 obtain ⟨⟨cls2,dd2,data2,sl2⟩,ho2,hc2,n2,hd2⟩:=id hb
 simp only at hc hd hc2 hd2
 subst hc hd hc2 hd2
 have e:vs.toArray ++ ws.toArray=(vs ++ ws).toArray:=by simp
 by_cases hw:ws=[]
 ·exact concat_meets ⟨_,ho,rfl⟩ ⟨_,ho2,rfl⟩ noFill_tuple_add seq_tuple_add PySem.F.slot_tuple_add PySem.F.entry_tuple_add (PySem.F.args_tuple_add_2 _ _)
   (tuple_addW1 t b vs.toArray ws.toArray n n2 dd dd2 sl sl2 (by simpa using hv) (by simp [hw])) ⟨ho,ho2,h1 hw⟩
 ·refine concat_meets ⟨_,ho,rfl⟩ ⟨_,ho2,rfl⟩ noFill_tuple_add seq_tuple_add PySem.F.slot_tuple_add PySem.F.entry_tuple_add (PySem.F.args_tuple_add_2 _ _)
   (tuple_addW2 t b vs.toArray ws.toArray n n2 dd dd2 sl sl2 (by simpa using hv) (by simpa using hw) (by rw [List.size_toArray,List.size_toArray]; exact hsz)) ⟨ho,ho2,?_⟩
  rw [e]
  exact h2 hw
def eu (n d:Nat):Option Int -> Nat
 | none=>d
 | some v=>if v < 0 then (v + (n:Int)).toNat else min v.toNat n
theorem vM (n d:Nat):eu n d none=d:=rfl
theorem jJ (n d k:Nat):eu n d (some (k:Int))=min k n:=by
 show (if (k:Int) < 0 then ((k:Int) + (n:Int)).toNat else min (k:Int).toNat n)=min k n
 rw [if_neg (by omega),Int.toNat_natCast]
theorem GZ (n d:Nat) (hd:d ≤ n) (o:Option Int):eu n d o ≤ n:=by
 cases o with
 | none=>exact hd
 | some v =>
  show (if v < 0 then (v + (n:Int)).toNat else min v.toNat n) ≤ n
  by_cases hv:v < 0
  ·rw [if_pos hv]; omega
  ·rw [if_neg hv]; exact Nat.min_le_right _ _
theorem yr (v:Int) (n d:Nat):(if v < 0 then max (v + (n:Int)) 0 else min v (n:Int))=((eu n d (some v):Nat):Int):=by
 show (if v < 0 then max (v + (n:Int)) 0 else min v (n:Int))=(((if v < 0 then (v + (n:Int)).toNat else min v.toNat n):Nat):Int)
 by_cases hv:v < 0
 ·simp only [if_pos hv]; omega
 ·simp only [if_neg hv]; omega
theorem wm (lo hi:Option Int) (n:Nat):Builtin.Slice.sliceAdjust lo hi 1 (n:Int)=(((eu n 0 lo:Nat):Int),((eu n n hi:Nat):Int)):=by
 have h1:¬ ((1:Int) < 0):=by omega
 unfold Builtin.Slice.sliceAdjust
 simp only [h1,if_false]
 refine Prod.ext ?_ ?_
 ·cases lo with
  | none=>rfl
  | some v=>exact yr v n 0
 ·cases hi with
  | none=>rfl
  | some v=>exact yr v n n
theorem xy (i j:Nat):Builtin.Slice.slicePlaces (i:Int) (j:Int) 1=j - i:=by
 unfold Builtin.Slice.slicePlaces
 have h1:(1:Int) > 0:=by omega
 simp only [h1,if_true,Int.ediv_one]
 split <;> omega
theorem pD {v:Value} {o:Option Int} {Q:Option Int -> Shared -> Prop} (p:IsPart v o) (h:Q o s):wpAny (model prog w) A (Builtin.Slice.slicePartIndex v) Q E s:=by
 cases p with
 | none=>exact slicePart_none h
 | int i t=>exact slicePart_int h
theorem mx {sl:Addr} {vl vu:Value} {lo hi:Option Int} {n:Nat} {Q:Int × Int × Nat -> Shared -> Prop} (hs:s.heap.IsSliceOf sl vl vu .none) (pl:IsPart vl lo) (pu:IsPart vu hi)
  (h:Q (((eu n 0 lo:Nat):Int),1,eu n n hi - eu n 0 lo) s):wpAny (model prog w) A (Builtin.Slice.sliceApplied (.ref sl) (pure (n:Int))) Q E s:=by
 obtain ⟨os,hos,hcs,hds⟩:=id hs
 unfold Builtin.Slice.sliceApplied Builtin.Slice.sliceFields
 refine wpAny_bind (wpAny_bind (wpAny_field hos hds (x:=vl) rfl (wpAny_bind (wpAny_field hos hds (x:=vu) rfl (wpAny_bind (wpAny_field hos hds (x:=.none) rfl (wpAny_pure ?_)))))))
 refine wpAny_bind (slicePart_none ?_)
 show wpAny _ _ (if ((1:Int) == 0)=true then _ else _) _ _ s
 rw [if_neg (by decide)]
 refine wpAny_bind (pD pl (wpAny_bind (pD pu (wpAny_bind (wpAny_pure ?_)))))
 show wpAny _ _ (match Builtin.Slice.sliceAdjust lo hi 1 (n:Int) with | (lo,hi)=>pure (lo,(1:Int),Builtin.Slice.slicePlaces lo hi 1)) _ _ s
 rw [wm lo hi n]
 show wpAny _ _ (pure (((eu n 0 lo:Nat):Int),(1:Int),Builtin.Slice.slicePlaces ((eu n 0 lo:Nat):Int) ((eu n n hi:Nat):Int) 1)) _ _ s
 rw [xy]
 exact wpAny_pure h
theorem BK (xs:Array Value) (i k:Nat):((List.range k).filterMap fun (m:Nat)=>xs[((i:Int) + (m:Int) * 1).toNat]?).toArray=((xs.toList.drop i).take k).toArray:=by
 have e:(fun (m:Nat)=>xs[((i:Int) + (m:Int) * 1).toNat]?)=fun m=>xs[i + m]?:=by
  funext m
  have:((i:Int) + (m:Int) * 1).toNat=i + m:=by omega
  rw [this]
 rw [e]
 have:=pick_run xs i k
 rw [List.filterMap_map] at this
 have e2:((fun x=>xs[x]?) ∘ fun x=>i + x)=fun m=>xs[i + m]?:=rfl
 rw [e2] at this
 rw [this]
theorem kP {t sl:Addr} {items:Array Value} {vl vu:Value} {lo hi:Option Int} {Q:Value -> Shared -> Prop} (ht:IsTup s.heap t items) (hs:s.heap.IsSliceOf sl vl vu .none) (pl:IsPart vl lo) (pu:IsPart vu hi)
  (hw:¬ (eu items.size 0 lo=0 /\ eu items.size items.size hi=items.size))
  (h:Q (.ref s.heap.objs.size) { s with heap:=s.heap.push { cls:=.type "tuple", data:=.seq ((items.toList.drop (eu items.size 0 lo)).take (eu items.size items.size hi - eu items.size 0 lo)).toArray } })
  (hsz:items.size ≤ sizeLine):wpAny (model prog w) A (getItem (.ref t) (.ref sl)) Q E s:=by
 have htake:sizeOk (.seq ((items.toList.drop (eu items.size 0 lo)).take (eu items.size items.size hi - eu items.size 0 lo)).toArray):=by
  show ((items.toList.drop (eu items.size 0 lo)).take (eu items.size items.size hi - eu items.size 0 lo)).toArray.size ≤ sizeLine
  rw [List.size_toArray,List.length_take,List.length_drop,Array.length_toList]
  omega
 have hj:eu items.size items.size hi ≤ items.size:=GZ _ _ (Nat.le_refl _) hi
 obtain ⟨os,hos,hcs,hds⟩:=id hs
 have hTs:s.TypeIs (.ref sl) "slice" := ⟨os,hos,hcs⟩
 unfold getItem
 try with_reducible refine wpAny_holding ?_
 first | refine wpAny_bind (wpAny_pure ?_) | skip
 refine wpAny_bind (wpAny_sequenceKey ht.typeIs (by decide) ?_)
 refine wpAny_bind (wpAny_callSpecial?_slot (name:=Str.ofString "__getitem__") ht.typeIs PyProof.Rows.slot_tuple_getitem
  (wpAny_call_entry PyProof.Rows.slot_tuple_getitem ht.typeIs entry_tuple_getitem ?_ (args_tuple_getitem _ _)))
 show wpAny _ _ (Builtin.Tuple.tupleItemsOf (.ref t) >>= _) _ _ s
 refine wpAny_bind (tupleItemsOf_ ht ?_)
 refine wpAny_bind (wpAny_typeOf hTs ?_)
 rw [if_pos (by decide)]
 refine wpAny_bind (mx hs pl pu ?_)
 have hno:¬ ((((eu items.size 0 lo:Nat):Int) == 0 && (1:Int) == 1 && (eu items.size items.size hi - eu items.size 0 lo) == items.size)=true):=by
  intro q
  rw [Bool.and_eq_true,Bool.and_eq_true] at q
  have q1:((eu items.size 0 lo:Nat):Int)=0:=eq_of_beq q.1.1
  have q2:eu items.size items.size hi - eu items.size 0 lo=items.size:=eq_of_beq q.2
  exact hw ⟨by omega,by omega⟩
 show wpAny _ _ (if (((eu items.size 0 lo:Nat):Int) == 0 && (1:Int) == 1 && (eu items.size items.size hi - eu items.size 0 lo) == items.size)=true then _ else _) _ _ s
 rw [if_neg hno,BK]
 first
  | exact wpAny_bind (m:=Builtin.Tuple.tupleExact _) (wpAny_newObj_type (wpAny_pure ⟨_,rfl,wpAny_pure h⟩) htake)
  | exact wpAny_bind (m:=Builtin.Tuple.tupleExact _) (wpAny_newObj_type (wpAny_bind (wpAny_pure (wpAny_pure ⟨_,rfl,wpAny_pure h⟩))) htake)
  | exact wpAny_bind (wpAny_bind (m:=Builtin.Tuple.tupleExact _) (wpAny_newObj_type (wpAny_pure (wpAny_pure ⟨_,rfl,wpAny_pure h⟩)) htake))
  | exact wpAny_bind (wpAny_bind (m:=Builtin.Tuple.tupleExact _) (wpAny_newObj_type (wpAny_pure ⟨_,rfl,wpAny_pure h⟩) htake))
end
end HT
namespace L2
open PySem PySem.Spec PyProof.Rows
abbrev TO:=St -> Hp -> (Option Int -> Hp -> Prop) -> Prop
def PO (X:Cx) (e:Option Expr) (t:TO):Prop:=
 ∀ (pins:List (Addr × Obj)) (s:Shared) (σ:St) (H:Hp) (Q:Option Int -> Hp -> Prop),Inv X pins σ H s -> t σ H Q ->
  wpAny (model X.prog X.w) X.A (evalPart e X.env) (fun u s'=>∃ o H',Inv X pins σ H' s' /\ IsPart u o /\ Q o H') X.xe s
def Ej:TO:=fun _ H Q=>Q none H
def JA (t:TE):TO:=fun σ H Q=>t σ H fun x H1=>∃ i,x=.int i /\ Q (some i) H1
section
variable {X:Cx} {e:Expr} {te:TE} {lo hi:Option Expr} {tl th:TO} {pos p2:Pos}
theorem yW:PO X none Ej:=by
 intro pins s σ H Q I h
 rw [evalPart_none]
 exact wpAny_pure ⟨none,H,I,.none,h⟩
theorem DM (h:PE X e te):PO X (some e) (JA te):=by
 intro pins s σ H Q I hw
 rw [evalPart_some]
 refine cM (h pins s σ H _ I hw) fun u s1 ⟨x,H1,I1,r1,q1⟩=>?_
 obtain ⟨i,rfl,q⟩:=q1
 obtain ⟨t,rfl⟩:=r1
 exact ⟨some i,H1,I1,.int i t,q⟩
def EB (X:Cx) (r:V -> Option Int -> Option Int -> Hp -> VK -> Prop):Prop:=
 ∀ (pins:List (Addr × Obj)) (s:Shared) (σ:St) (H:Hp) (x:V) (v vl vu:Value) (lo hi:Option Int) (sl:Addr) (Q:VK),Inv X pins σ H s -> RelV x v -> s.heap.IsSliceOf sl vl vu .none -> IsPart vl lo -> IsPart vu hi -> r x lo hi H Q ->
  ∃ T id,typeLookup (.type T) "__getitem__" = pure (some (.builtin id)) /\ s.TypeIs v T /\ wpAny (model X.prog X.w) X.A (getItem v (.ref sl)) (EP X pins σ Q) X.xe s
theorem EB.or {r r':V -> Option Int -> Option Int -> Hp -> VK -> Prop} (h:EB X r) (h':EB X r'):EB X (fun x lo hi H Q=>r x lo hi H Q \/ r' x lo hi H Q):=by
 intro pins s σ H x v vl vu lo hi sl Q I rx hs pl pu q
 rcases q with q | q
 ·exact h pins s σ H x v vl vu lo hi sl Q I rx hs pl pu q
 ·exact h' pins s σ H x v vl vu lo hi sl Q I rx hs pl pu q
def LK (r:V -> Option Int -> Option Int -> Hp -> VK -> Prop) (te:TE) (tl th:TO):TE:=fun σ H Q=>te σ H fun x H1=>tl σ H1 fun l H2=>th σ H2 fun u H3=>r x l u H3 Q
theorem vD {r:V -> Option Int -> Option Int -> Hp -> VK -> Prop} (hr:EB X r) (he:PE X e te) (hl:PO X lo tl) (hu:PO X hi th):PE X (.Subscript e (.Slice lo hi none p2) pos) (LK r te tl th):=by
 intro pins s σ H Q I h
 refine Subscript_ (cM (he pins s σ H _ I h) fun v s1 ⟨x,H1,I1,r1,q1⟩=>?_)
 refine wpAny_Slice (cM (hl pins s1 σ H1 _ I1 q1) fun vl s2 ⟨l,H2,I2,pl,q2⟩=>cM (hu pins s2 σ H2 _ I2 q2) fun vu s3 ⟨u,H3,I3,pu,q3⟩=>?_)
 rw [evalPart_none]
 refine wpAny_pure ?_
 have I4:Inv X pins σ H3 { s3 with heap:=s3.heap.push { cls:=.type "slice", data:=.fields #[vl,vu,.none] } }:=I3.kept (t':=s3.toks) fun b ob q=>Heap.get?_push_of_some _ q
 obtain ⟨T,id,hT,ht,hg⟩:=hr pins { s3 with heap:=s3.heap.push { cls:=.type "slice", data:=.fields #[vl,vu,.none] } } σ H3 x v vl vu l u s3.heap.objs.size Q I4 r1 (Heap.IsSliceOf.new ..) pl pu q3
 show wpAny (model X.prog X.w) X.A (subscriptTail e (.Slice lo hi none p2) v (.ref s3.heap.objs.size)) (EP X pins σ Q) X.xe { s3 with heap:=s3.heap.push { cls:=.type "slice", data:=.fields #[vl,vu,.none] } }
 exact tail_any (ops:=[.ref s3.heap.objs.size,v]) ht hT hg (by with_unfolding_all rfl)
def mZ (xs:List V) (lo hi:Option Int):List V:=(xs.drop (HT.eu xs.length 0 lo)).take (HT.eu xs.length xs.length hi - HT.eu xs.length 0 lo)
theorem mI (xs:List V) (lo hi:Option Int):(mZ xs lo hi).length ≤ xs.length:=by
 unfold mZ
 rw [List.length_take,List.length_drop]
 omega
def KH (K:PySem.W.Frag):V -> Option Int -> Option Int -> Hp -> VK -> Prop:=fun x lo hi H Q=>∃ a xs,x=.ref a /\ kc K H a xs /\
 ¬ (HT.eu xs.length 0 lo=0 /\ HT.eu xs.length xs.length hi=xs.length) /\ ∀ p,H p=none -> Q (.ref p) (upd H p (.tup (mZ xs lo hi)))
theorem G6:EB X (KH X.K):=by
 intro pins s σ H x v vl vu lo hi sl Q I rx hs pl pu h
 obtain ⟨a,xs,rfl,hx,hw,q⟩:=h
 cases rx
 obtain ⟨its,r,ht,hz⟩:=I.tuple hx
 have hlen:its.toArray.size=xs.length:=by rw [List.size_toArray]; exact r.length.symm
 refine ⟨"tuple", _,PyProof.Rows.slot_tuple_getitem.lookup,ht.typeIs,?_⟩
 refine HT.kP ht hs pl pu (by rw [hlen]; exact hw) ?_ (by rw [hlen]; exact hz)
 rw [hlen]
 refine ⟨.ref s.heap.objs.size,_,I.laid (t':=s.toks) (o:=.tup (mZ xs lo hi)) (fun b ob q=>Heap.get?_push_of_some _ q) (Nat.le_refl _) ?_,rfl,q _ (I.hok.fresh (Nat.le_refl _))⟩
 exact ⟨Nat.le_trans (mI xs lo hi) hz,_,(r.drop (HT.eu xs.length 0 lo)).take (HT.eu xs.length xs.length hi - HT.eu xs.length 0 lo),IsTup.new _ _⟩
def Je (K:PySem.W.Frag):R2:=fun x y H Q=>∃ a b xs ys,x=.ref a /\ y=.ref b /\ kc K H a xs /\ kc K H b ys /\ xs ≠ [] /\ xs.length + ys.length ≤ sizeLine /\
 (ys=[] -> Q (.ref a) H) /\ (ys ≠ [] -> ∀ p,H p=none -> Q (.ref p) (upd H p (.tup (xs ++ ys))))
theorem Vals.nil_iff {xs:List V} {us:List Value} (r:Vals xs us):us=[] ↔ xs=[]:=by
 cases r with
 | nil=>simp
 | cons _ _=>simp
theorem DE:lJ X (binaryOp .Add) (Je X.K):=by
 intro pins s σ H x y v u Q I rx ry h
 obtain ⟨a,b,xs,ys,rfl,rfl,ha,hb,hx,hz,q1,q2⟩:=h
 cases rx
 cases ry
 obtain ⟨its,r1,p1,_⟩:=I.tuple ha
 obtain ⟨its2,r2,p2,_⟩:=I.tuple hb
 refine HT.CI p1 p2 (fun z=>hx (r1.nil_iff.mp z)) (fun z=>⟨.ref a,H,I,rfl,q1 (r2.nil_iff.mp z)⟩) (fun z=>?_) (by rw [<- r1.length,<- r2.length]; exact hz)
 refine ⟨.ref s.heap.objs.size,_,I.laid (t':=s.toks) (o:=.tup (xs ++ ys)) (fun b ob q=>Heap.get?_push_of_some _ q) (Nat.le_refl _) ?_,rfl,q2 (fun w=>z (r2.nil_iff.mpr w)) _ (I.hok.fresh (Nat.le_refl _))⟩
 exact ⟨by rw [List.length_append]; exact hz,_,r1.append r2,IsTup.new _ _⟩
end
open PySem PySem.Spec PyProof.Rows
def yI (n:Nat) (i:Int):Option Nat:=if 0 ≤ i then (if i < n then some i.toNat else none) else if -(n:Int) ≤ i then some (i + n).toNat else none
def nF {α:Type} (xs:List α) (i:Int):Option α:=(yI xs.length i).bind fun j=>xs[j]?
theorem yJ {n:Nat} {i:Int} {j:Nat} (h:yI n i=some j):seqIndex? i n=some j /\ j < n /\ -(n:Int) ≤ i /\ i < n:=by
 unfold yI at h
 by_cases h0:0 ≤ i
 ·rw [if_pos h0] at h
  by_cases h1:i < n
  ·rw [if_pos h1] at h
   have e:i.toNat=j:=Option.some.inj h
   exact ⟨by rw [seqIndex_of h0 h1,e],by omega,by omega,h1⟩
  ·rw [if_neg h1] at h; cases h
 ·rw [if_neg h0] at h
  by_cases h1 : -(n:Int) ≤ i
  ·rw [if_pos h1] at h
   have e:(i + n).toNat=j:=Option.some.inj h
   exact ⟨by rw [seqIndex_neg (by omega) h1,e],by omega,h1,by omega⟩
  ·rw [if_neg h1] at h; cases h
theorem qZ {α:Type} {xs:List α} {i:Int} {v:α} (h:nF xs i=some v):∃ j,seqIndex? i xs.length=some j /\ xs[j]? = some v /\ j < xs.length /\ -(xs.length:Int) ≤ i /\ i < xs.length:=by
 unfold nF at h
 cases e:yI xs.length i with
 | none=>rw [e] at h; cases h
 | some j =>
  rw [e] at h
  obtain ⟨h1,h2,h3,h4⟩:=yJ e
  exact ⟨j,h1,h,h2,h3,h4⟩
theorem rd {α:Type} {xs:List α} {j:Nat} {v:α} (h:xs[j]? = some v):nF xs (j:Int)=some v:=by
 have hj:j < xs.length:=(List.getElem?_eq_some_iff.mp h).1
 have e:yI xs.length (j:Int)=some j:=by
  unfold yI
  rw [if_pos (by omega),if_pos (by omega)]; simp
 unfold nF; rw [e]; exact h
def yg (b:Expr):Prop:=∀ o i,subscripted b false o i=operate [o,i] (getItem o i)
def Cg (X:Cx) (r:R2):Prop:=
 ∀ (value slice:Expr) (pins:List (Addr × Obj)) (s:Shared) (σ:St) (H:Hp) (x y:V) (v u:Value) (Q:VK),Inv X pins σ H s -> RelV x v -> RelV y u -> r x y H Q ->
  subscripted slice false v u=operate [v,u] (getItem v u) -> wpAny (model X.prog X.w) X.A (subscriptTail value slice v u) (EP X pins σ Q) X.xe s
def Ez (X:Cx) (id:String) (r:V -> List V -> Hp -> VK -> Prop):Prop:=
 ∀ (pins:List (Addr × Obj)) (s:Shared) (σ:St) (H:Hp) (x:V) (xs:List V) (v:Value) (us:List Value) (Q:VK),Inv X pins σ H s -> RelV x v -> Vals xs us -> r x xs H Q ->
  wpAny (model X.prog X.w) X.A (call (.builtin id) (v :: us)) (EP X pins σ Q) X.xe s
section
variable {X:Cx} {a b:Expr} {ta tb:TE} {pos:Pos}
theorem Cg.or {r r':R2} (h:Cg X r) (h':Cg X r'):Cg X (fun x y H Q=>r x y H Q \/ r' x y H Q):=by
 intro value slice pins s σ H x y v u Q I rx ry q hs
 rcases q with q | q
 ·exact h value slice pins s σ H x y v u Q I rx ry q hs
 ·exact h' value slice pins s σ H x y v u Q I rx ry q hs
theorem Ez.or {id:String} {r r':V -> List V -> Hp -> VK -> Prop} (h:Ez X id r) (h':Ez X id r'):Ez X id (fun x xs H Q=>r x xs H Q \/ r' x xs H Q):=by
 intro pins s σ H x xs v us Q I rx rs q
 rcases q with q | q
 ·exact h pins s σ H x xs v us Q I rx rs q
 ·exact h' pins s σ H x xs v us Q I rx rs q
theorem Ja {r:R2} (hr:Cg X r) (ha:PE X a ta) (hb:PE X b tb) (hs:yg b):PE X (.Subscript a b pos) (Jy r ta tb):=by
 intro pins s σ H Q I h
 exact Subscript_ (Fp ha hb I h fun v u s2 x y H2 I2 rx ry q=>hr a b pins s2 σ H2 x y v u Q I2 rx ry q (hs _ _))
def Kz (K:PySem.W.Frag):R2:=fun x y H Q=>∃ p xs i v,x=.ref p /\ y=.int i /\ eZ K H p xs /\ nF xs i=some v /\ Q v H
def KC (K:PySem.W.Frag):R2:=fun x y H Q=>∃ p xs i v,x=.ref p /\ y=.int i /\ kc K H p xs /\ nF xs i=some v /\ Q v H
def KA:R2:=fun x y H Q=>∃ z i c,x=.str z /\ y=.int i /\ z.length ≤ sizeLine /\ nF z.cps.toList i=some c /\ Q (.str ⟨#[c]⟩) H
theorem yK:Cg X (Kz X.K):=by
 intro value slice pins s σ H x y v u Q I rx ry h hs
 obtain ⟨p,xs,i,z,rfl,rfl,hq,he,q⟩:=h
 cases rx
 obtain ⟨t,rfl⟩:=ry
 obtain ⟨its,r,pl,hz⟩:=I.list hq
 obtain ⟨j,h1,h2,h3,h4,h5⟩:=qZ he
 obtain ⟨w,ew,rw'⟩:=r.get h2
 have hl:=r.length
 have hn:=kn
 have fin:EP X pins σ Q w s:=⟨z,H,I,rw',q⟩
 by_cases h0:0 ≤ i
 ·have hj:i.toNat=j:=by
   rw [seqIndex_of h0 h5] at h1
   exact Option.some.inj h1
  exact item_listR pl.isList h0 (by omega) (by rw [hj]; simpa using ew) fin hs
 ·have hj:(i + (its.toArray.size:Int)).toNat=j:=by
   rw [seqIndex_neg (by omega) h4] at h1
   rw [List.size_toArray,<- hl]
   exact Option.some.inj h1
  exact subscriptTail_builtinR (x:=w) pl.isList.typeIs slot_list_getitem.lookup
   (wpAny_getItem_list_neg (Q:=fun r s'=>r=w /\ EP X pins σ Q r s') pl.isList (by omega) (by rw [List.size_toArray] <;> omega) (by omega) (by rw [hj]; simpa using ew) ⟨rfl,fin⟩) hs
theorem Gh:Cg X (KC X.K):=by
 intro value slice pins s σ H x y v u Q I rx ry h hs
 obtain ⟨p,xs,i,z,rfl,rfl,hq,he,q⟩:=h
 cases rx
 obtain ⟨t,rfl⟩:=ry
 obtain ⟨its,r,pl,hz⟩:=I.tuple hq
 obtain ⟨j,h1,h2,h3,h4,h5⟩:=qZ he
 obtain ⟨w,ew,rw'⟩:=r.get h2
 have hl:=r.length
 have hn:=kn
 have fin:EP X pins σ Q w s:=⟨z,H,I,rw',q⟩
 exact subscriptTail_builtinR (x:=w) pl.typeIs slot_tuple_getitem.lookup
  (getItem_tuple (j:=j) (Q:=fun r s'=>r=w /\ EP X pins σ Q r s') pl (by omega) (by omega) (by rw [List.size_toArray,<- hl]; exact h1) (by simpa using ew) ⟨rfl,fin⟩) hs
theorem Gg:Cg X KA:=by
 intro value slice pins s σ H x y v u Q I rx ry h hs
 obtain ⟨z,i,c,rfl,rfl,hz,he,q⟩:=h
 obtain ⟨t,rfl⟩:=rx
 obtain ⟨t',rfl⟩:=ry
 obtain ⟨j,h1,h2,h3,h4,h5⟩:=qZ he
 have hl:z.cps.toList.length=z.length:=by simp [Str.length]
 rw [hl] at h1 h4 h5
 have hn:=kn
 exact tail_any (typeIs_str s z t) slot_str_getitem.lookup (getItem_str (c:=c) (by
  have e1:decide (i < -(2 ^ 63:Int))=false:=decide_eq_false (by omega)
  have e2:decide (i ≥ 2 ^ 63)=false:=decide_eq_false (by omega)
  rw [e1,e2,Bool.or_false]) (by rw [h1]; simpa using h2) ⟨.str ⟨#[c]⟩,H,I.tok _,⟨_,rfl⟩,q⟩) hs
theorem xi (its:List Value) (n j:Nat) (u:Value):Obj.mapSeq (·.setIfInBounds j u) { cls:=.type "list", data:=.seq its.toArray n }={ cls:=.type "list", data:=.seq (its.set j u).toArray n }:=by
 simp [Obj.mapSeq]
theorem Inv.lst {pins:List (Addr × Obj)} {σ:St} {H:Hp} {s:Shared} {p:Addr} {xs:List V} (I:Inv X pins σ H s) (h:H p=some (.lst xs)) :
  ∃ (its:List Value) (n:Nat),Vals xs its /\ s.heap.get? p=some { cls:=.type "list", data:=.seq its.toArray n } /\ xs.length ≤ sizeLine:=by
 obtain ⟨z,its,n,r,e⟩:=I.hok p _ h
 exact ⟨its,n,r,e,z⟩
theorem Inv.lstUpd {pins:List (Addr × Obj)} {σ:St} {H:Hp} {s:Shared} {p:Addr} {xs ys:List V} {its its':List Value} {n n':Nat} {f:Obj -> Obj} (I:Inv X pins σ H s) (h:H p=some (.lst xs))
  (ho:s.heap.get? p=some { cls:=.type "list", data:=.seq its.toArray n }) (hf:f { cls:=.type "list", data:=.seq its.toArray n }={ cls:=.type "list", data:=.seq its'.toArray n' }) (r:Vals ys its') (hz:ys.length ≤ sizeLine) (t:Nat) :
  Inv X pins σ (upd H p (.lst ys)) { s with heap:=s.heap.update p f,toks:=t }:=by
 have e:(s.heap.update p f).get? p=some { cls:=.type "list", data:=.seq its'.toArray n' }:=by
  rw [Heap.get?_update_self f ho (by rw [hf] <;> rfl),hf]
 refine I.write (x:=p) (e:=p) (by rw [h]; trivial) (.inl rfl) (fun b u hb q=>(Heap.get?_update_other _ _ (Ne.symm hb)).trans q) ⟨_,e⟩ ?_
 exact ⟨hz,its',n',r,e⟩
def Jf:V -> V -> V -> Hp -> (Hp -> Prop) -> Prop:=fun o i v H Q=>∃ p xs k j,o=.ref p /\ i=.int k /\ H p=some (.lst xs) /\ yI xs.length k=some j /\ Q (upd H p (.lst (xs.set j v)))
theorem set_list:HE X Jf:=by
 intro pins s σ H o i v ov iv u Q I ro ri rv h
 obtain ⟨p,xs,k,j,rfl,rfl,hp,hj,q⟩:=h
 cases ro
 obtain ⟨t,rfl⟩:=ri
 obtain ⟨its,n,r,ho,hz⟩:=I.lst hp
 obtain ⟨h1,h2,h3,h4⟩:=yJ hj
 have hl:=r.length
 have hn:=kn
 have I':Inv X pins σ (upd H p (.lst (xs.set j v))) { s with heap:=s.heap.update p (Obj.mapSeq (·.setIfInBounds j u)) }:=
  I.lstUpd hp ho (xi its n j u) (r.set rv j) (by rw [List.length_set]; exact hz) s.toks
 by_cases h0:0 ≤ k
 ·have hk:k.toNat=j:=by
   rw [seqIndex_of h0 h4] at h1
   exact Option.some.inj h1
  exact PySem.W.ki_setAt ho h0 (by omega) (by rw [List.size_toArray,<- hl]; exact h4) (by rw [hk]; exact ⟨_,I',q⟩)
 ·have hk:(k + (its.toArray.size:Int)).toNat=j:=by
   rw [seqIndex_neg (by omega) h3] at h1
   rw [List.size_toArray,<- hl]
   exact Option.some.inj h1
  exact PySem.W.ki_setBack ho (by omega) (by rw [List.size_toArray,<- hl]; exact h3) (by omega) (by rw [hk]; exact ⟨_,I',q⟩)
theorem tY (lo hi:Option Int) (n:Nat):(sliceBounds lo hi none n).1=((HT.eu n 0 lo:Nat):Int) /\ (sliceBounds lo hi none n).2.1=((HT.eu n n hi:Nat):Int) /\ (sliceBounds lo hi none n).2.2=1:=by
 refine ⟨?_,?_,rfl⟩
 ·cases lo with
  | none=>simp [sliceBounds,HT.eu]
  | some i =>
   simp only [sliceBounds,HT.eu,Option.getD_none,show (1:Int) > 0 by decide,if_true]
   by_cases h:i < 0
   ·simp only [h,if_true] <;> omega
   ·simp only [h,if_false] <;> omega
 ·cases hi with
  | none=>simp [sliceBounds,HT.eu]
  | some i =>
   simp only [sliceBounds,HT.eu,Option.getD_none,show (1:Int) > 0 by decide,if_true]
   by_cases h:i < 0
   ·simp only [h,if_true] <;> omega
   ·simp only [h,if_false] <;> omega
theorem qk (its:List Value) (lo hi:Option Int):slicePick its.toArray lo hi none=((its.drop (HT.eu its.length 0 lo)).take (HT.eu its.length its.length hi - HT.eu its.length 0 lo)).toArray:=by
 obtain ⟨h1,h2,h3⟩:=tY lo hi its.toArray.size
 unfold slicePick
 rw [h1,h2,h3]
 simp only [sliceRange_one,pick_run,List.size_toArray] <;> rfl
def KG (K:PySem.W.Frag):V -> Option Int -> Option Int -> Hp -> VK -> Prop:=fun x lo hi H Q=>∃ a xs,x=.ref a /\ eZ K H a xs /\ ∀ p,H p=none -> Q (.ref p) (upd H p (.lst (mZ xs lo hi)))
theorem zm:EB X (KG X.K):=by
 intro pins s σ H x v vl vu lo hi sl Q I rx hs pl pu h
 obtain ⟨a,xs,rfl,hx,q⟩:=h
 cases rx
 obtain ⟨its,r,ht,hz⟩:=I.list hx
 have hlen:=r.length
 refine ⟨"list", _,slot_list_getitem.lookup,ht.isList.typeIs,?_⟩
 refine wpAny_getItem_list_slice ht.isList hs pl pu .none (by simp) ?_ (by rw [List.size_toArray] <;> omega)
 rw [qk,<- hlen]
 refine ⟨.ref s.heap.objs.size,_,I.laid (t':=s.toks) (o:=.lst (mZ xs lo hi)) (fun b ob q=>Heap.get?_push_of_some _ q) (Nat.le_refl _) ?_,rfl,q _ (I.hok.fresh (Nat.le_refl _))⟩
 exact ⟨Nat.le_trans (mI xs lo hi) hz,_,0,(r.drop (HT.eu xs.length 0 lo)).take (HT.eu xs.length xs.length hi - HT.eu xs.length 0 lo),Heap.get?_push_size _ rfl⟩
theorem rj:gH X (.builtin "len") (fun xs H Q=>∃ p ys,xs=[.ref p] /\ (eZ X.K H p ys \/ kc X.K H p ys) /\ Q (.int ys.length) H):=by
 intro pins s σ H xs us Q I r h
 obtain ⟨p,ys,rfl,hq,q⟩:=h
 obtain ⟨u,rfl,rx⟩:=vals1 r
 cases rx
 have hn:=kn
 rcases hq with hq | hq
 ·obtain ⟨its,r',pl,hz⟩:=I.list hq
  have hlen:=r'.length
  exact Calls.call_len_list pl.isList (by simp only [List.size_toArray] <;> omega) ⟨.int ys.length,H,I.tok _,⟨s.toks + 1,by rw [List.size_toArray,hlen]⟩,q⟩
 ·obtain ⟨its,r',pl,hz⟩:=I.tuple hq
  have hlen:=r'.length
  exact len_tuple pl (by simp only [List.size_toArray] <;> omega) ⟨.int ys.length,H,I.tok _,⟨s.toks + 1,by rw [List.size_toArray,hlen]⟩,q⟩
theorem rk:gH X (.builtin "len") (fun xs H Q=>∃ z,xs=[.str z] /\ z.length ≤ sizeLine /\ Q (.int z.length) H):=by
 intro pins s σ H xs us Q I r h
 obtain ⟨z,rfl,hz,q⟩:=h
 obtain ⟨u,rfl,t,rfl⟩:=vals1 r
 have hn:=kn
 exact len_str (by omega) ⟨.int z.length,H,I.tok _,⟨_,rfl⟩,q⟩
theorem gH.or {f:Value} {r r':List V -> Hp -> VK -> Prop} (h:gH X f r) (h':gH X f r'):gH X f (fun xs H Q=>r xs H Q \/ r' xs H Q):=by
 intro pins s σ H xs us Q I rs q
 rcases q with q | q
 ·exact h pins s σ H xs us Q I rs q
 ·exact h' pins s σ H xs us Q I rs q
theorem kL:gH X (.type "list") (fun xs H Q=>∃ p ys,xs=[.ref p] /\ (eZ X.K H p ys \/ kc X.K H p ys) /\ ∀ l,H l=none -> Q (.ref l) (upd H l (.lst ys))):=by
 intro pins s σ H xs us Q I r h
 obtain ⟨p,ys,rfl,hq,q⟩:=h
 obtain ⟨u,rfl,rx⟩:=vals1 r
 cases rx
 have fin:∀ (its:List Value),Vals ys its -> ys.length ≤ sizeLine -> ∀ (h':Heap) (c':Nat),(∀ b o',s.heap.get? b=some o' -> h'.get? b=some o') ->
   h'.get? s.heap.objs.size=some { cls:=.type "list", dict:=none,data:=.seq its.toArray c',slots:=#[] } -> EP X pins σ Q (.ref s.heap.objs.size) { s with heap:=h' }:=fun its r' hz h' c' kp e =>
  ⟨.ref s.heap.objs.size,_,I.laid (t':=s.toks) kp (Nat.le_refl _) (show fX X.prog X.w _ h' _ (.lst ys) from ⟨hz,its,c',r',e⟩),rfl,q _ (I.hok.fresh (Nat.le_refl _))⟩
 rcases hq with hq | hq
 ·obtain ⟨its,r',pl,hz⟩:=I.list hq
  have hlen:=r'.length
  obtain ⟨o,ho,hc,n,hd⟩:=pl.isList
  exact call_list_seq p (.inl rfl) ho hc hd (fun h' c' kp e=>fin its r' hz h' c' kp e) (by simp only [List.size_toArray] <;> omega)
 ·obtain ⟨its,r',pl,hz⟩:=I.tuple hq
  have hlen:=r'.length
  obtain ⟨o,ho,hc,n,hd⟩:=pl
  exact call_list_seq p (.inr rfl) ho hc hd (fun h' c' kp e=>fin its r' hz h' c' kp e) (by simp only [List.size_toArray] <;> omega)
theorem jW:gH X (.type "tuple") (fun xs H Q=>∃ p ys,xs=[.ref p] /\ ((eZ X.K H p ys /\ ∀ l,H l=none -> Q (.ref l) (upd H l (.tup ys))) \/ (kc X.K H p ys /\ Q (.ref p) H))):=by
 intro pins s σ H xs us Q I r h
 obtain ⟨p,ys,rfl,h⟩:=h
 obtain ⟨u,rfl,rx⟩:=vals1 r
 cases rx
 rcases h with ⟨hq,q⟩ | ⟨hq,q⟩
 ·obtain ⟨its,r',pl,hz⟩:=I.list hq
  have hlen:=r'.length
  refine call_tuple_list pl.isList (fun h' kp=>?_) (by simp only [List.size_toArray] <;> omega)
  have I1:Inv X pins σ H { s with heap:=h' }:=I.kept (t':=s.toks) kp
  have I2:Inv X pins σ (upd H h'.objs.size (.tup ys)) { s with heap:=h'.push { cls:=.type "tuple", data:=.seq its.toArray } }:=
   I1.laid (t':=s.toks) (fun b o e=>Heap.get?_push_of_some _ e) (Nat.le_refl _) (show fX X.prog X.w _ _ _ (.tup ys) from ⟨hz,its,r',IsTup.new _ _⟩)
  exact ⟨.ref h'.objs.size,_,I2,rfl,q _ (I1.hok.fresh (Nat.le_refl _))⟩
 ·obtain ⟨its,r',pl,hz⟩:=I.tuple hq
  exact call_tuple_same pl ⟨.ref p,H,I,rfl,q⟩
def K3 (K:PySem.W.Frag) (T:String) (x:V) (H:Hp):Prop:=match x with
 | .str _=>T = "str"
 | .int _=>T = "int"
 | .ref p=>(T = "list" /\ ∃ xs,eZ K H p xs) \/ (T = "tuple" /\ ∃ o,K.lookup p=some o /\ o.cls=.type "tuple" /\ o.dict=none) \/
   (T = "dict" /\ ((∃ kvs,H p=some (.dK kvs)) \/ ∃ kvs,H p=some (.dT kvs))) \/ (T = "set" /\ ∃ S n,H p=some (.set S n))
 | _=>False
theorem Cb {pins:List (Addr × Obj)} {σ:St} {H:Hp} {s:Shared} {T:String} {x:V} {v:Value} (I:Inv X pins σ H s) (r:RelV x v) (ty:K3 X.K T x H) :
  s.TypeIs v T /\ ∀ a,v=.ref a -> ∃ ob,s.heap.get? a=some ob /\ ob.dict=none:=by
 cases x with
 | str z =>
  obtain ⟨t,rfl⟩:=r
  cases (show T = "str" from ty)
  exact ⟨typeIs_str s z t,fun _ e=>nomatch e⟩
 | int i =>
  obtain ⟨t,rfl⟩:=r
  cases (show T = "int" from ty)
  exact ⟨typeIs_int s i t,fun _ e=>nomatch e⟩
 | ref p =>
  cases r
  rcases ty with ⟨rfl,xs,hq⟩ | ⟨rfl,o,hk,hc,hd⟩ | ⟨rfl,hk⟩ | ⟨rfl,S,n,hk⟩
  ·obtain ⟨its,_,pl,_⟩:=I.list hq
   refine ⟨pl.isList.typeIs,fun a e=>?_⟩
   cases e
   obtain ⟨o,n,e,c,hd,_⟩:=pl
   exact ⟨o,e,hd⟩
  ·refine ⟨⟨o,I.kIn p o hk,hc⟩,fun a e=>?_⟩
   cases e
   exact ⟨o,I.kIn _ o hk,hd⟩
  ·have z:∃ o,s.heap.get? p=some o /\ o.ExactDict:=by
    rcases hk with ⟨kvs,hk⟩ | ⟨kvs,hk⟩
    ·obtain ⟨_,_,_,_,o,_,_,e,ex,_⟩:=I.hok p _ hk
     exact ⟨o,e,ex⟩
    ·obtain ⟨_,_,_,_,o,_,_,e,ex,_⟩:=I.hok p _ hk
     exact ⟨o,e,ex⟩
   obtain ⟨o,e,ex⟩:=z
   refine ⟨⟨o,e,ex.1⟩,fun a e2=>?_⟩
   cases e2
   exact ⟨o,e,ex.2.1⟩
  ·obtain ⟨o,_,_,_,e,ex,_⟩:=I.hok p _ hk
   refine ⟨⟨o,e,ex.1⟩,fun a e2=>?_⟩
   cases e2
   exact ⟨o,e,ex.2.1⟩
 | _=>exact False.elim ty
def KN (K:PySem.W.Frag) (T:String) (r:V -> List V -> Hp -> VK -> Prop) (to:TE):TE:=fun σ H Q=>to σ H fun x H1=>K3 K T x H1 /\ r x [] H1 Q
def LF (K:PySem.W.Frag) (T:String) (r:V -> List V -> Hp -> VK -> Prop) (to:TE) (t:TA):TE:=fun σ H Q=>to σ H fun x H1=>K3 K T x H1 /\ t σ H1 fun xs H2=>r x xs H2 Q
variable {o e:Expr} {es:List Expr} {to:TE} {t:TA} {name:Str} {apos cpos:Pos} {T id:String} {r:V -> List V -> Hp -> VK -> Prop}
theorem tD (pa:PlainAttrs T) (slot:Slot T name id) (hty:typeOf (.builtin id)=pure (.type "method_descriptor")) (hm:Ez X id r) (ho:PE X o to)
  (hbase:attributeBase o name X.env (eval o X.env)=eval o X.env:=by rfl) (hline:(apos.endLine == cpos.line)=true:=by rfl):PE X (.Call (.Attribute o name apos) [] [] cpos) (KN X.K T r to):=by
 intro pins s σ H Q I h
 refine wpAny_Call_method0_late hbase hline (cM (ho pins s σ H _ I h) fun v s1 ⟨x,H1,I1,r1,ty,q1⟩=>?_)
 obtain ⟨h1,h2⟩:=Cb I1 r1 ty
 exact ⟨T,id,pa,slot,hty,h1,h2,Calls.callWith_builtin rfl (PySem.evalArgs_none (hm pins s1 σ H1 x [] v [] Q I1 r1 .nil q1))⟩
theorem EZ (pa:PlainAttrs T) (slot:Slot T name id) (hty:typeOf (.builtin id)=pure (.type "method_descriptor")) (hm:Ez X id r) (ho:PE X o to) (ha:PA X (e :: es) t)
  (hbase:attributeBase o name X.env (eval o X.env)=eval o X.env:=by rfl)
  (hfew:((backTo cpos (starEach (e :: es) X.env)).all (fun x=>!x.1) && (backToKw cpos (keywordEach [] X.env)).all (fun x=>x.1.isSome)
   && decide ((e :: es).length + ([]:List Keyword).length + (if ([]:List Keyword).isEmpty then 0 else 1) < 30))=true:=by rfl)
  (hline:(apos.endLine == cpos.line)=true:=by rfl) (hs:starEach (e :: es) X.env=(false,eval e X.env) :: starEach es X.env:=by rfl) (hplain:(backTo cpos (starEach es X.env)).any (·.1)=false:=by rfl) :
  PE X (.Call (.Attribute o name apos) (e :: es) [] cpos) (LF X.K T r to t):=by
 intro pins s σ H Q I h
 refine wpAny_Call_method_late hbase hfew hline rfl (cM (ho pins s σ H _ I h) fun v s1 ⟨x,H1,I1,r1,ty,q1⟩=>?_)
 obtain ⟨h1,h2⟩:=Cb I1 r1 ty
 refine ⟨T,id,pa,slot,hty,h1,h2,?_⟩
 have hA:=ha cpos pins s1 σ H1 _ I1 q1
 rw [hs] at hA ⊢
 refine Calls.callWith_builtin (by show (false || (backTo cpos (starEach es X.env)).any (·.1))=false; rw [hplain] <;> rfl) (Calls.evalArgs_plain ?_)
 exact cM hA fun us s2 ⟨vs,H2,I2,r2,q2⟩=>hm pins s2 σ H2 x vs v us Q I2 r1 r2 q2
/- xs.append(e),list.index on a module's tuple .. are Ez facts of 06m -/
end
open PySem PySem.Spec PyProof.Rows
def K7 (X:Cx) (id:String) (r:V -> List V -> Hp -> VK -> Prop):Prop:=
 ∀ (pins:List (Addr × Obj)) (s:Shared) (σ:St) (H:Hp) (x:V) (xs:List V) (v:Value) (us:List Value) (Q:VK),Inv X pins σ H s -> RelV x v -> Vals xs us -> r x xs H Q ->
  wpAny (model X.prog X.w) X.A (call (.builtin id) (v :: us)) (EP X pins σ Q) X.xe s
theorem Vals.one:∀ {x:V} {us:List Value},Vals [x] us -> ∃ u,us=[u] /\ RelV x u
 | _,_,.cons r .nil=>⟨_,rfl,r⟩
theorem Vals.two:∀ {x y:V} {us:List Value},Vals [x,y] us -> ∃ u v,us=[u,v] /\ RelV x u /\ RelV y v
 | _,_,_,.cons r (.cons q .nil)=>⟨_,_,rfl,r,q⟩
theorem Vals.zero:∀ {us:List Value},Vals [] us -> us=[]
 | _,.nil=>rfl
theorem Vals.reverse {xs:List V} {us:List Value} (h:Vals xs us):Vals xs.reverse us.reverse:=by
 induction h with
 | nil=>exact .nil
 | cons r t ih=>rw [List.reverse_cons,List.reverse_cons]; exact Vals.append ih (.cons r .nil)
theorem Vals.rep {xs:List V} {us:List Value} (h:Vals xs us):∀ k:Nat,Vals (List.replicate k xs).flatten (List.replicate k us).flatten
 | 0=>.nil
 | k + 1=>by
  rw [List.replicate_succ,List.replicate_succ,List.flatten_cons,List.flatten_cons]
  exact Vals.append h (Vals.rep h k)
theorem foldl_rep (its:List Value):∀ (k:Nat) (acc:List Value),
  List.foldl (fun x1 x2=>x1 ++ x2) acc.toArray (List.replicate k its.toArray)=(acc ++ (List.replicate k its).flatten).toArray
 | 0,acc=>by simp
 | k + 1,acc=>by
  have e:acc.toArray ++ its.toArray=(acc ++ its).toArray:=by simp
  have e2:(acc ++ its) ++ (List.replicate k its).flatten=acc ++ (List.replicate (k + 1) its).flatten:=by
   rw [List.replicate_succ,List.flatten_cons,List.append_assoc]
  rw [<- e2,<- foldl_rep its k (acc ++ its),<- e,List.replicate_succ,List.foldl_cons]
section
variable {X:Cx} {pins:List (Addr × Obj)} {σ:St} {H:Hp} {s:Shared} {l b:Addr} {xs ys zs:List V}
theorem Inv.lset {its its':List Value} {n:Nat} {f:Array Value -> Array Value} {t':Nat} (I:Inv X pins σ H s) (hH:H l=some (.lst xs))
  (e:s.heap.get? l=some { cls:=.type "list", data:=.seq its.toArray n }) (hf:f its.toArray=its'.toArray) (hv:Vals ys its') (hz:ys.length ≤ sizeLine) :
  Inv X pins σ (upd H l (.lst ys)) { s with heap:=s.heap.update l (Obj.mapSeq f),toks:=t' }:=by
 have q:=PySem.IsL.update e f
 rw [hf] at q
 refine I.write (x:=l) (e:=l) (by rw [hH]; exact trivial) (.inl rfl) (fun b' u hb hu=>(Heap.get?_update_other s.heap (Obj.mapSeq f) (Ne.symm hb)).trans hu) ⟨_,q⟩ ?_
 exact ⟨hz,its',_,hv,q⟩
theorem Inv.lnew {its:List Value} {t':Nat} (I:Inv X pins σ H s) (hv:Vals ys its) (hz:ys.length ≤ sizeLine) :
  Inv X pins σ (upd H s.heap.objs.size (.lst ys)) { s with heap:=s.heap.push { cls:=.type "list", data:=.seq its.toArray },toks:=t' }:=
 I.laid (fun _ _ q=>Heap.get?_push_of_some _ q) (Nat.le_refl _) ⟨hz,its,0,hv,Heap.get?_push_size _ rfl⟩
theorem Inv.fresh (I:Inv X pins σ H s):H s.heap.objs.size=none:=I.hok.fresh (Nat.le_refl _)
theorem Inv.lstM (I:Inv X pins σ H s) (hH:H l=some (.lst xs)):xs.length ≤ sizeLine /\ ∃ (its:List Value) (n:Nat),Vals xs its /\ xs.length=its.length /\ s.heap.get? l=some { cls:=.type "list", data:=.seq its.toArray n }:=by
 obtain ⟨z,its,n,r,e⟩:=I.hok l _ hH
 exact ⟨z,its,n,r,r.length,e⟩
theorem BD {n:Nat} (h:n ≤ sizeLine):Builtin.List.listTooLong n=false:=by
 unfold Builtin.List.listTooLong
 exact decide_eq_false (by omega)
end
section
variable {X:Cx}
def DT:V -> List V -> Hp -> VK -> Prop:=fun x vs H Q=>∃ l xs y,x=.ref l /\ vs=[y] /\ H l=some (.lst xs) /\ xs.length < sizeLine /\ Q .non (upd H l (.lst (xs ++ [y])))
theorem jG:K7 X "list.append" DT:=by
 intro pins s σ H x vs v us Q I rx rv h
 obtain ⟨l,xs,y,rfl,rfl,hH,hz,q⟩:=h
 cases rx
 obtain ⟨u,rfl,ru⟩:=rv.one
 obtain ⟨z,its,n,r,hl,e⟩:=I.lstM hH
 refine call_meets F.slot_list_append ⟨_,e,rfl⟩ F.entry_list_append (F.args_list_append_2 _ _) (PySem.list_append l its.toArray n u (by rw [List.size_toArray]; omega)) ⟨e,?_⟩
 refine ⟨.non,_,I.lset (its':=its ++ [u]) hH e (by simp) (r.append (.cons ru .nil)) ?_,rfl,q⟩
 rw [List.length_append,List.length_singleton]
 omega
def GY:V -> List V -> Hp -> VK -> Prop:=fun x vs H Q=>∃ l xs,x=.ref l /\ vs=[] /\ H l=some (.lst xs) /\ Q .non (upd H l (.lst []))
theorem oJ:K7 X "list.clear" GY:=by
 intro pins s σ H x vs v us Q I rx rv h
 obtain ⟨l,xs,rfl,rfl,hH,q⟩:=h
 cases rx
 have hus:=rv.zero
 subst hus
 obtain ⟨z,its,n,r,hl,e⟩:=I.lstM hH
 refine call_meets F.slot_list_clear ⟨_,e,rfl⟩ F.entry_list_clear (F.args_list_clear_1 _) (AutoSeq1.list_clear_list_0 l its.toArray n (by rw [List.size_toArray]; omega)) ⟨e,?_⟩
 exact ⟨.non,_,I.lset (its':=[]) (ys:=[]) hH e rfl .nil (Nat.zero_le _),rfl,q⟩
def Ky:R2:=fun x y H Q=>∃ l b xs zs,x=.ref l /\ y=.ref b /\ H l=some (.lst xs) /\ H b=some (.lst zs) /\ xs.length + zs.length ≤ sizeLine /\ ∀ p,H p=none -> Q (.ref p) (upd H p (.lst (xs ++ zs)))
theorem Gz:lJ X (binaryOp .Add) Ky:=by
 intro pins s σ H x y v u Q I rx ry h
 obtain ⟨l,b,xs,zs,rfl,rfl,hH,hB,hz,q⟩:=h
 cases rx
 cases ry
 obtain ⟨z,its,n,r,hl,e⟩:=I.lstM hH
 obtain ⟨z2,its2,n2,r2,Ip,e2⟩:=I.lstM hB
 refine PySem.P.add_list e e2 ?_ (by rw [List.size_toArray,List.size_toArray]; omega)
 have ea:its.toArray ++ its2.toArray=(its ++ its2).toArray:=by simp
 rw [ea]
 exact ⟨.ref _,_,I.lnew (t':=s.toks) (r.append r2) (by rw [List.length_append]; omega),rfl,q _ I.fresh⟩
def KD:R2:=fun x y H Q=>∃ l k xs,x=.ref l /\ y=.int k /\ H l=some (.lst xs) /\ -(2 ^ 63) ≤ k /\ k < 2 ^ 63 /\ xs.length * k.toNat ≤ sizeLine /\
 ∀ p,H p=none -> Q (.ref p) (upd H p (.lst (List.replicate k.toNat xs).flatten))
theorem len_rep {α:Type} (xs:List α) (k:Nat):(List.replicate k xs).flatten.length=k * xs.length:=by
 induction k with
 | zero=>simp
 | succ k ih=>rw [List.replicate_succ,List.flatten_cons,List.length_append,ih,Nat.succ_mul,Nat.add_comm]
theorem GA:lJ X (binaryOp .Mult) KD:=by
 intro pins s σ H x y v u Q I rx ry h
 obtain ⟨l,k,xs,rfl,rfl,hH,h1,h2,hz,q⟩:=h
 cases rx
 obtain ⟨t,rfl⟩:=ry
 obtain ⟨z,its,n,r,hl,e⟩:=I.lstM hH
 have hlen:its.toArray.size * k.toNat ≤ sizeLine:=by rw [List.size_toArray,<- hl]; exact hz
 have hcap:¬ its.toArray.size * k.toNat > (2 ^ 63 - 1) / 8:=by
  have:(sizeLine:Nat) ≤ (2 ^ 63 - 1) / 8:=by decide
  omega
 have hfit:¬ (!Builtin.List.listFitsIndex k)=true:=by
  rw [fitsIndex_both h1 h2]
  exact Bool.false_ne_true
 have hlong:¬ Builtin.List.listTooLong (its.toArray.size * k.toNat)=true:=by
  rw [BD hlen]
  exact Bool.false_ne_true
 have hnew:List.foldl (fun x1 x2=>x1 ++ x2) #[] (List.replicate (if its.toArray.isEmpty=true then 0 else k.toNat) its.toArray)=(List.replicate k.toNat its).flatten.toArray:=by
  have f0:∀ m:Nat,List.foldl (fun x1 x2=>x1 ++ x2) #[] (List.replicate m its.toArray)=(List.replicate m its).flatten.toArray:=fun m=>by
   have:=foldl_rep its m []
   rw [List.nil_append] at this
   exact this
  rw [f0]
  cases its with
  | nil=>simp
  | cons a r'=>rw [if_neg (by simp)]
 refine wpAny_binaryOp_repeat_ref (T := "list") (U := "int") (by decide) ⟨_,e,rfl⟩ (fun s'=>typeIs_int s' k t) noFill_list_mul F.fills_int_mul F.slot_int_rmul repeat_list F.slot_int_index.lookup
  (call_meets F.slot_int_rmul (typeIs_int s k t) F.entry_int_rmul (F.args_int_rmul_2 _ _) (int___rmul___int_list k t l its.toArray n)
   ⟨e,rfl,⟨_,e,rfl⟩,call_meets F.slot_list_mul ⟨_,e,rfl⟩ F.entry_list_mul (F.args_list_mul_2 _ _) (AutoListH.list___mul___list_int_3 l its.toArray n k t hfit hcap hlong) ⟨e,?_⟩⟩)
 rw [hnew]
 exact ⟨.ref _,_,I.lnew (t':=s.toks) (r.rep k.toNat) (by rw [len_rep,Nat.mul_comm]; exact hz),rfl,q _ I.fresh⟩
end
section
variable {prog:Program} {w:World} {A:Around} {E:Value -> Shared -> Prop} {s:Shared}
end
section
variable {X:Cx}
end
end L2
namespace Att
open PySem PySem.W PySem.Calls PyProof.Rows
theorem nc {P:Params} {h:Heap}:∀ (ns:List Int) (vs:List Value),WellAll P h vs (ns.map WData.int) -> IntsAre vs ns:=by
 intro ns
 induction ns with
 | nil =>
  intro vs w
  rw [List.map_nil] at w
  cases w
  exact .nil
 | cons n ns ih =>
  intro vs w
  rw [List.map_cons] at w
  cases w with
  | cons a b =>
   cases a
   exact .cons _ _ (ih _ b)
theorem Al {l:OpenLaw} {n:Nat} (hn:l.most=some n) {P:Params} {h:Heap} {args:List WData} {vals:List Value}
  (hpre:l.row.toRowW.claim.pre args=true) (hwl:WellAll P h vals args) :
  ∃ a vs ns,vals=[Value.ref a] /\ args=[WData.list (ns.map WData.int)] /\ h.get? a=some { cls:=.type "list", data:=.seq vs.toArray } /\ IntsAre vs ns /\ ns.length ≤ n:=by
 have hsh:WShape.hasAll [] args [.list .int]=true:=(pre_splitW hpre).1
 have hc:l.pre.holds [] { args:=args }=true:=(pre_splitW hpre).2
 obtain ⟨d,r,rfl,h1,h2⟩:=hasAllW_cons hsh
 obtain rfl:=hasAllW_nil h2
 obtain ⟨xs,rfl,h3⟩:=hasW_list h1
 obtain ⟨ns,rfl⟩:=items_int h3
 have hlen:ns.length ≤ n:=by
  unfold OpenLaw.pre at hc
  have h4:(WTm.not (.lt (.lit (.int (n:Int))) (.len (.arg 0)))).holds [] { args:=[.list (ns.map .int)] }=true:=by
   have h4:=(holds_andW hc).1
   rw [hn] at h4
   exact h4
  have h5:=condW_of h4 (w_not (w_lt w_lit (w_len_list (w_arg rfl))))
  rw [List.length_map] at h5
  refine Nat.le_of_not_lt fun q=>?_
  have q':(n:Int) < ((ns.length:Nat):Int):=by omega
  first
   | (rw [decide_eq_true q'] at h5; exact absurd h5 (by decide))
   | (simp at h5; omega)
 cases hwl with
 | cons w1 w2 =>
  cases w2
  cases w1 with
  | list ho hall=>exact ⟨_,_,ns,rfl,rfl,ho,nc ns _ hall,hlen⟩
theorem Af (l:OpenLaw) (args:List WData):l.row.toRowW.claim.post args (.bool true) args=true:=
 postW_of (r:=l.row.toRowW) (X:=(true == true))
  (show WShape.has [] (.bool true) .bool=true by first | rfl | decide | simp [WShape.has,WShape.arms,WShape.armsAll])
  (show (WTm.eq .res (.lit (.bool true))).value [] { args:=args,res:=some (.bool true),after:=args }=some (.bool (true == true)) from w_eq_bool (w_res rfl) w_lit) rfl
theorem um {l:OpenLaw} {n:Nat} {q:Program} {loose:List Str} {XP:(Str -> Option Value) -> Heap -> Prop} {YP:World -> Heap -> Prop} {d:DefRec}
  (hn:l.most=some n) (hdf:d.params.defaults=[])
  (call:∀ (w:World) (s₀ s₁:Shared) (mg mb:Str -> Option Value) (fa:Addr) (o:Obj) (pm cd doc:Value) (a:Addr) (vs:List Value) (ns:List Int),
   Ground q loose [] XP w s₀ mg mb s₁.heap -> YP w s₁.heap ->
   s₁.heap.get? fa=some o -> o.data=.func (docDef d.name d.params d.body d.scope pm cd doc) -> s₁.heap.CodeRec cd d.name -> mg d.name=some (.ref fa) ->
   s₁.heap.get? a=some { cls:=.type "list", data:=.seq vs.toArray } -> IntsAre vs ns -> ns.length ≤ n -> s₁.gens = #[] ->
   codeAny (model l.prog w) callerA (.call (.ref fa) ⟨[.ref a],[]⟩) (fun r s'=>r=.ok (.ret (.bool true)) /\ OldK s₁.heap s'.heap /\ s'.os=s₁.os /\ AllBare s'.gens) s₁) :
  WalkO q loose XP YP l.row.toRowW d [] (fun f vs=>PySem.call f vs):=by
 intro w s₀ s₁ mg mb G Y fa o pm cd doc dV kV ho hd hcd hD hmg hg args vals as hpre hlay hrd hwl hlo
 obtain rfl:dV=.none:=Dflts.none hD hdf
 obtain rfl:kV=.none:=Dflts.noKw hD
 obtain ⟨a,vs,ns,rfl,rfl,hobj,hints,hlen⟩:=Al hn hpre hwl
 refine enter_call (codeAny_mono (call w s₀ s₁ mg mb fa o pm cd doc a vs ns G Y ho (fd_plain hd) hcd hmg hobj hints hlen hg) fun r s' hq=>?_)
 obtain ⟨rfl,h2,h3,h4⟩:=hq
 exact ⟨.inl ⟨.bool true,.bool true,[],rfl,fun _=>rfl,.bool true,Af l _,fun _=>⟨List.Pairwise.nil,fun _ hm=>(nomatch hm)⟩⟩,h2,h3,h4⟩
section
variable {prog:Program} {w:World} {A:Around} {E:Value -> Shared -> Prop} {s:Shared} {K:Frag}
end
end Att
namespace L2
open PySem PySem.Spec PyProof.Rows
theorem qU:∀ {vs:List Value} {ns:List Int},IntsAre vs ns -> Vals (ns.map V.int) vs
 | _,_,.nil=>.nil
 | _,_,.cons n t h=>.cons ⟨t,rfl⟩ (qU h)
def Fh (H:Hp):Prop:=∀ b,H b=none \/ ∃ o xs,H b=some (.frz o (.lst xs))
theorem Bo {P:Program} {w:World} {K:PySem.W.Frag} {mg mb:Str -> Option Value} {CX:zG} {k:Nat} {fa a:Addr} {fd:FuncData} {x:Str} {sp:Sp} {s₁:Shared} {vs:List Value} {ns:List Int}
  (KX:K.In s₁.heap) (hns:s₁.heap.Ns mainGlobals mg) (hb:s₁.heap.Ns builtinsNs mb) (hbb:∀ x:Str,x ≠ "__name__" -> mb x=bootBuiltins x) (hlim:s₁.heap.NoLimit) (hg:s₁.gens = #[])
  (ha:s₁.heap.get? a=some { cls:=.type "list", data:=.seq vs.toArray }) (hi:IntsAre vs ns) (hl:ns.length ≤ sizeLine) (hr:dz k callerA)
  (F:∀ base:Heap,K.In base -> base.Ns mainGlobals mg -> gb P w K mg base CX k fa fd [x] sp) (hbind:∀ (s:Shared) (u:Value),BindsTo s fd ⟨[u],[]⟩ [(x,u)])
  (hsp:∀ H:Hp,Fh H -> eZ K H a (ns.map V.int) -> sp [.ref a] H (fun v _=>v=.bl true) fun _ _ _=>False)
  (hCX:∀ H e s',CX [] H s₁ (fun _ _ _=>False) e s' -> False) :
  codeAny (model P w) callerA (.call (.ref fa) ⟨[.ref a],[]⟩) (fun r s'=>r=.ok (.ret (.bool true)) /\ OldK s₁.heap s'.heap /\ s'.os=s₁.os /\ AllBare s'.gens) s₁:=by
 have rv:=qU hi
 have lenV:=hi.length
 -- from an abstract heap in which nothing but the script may be tracked
 have core:∀ H:Hp,Fh H -> eZ K H a (ns.map V.int) -> mY P w H s₁.heap -> (∀ b,H b ≠ none -> b=a) -> (H a ≠ none -> K.lookup a=none) ->
   codeAny (model P w) callerA (.call (.ref fa) ⟨[.ref a],[]⟩) (fun r s'=>r=.ok (.ret (.bool true)) /\ OldK s₁.heap s'.heap /\ s'.os=s₁.os /\ AllBare s'.gens) s₁:=by
  intro H hO hS hok hA hK
  have base_of:∀ {b:Addr} {o:Obj},s₁.heap.get? b=some o -> H b=none -> (rO s₁.heap H).get? b=some o:=fun e n=>Bj e n
  have noA:∀ {b:Addr} {o:Obj} {es:Array DictEntry} {ep:Nat},s₁.heap.get? b=some o -> o.data=.dict es ep -> H b=none:=fun {b o es ep} e d=>by
   cases q:H b with
   | none=>rfl
   | some u =>
    have e':b=a:=hA b (by rw [q]; simp)
    subst e'
    rw [ha] at e; cases e
    have d':Data.seq vs.toArray _=Data.dict es ep:=d
    cases d'
  have nsK:∀ {b:Addr} {m:Str -> Option Value},s₁.heap.Ns b m -> (rO s₁.heap H).Ns b m:=fun {b m} ⟨o,es,ep,e,d,r⟩=>⟨o,es,ep,base_of e (noA e d),d,r⟩
  have hKb:K.In (rO s₁.heap H):=fun b o e=>base_of (KX b o e) (by
   cases q:H b with
   | none=>rfl
   | some u =>
    have e':b=a:=hA b (by rw [q]; simp)
    subst e'
    rw [hK (by rw [q]; simp)] at e; cases e)
  have hM:Mod K mg (rO s₁.heap H):=⟨hKb,nsK hns,⟨mb,nsK hb,hbb⟩,let ⟨mc,h1,h2⟩:=hlim; ⟨mc,nsK h1,h2⟩⟩
  have e0:pW P w K mg (rO s₁.heap H) callerA [] s₁ H:=⟨rfl,hM,fun b o e=>Dz e,Nat.le_of_eq (zU _ _),trivial,fun b hb=>absurd (show b ∈ ([]:List Addr) from hb) (by simp),hok,.of_eq hg⟩
  refine codeAny_mono ((F _ hKb (nsK hns)).run callerA [] s₁ H ⟨[.ref a],[]⟩ [.ref a] [.ref a] _ _ hr e0 (hbind s₁ (.ref a)) (.cons rfl .nil) (hsp H hO hS)) fun r s' h=>?_
  cases r with
  | error e=>exact (hCX H e s' h).elim
  | ok fl =>
   cases fl with
   | next=>exact False.elim h
   | brk=>exact False.elim h
   | cont=>exact False.elim h
   | ret u =>
    obtain ⟨v,H',os,bare,un,hok',r',q⟩:=h
    have q':v=.bl true:=q
    subst q'
    obtain rfl:u=Value.bool true:=r'
    refine ⟨rfl,OldK.of_keep fun b o e=>?_,os,bare⟩
    cases q:H b with
    | none=>exact un.keep b o e q (by intro z; exact absurd (show b ∈ ([]:List Addr) from z) (by simp)) (by simp)
    | some u =>
     rcases hO b with z | ⟨ob,xs,z⟩
     ·rw [q] at z; cases z
     ·have z2:=un.frzs b ob _ z
      obtain ⟨e1,_⟩:=hok b _ z
      obtain ⟨e2,_⟩:=hok' b _ z2
      rw [e] at e1; cases e1
      exact e2
 cases hk:K.lookup a with
 | some o =>
  -- the script is one of the module's own objects
  have e:=KX a o hk
  rw [ha] at e
  cases e
  refine core (fun _=>none) (fun _=>.inl rfl) (.inr ⟨_,vs.toArray,_,hk,rfl,rfl,rfl,by rw [List.size_toArray,lenV]; exact hl,by simpa using rv⟩) (fun b u z=>by have z':(none:Option HO)=some u:=z; cases z') (fun b z=>absurd rfl z) fun z=>absurd rfl z
 | none =>
  refine core (fun b=>if b=a then some (.frz { cls:=.type "list", data:=.seq vs.toArray } (.lst (ns.map V.int))) else none) (fun b=>?_) (.inl (.inr ⟨{ cls:=.type "list", data:=.seq vs.toArray },if_pos rfl⟩)) (fun b u z=>?_) (fun b z=>?_) fun _=>hk
  ·by_cases hb:b=a
   ·exact .inr ⟨_,_,if_pos hb⟩
   ·exact .inl (if_neg hb)
  ·by_cases hb:b=a
   ·have z':=(if_pos hb).symm.trans z
    cases z'
    subst hb
    exact ⟨ha,by rw [List.length_map]; exact hl,vs,_,rv,ha⟩
   ·have z':=(if_neg hb).symm.trans z
    cases z'
  ·by_cases hb:b=a
   ·exact hb
   ·exact absurd (if_neg hb) z
open PySem PySem.Spec PyProof.Rows
abbrev K6 {K:PySem.W.Frag} {h:Heap} (_:K.In h):PySem.W.Frag:=K
theorem zA {l:PySem.W.OpenLaw} {n k:Nat} {q:Program} {loose:List Str} {XP:(Str -> Option Value) -> Heap -> Prop} {YP:World -> Heap -> Prop} {d:DefRec} {K:Params -> PySem.W.Frag} {CX:World -> zG} {sp:World -> Sp} {x:Str}
  (hn:l.most=some n) (hn2:n ≤ sizeLine) (hdf:d.params.defaults=[]) (hr:dz k callerA)
  (hY:∀ (w:World) (h:Heap),YP w h -> (K w.params).In h)
  (F:∀ (w:World) (mg:Str -> Option Value) (fa:Addr) (h:Heap),(K w.params).In h -> h.Ns mainGlobals mg -> mg d.name=some (.ref fa) ->
   ∃ fd:FuncData,(∀ (s:Shared) (u:Value),BindsTo s fd ⟨[u],[]⟩ [(x,u)]) /\
    ∀ base:Heap,(K w.params).In base -> base.Ns mainGlobals mg -> gb l.prog w (K w.params) mg base (CX w) k fa fd [x] (sp w))
  (hsp:∀ (w:World) (H:Hp) (a:Addr) (ns:List Int),ns.length ≤ n -> Fh H -> eZ (K w.params) H a (ns.map V.int) -> sp w [.ref a] H (fun v _=>v=.bl true) fun _ _ _=>False)
  (hCX:∀ (w:World) (H:Hp) (s:Shared) (e:Value) (s':Shared),CX w [] H s (fun _ _ _=>False) e s' -> False) :
  PySem.W.WalkO q loose XP YP l.row.toRowW d [] (fun f vs=>PySem.call f vs):=by
 refine Att.um hn hdf fun w s₀ s₁ mg mb fa o pm cd doc a vs ns G Y ho hd hcd hmg hobj hints hlen hg=>?_
 have KX:=hY w _ Y
 obtain ⟨fd,hb,hF⟩:=F w mg fa _ KX G.T.g hmg
 exact Bo KX G.T.g G.T.b G.T.builtins G.T.nolimit hg hobj hints (Nat.le_trans hlen hn2) hr hF hb (fun H hO hS=>hsp w H a ns hlen hO hS) fun H e s'=>hCX w H s₁ e s'
end L2
/- THE LAST THEOREM (shape; LID,My.* are yours):
   My.Adr: a structure of the addresses that your layer names (classes,functions); My.Txt K t: a structure (Prop) of the equations over K;
   My.txt_mk:{K} {implicit addresses ..} (e1:nsIn K mainGlobals "law" = some (some (.ref f))) (e2:K.lookup f=some ⟨oc,od,.func (fnOf "law" "law" params body scope dV kV doc pm an cdv ct),sl⟩) (e3:codeIn K cdv "law" = true) .. : ∃ t,My.Txt K t
set_option maxRecDepth 100000 in
set_option maxHeartbeats 0 in
theorem PySem.Challenge.cw_LID_holds : PySem.Challenge.rw_LID.Holds := by
 w_on; o_law; k_head; (case hw=>w_witness2)
 k_fill
 refine L2.zA (l:=PySem.Challenge.rw_LID) (n:=63) (k:=40) (x := "script") (CX:=fun w=>..) (sp:=fun _=>My.sp_law) rfl (by decide) rfl ⟨rfl,by decide,by decide⟩ (fun w h Y=>PySem.W.kIn_of Y) ?F ?S ?C
 case F =>
  intro w mg fa h KX G hmg
  have T:∃ t,My.Txt (L2.K6 KX) t:=by
   dsimp only [L2.K6]                          -- K must stand as «<heap const> w.params» for k_is
   refine' My.txt_mk ?e1 ?e2 ?e3 ..
   (case e1=>PySem.W.k_is)                    -- in the order: a name -> its address -> its object -> its parts
   (case e2=>PySem.W.k_is)
   ..
  obtain ⟨t,T⟩:=T
  have e0:=hmg.symm.trans (PySem.W.mg_of KX G T.law)
  cases e0                                       -- fa is the law's own address
  exact ⟨_,fun s u=>.of_eq rfl,fun base kb nb=>My.law_fn T kb nb⟩     -- if «.of_eq rfl» comes too early: refine' ⟨_,?b,fun base kb nb=>My.law_fn T kb nb⟩; exact fun s u=>.of_eq rfl
 case S=>exact fun w H a ns hl hO hS=>..
 case C=>exact ..
(the tactic k_is has no namespace: write k_is) -/
namespace L2
open PySem PySem.Spec PyProof.Rows
def inClass (s:Stmt) (j:Nat):Stmt:=match s with
 | .ClassDef _ _ _ body _ _ _ _ _ _ _=>body.getD j (.Pass ⟨0,0,0,0⟩)
 | _=>.Pass ⟨0,0,0,0⟩
def iD (s:Stmt):Arguments:=match s with
 | .FunctionDef _ a _ _ _ _ _ _ _ _=>a
 | _=>{ posonlyargs:=[],args:=[],vararg:=none,kwonlyargs:=[],kw_defaults:=[],kwarg:=none,defaults:=[] }
def dF (s:Stmt):List Stmt:=match s with
 | .FunctionDef _ _ b _ _ _ _ _ _ _=>b
 | _=>[]
def aw (s:Stmt):Scope:=match s with
 | .FunctionDef _ _ _ _ _ _ sc _ _ _=>sc
 | _=>{ kind:=.function,names:=[],isGenerator:=false,isCoroutine:=false }
abbrev nC:zG:=fun _ _ _ _ _ _=>False
abbrev E0:XK:=fun _ _ _=>False
theorem vB {X:Cx}:Passes nC X E0:=fun _ _ _ _ _ _ _ h=>h.elim
structure eY (K:PySem.W.Frag) (x qual:Str) (st:Stmt) (f:Addr) (fd:FuncData):Prop where
 ex:∃ (oc:Value) (od:Option Addr) (kV doc pm:Value) (an:Option Addr) (cdv ct:Value) (osl:Array (Option Value)),
  fd=PySem.W.fnOf x qual (iD st) (dF st) (aw st) .none kV doc pm an cdv ct /\ K.lookup f=some ⟨oc,od,.func fd,osl⟩ /\ PySem.W.codeIn K cdv qual=true
 kp:PySem.W.keepIn K (.ref f)=true
section
variable {P:Program} {w:World} {K:PySem.W.Frag} {mg:Str -> Option Value} {base:Heap}
theorem eY.ok {x qual:Str} {st:Stmt} {f:Addr} {fd:FuncData} {N ps:List Str} {k:Nat} {sp:Sp} (F:eY K x qual st f fd) (S:aQ N ps (aw st)) (len:∀ vs H Q E,sp vs H Q E -> vs.length=ps.length)
  (hbody:∀ (cdv:Value) (A:Around) (outer:List Env) (s:Shared) (H:Hp) (vs:List V) (Q:VK) (E:XK),dz k (A.deeper (envOfC qual (aw st) s.heap.objs.size f cdv)) -> sp vs H Q E ->
   ∃ t,ir (m5 nC P w K mg base N qual (aw st) f cdv A outer s H E).nox (dF st) t /\ t { nx:=fun _ H'=>Q .non H',rt:=Q } (start N vs) H):gb P w K mg base nC (k + 1) f fd ps sp:=by
 obtain ⟨oc,od,kV,doc,pm,an,cdv,ct,osl,rfl,lk,hcd⟩:=F.ex
 refine Im lk hcd S len fun A outer s H vs Q E hr hsp=>?_
 obtain ⟨t,h,q⟩:=hbody cdv A outer s H vs Q E hr hsp
 exact ⟨t,h.nox,q⟩
theorem eY.binds {x qual:Str} {st:Stmt} {f:Addr} {fd:FuncData} {ps:List Str} (F:eY K x qual st f fd)
  (h:∀ (kV doc pm:Value) (an:Option Addr) (cdv ct:Value) (us:List Value),us.length=ps.length -> bindArgs (PySem.W.fnOf x qual (iD st) (dF st) (aw st) .none kV doc pm an cdv ct) ⟨us,[]⟩=pure (ps.zip us)):Binds K fd ps []:=by
 obtain ⟨oc,od,kV,doc,pm,an,cdv,ct,osl,rfl,lk,hcd⟩:=F.ex
 exact .all (h kV doc pm an cdv ct)
theorem FQ {x qual:Str} {st:Stmt} {f:Addr} {oc:Value} {od an:Option Addr} {osl:Array (Option Value)} {kV doc pm cdv ct:Value} (l:K.lookup f=some ⟨oc,od,.func (PySem.W.fnOf x qual (iD st) (dF st) (aw st) .none kV doc pm an cdv ct),osl⟩)
  (c:PySem.W.codeIn K cdv qual=true) (k:PySem.W.keepIn K (.ref f)=true):eY K x qual st f (PySem.W.fnOf x qual (iD st) (dF st) (aw st) .none kV doc pm an cdv ct):=⟨⟨oc,od,kV,doc,pm,an,cdv,ct,osl,rfl,l,c⟩,k⟩
end
theorem cH {n:Nat} (h:n ≤ 1000):n < sizeLine:=Nat.lt_of_le_of_lt h (by decide)
section
variable {X:Cx}
theorem pv (i:Nat) {x:Str} {pos:Pos} (hN:X.N[i]? = some x:=by rfl) (hv:HJ X.env.scope x:=by first | exact Or.inl rfl | exact Or.inr (Or.inl rfl) | exact Or.inr (Or.inr rfl)) (hd:(x == ("__debug__" : Str))=false:=by decide)
  (hcd:(x == ("__classdict__" : Str))=false:=by decide):PE X (.Name x pos) (ip i):=GL hN hv hd hcd
end
def aO (H H':Hp):Prop:=∀ b o,H b=some o -> H' b=some o
theorem aO.refl (H:Hp):aO H H:=fun _ _ h=>h
theorem aO.trans {H H1 H2:Hp} (a:aO H H1) (b:aO H1 H2):aO H H2:=fun c o h=>b c o (a c o h)
theorem aO.free {H H':Hp} (e:aO H H') {l:Addr} (h:H' l=Option.none):H l=Option.none:=by
 cases q:H l with
 | none=>rfl
 | some o =>
  rw [e l o q] at h
  cases h
theorem aO.seq {K:PySem.W.Frag} {H H':Hp} {a:Addr} {xs:List V} (e:aO H H') (h:eZ K H a xs):eZ K H' a xs:=by
 rcases h with (h | ⟨o,h⟩) | h
 ·exact .inl (.inl (e _ _ h))
 ·exact .inl (.inr ⟨o,e _ _ h⟩)
 ·exact .inr h
end L2
namespace TM
open PySem PySem.Spec PyProof.Rows L2
inductive T where
 | non | bl (b:Bool) | int (i:Int) | str (x:Str) | ty (n:String) | tup (ts:List T) | lst (ts:List T) | scr (ts:List T) | dic | obj (C:Addr) (ns:List Str) (ts:List T) | ptr (a:Addr)
mutual
def Rep (K:PySem.W.Frag) (F:Hp):T -> V -> Prop
 | .non,v=>v=.non
 | .bl b,v=>v=.bl b
 | .int i,v=>v=.int i
 | .str x,v=>v=.str x
 | .ty n,v=>v=.ty n
 | .tup ts,v=>∃ a xs,v=.ref a /\ kc K F a xs /\ aU K F ts xs
 | .lst ts,v=>∃ a xs,v=.ref a /\ F a=some (.lst xs) /\ aU K F ts xs
 | .scr ts,v=>∃ a xs,v=.ref a /\ eZ K F a xs /\ aU K F ts xs
 | .dic,v=>∃ a,v=.ref a /\ F a=some (.dK [])
 | .obj C ns ts,v=>∃ a dx vs,v=.ref a /\ F a=some (.ins C dx (ns.zip vs)) /\ vs.length=ns.length /\ aU K F ts vs
 | .ptr a,v=>v=.ref a
def aU (K:PySem.W.Frag) (F:Hp):List T -> List V -> Prop
 | [],xs=>xs=[]
 | t :: ts,xs=>∃ v r,xs=v :: r /\ Rep K F t v /\ aU K F ts r
end
theorem bV {K:PySem.W.Frag} {H H':Hp} {a:Addr} {xs:List V} (e:aO H H') (h:kc K H a xs):kc K H' a xs:=by
 rcases h with (h | ⟨o,h⟩) | h
 ·exact .inl (.inl (e _ _ h))
 ·exact .inl (.inr ⟨o,e _ _ h⟩)
 ·exact .inr h
mutual
theorem Rep.mono {K:PySem.W.Frag} {F F':Hp} (e:aO F F'):∀ {t:T} {v:V},Rep K F t v -> Rep K F' t v
 | .non,_,h=>h
 | .bl _,_,h=>h
 | .int _,_,h=>h
 | .str _,_,h=>h
 | .ty _,_,h=>h
 | .tup ts,_,h=>by
  obtain ⟨a,xs,h1,h2,h3⟩:=h
  exact ⟨a,xs,h1,bV e h2,aU.mono e h3⟩
 | .lst ts,_,h=>by
  obtain ⟨a,xs,h1,h2,h3⟩:=h
  exact ⟨a,xs,h1,e _ _ h2,aU.mono e h3⟩
 | .scr ts,_,h=>by
  obtain ⟨a,xs,h1,h2,h3⟩:=h
  exact ⟨a,xs,h1,e.seq h2,aU.mono e h3⟩
 | .dic,_,h=>by
  obtain ⟨a,h1,h2⟩:=h
  exact ⟨a,h1,e _ _ h2⟩
 | .obj C ns ts,_,h=>by
  obtain ⟨a,dx,vs,h1,h2,h3,h4⟩:=h
  exact ⟨a,dx,vs,h1,e _ _ h2,h3,aU.mono e h4⟩
 | .ptr _,_,h=>h
theorem aU.mono {K:PySem.W.Frag} {F F':Hp} (e:aO F F'):∀ {ts:List T} {vs:List V},aU K F ts vs -> aU K F' ts vs
 | [],_,h=>h
 | t :: ts,_,h=>by
  obtain ⟨v,r,h1,h2,h3⟩:=h
  exact ⟨v,r,h1,Rep.mono e h2,aU.mono e h3⟩
end
section
variable {K:PySem.W.Frag} {F:Hp}
theorem aU.length:∀ {ts:List T} {vs:List V},aU K F ts vs -> vs.length=ts.length
 | [],_,h=>by cases h; rfl
 | t :: ts,_,h=>by
  obtain ⟨v,r,rfl,h2,h3⟩:=h
  simp [aU.length h3]
theorem aU.get:∀ {ts:List T} {vs:List V} {i:Nat} {t:T},aU K F ts vs -> ts[i]? = some t -> ∃ v,vs[i]? = some v /\ Rep K F t v
 | [],_,_,_,h,e=>by simp at e
 | t :: ts,_,0,_,h,e=>by
  obtain ⟨v,r,rfl,h2,h3⟩:=h
  simp at e; subst e
  exact ⟨v,rfl,h2⟩
 | t :: ts,_,i + 1,u,h,e=>by
  obtain ⟨v,r,rfl,h2,h3⟩:=h
  obtain ⟨w,h4,h5⟩:=aU.get (i:=i) (t:=u) h3 (by simpa using e)
  exact ⟨w,by simpa using h4,h5⟩
theorem aU.append:∀ {ts us:List T} {vs ws:List V},aU K F ts vs -> aU K F us ws -> aU K F (ts ++ us) (vs ++ ws)
 | [],_,_,_,h,h'=>by cases h; exact h'
 | t :: ts,_,_,_,h,h'=>by
  obtain ⟨v,r,rfl,h2,h3⟩:=h
  exact ⟨v,r ++ _,rfl,h2,aU.append h3 h'⟩
theorem aU.one {t:T} {v:V} (h:Rep K F t v):aU K F [t] [v]:=⟨v,[],rfl,h,rfl⟩
theorem aU.take:∀ {ts:List T} {vs:List V} (n:Nat),aU K F ts vs -> aU K F (ts.take n) (vs.take n)
 | _,_,0,_=>rfl
 | [],_,n + 1,h=>by cases h; rfl
 | t :: ts,_,n + 1,h=>by
  obtain ⟨v,r,rfl,h2,h3⟩:=h
  exact ⟨v,r.take n,rfl,h2,aU.take n h3⟩
theorem aU.drop:∀ {ts:List T} {vs:List V} (n:Nat),aU K F ts vs -> aU K F (ts.drop n) (vs.drop n)
 | _,_,0,h=>h
 | [],_,n + 1,h=>by cases h; rfl
 | t :: ts,_,n + 1,h=>by
  obtain ⟨v,r,rfl,h2,h3⟩:=h
  exact aU.drop n h3
theorem qO:∀ ns:List Int,aU K F (ns.map T.int) (ns.map V.int)
 | []=>rfl
 | n :: ns=>⟨.int n,ns.map V.int,rfl,rfl,qO ns⟩
end
structure bj (F H F' H':Hp):Prop where
 sF:aO F F'
 sH:aO H H'
 fh:aO F' H'
 nw:∀ a o,F' a=some o -> F a=some o \/ H a=none
theorem bj.refl {F H:Hp} (h:aO F H):bj F H F H:=⟨aO.refl _,aO.refl _,h,fun _ _ e=>.inl e⟩
theorem bj.trans {F H F1 H1 F2 H2:Hp} (a:bj F H F1 H1) (b:bj F1 H1 F2 H2):bj F H F2 H2:=
 ⟨a.sF.trans b.sF,a.sH.trans b.sH,b.fh,fun x o e=>by
  rcases b.nw x o e with e | e
  ·exact a.nw x o e
  ·exact .inr (a.sH.free e)⟩
theorem ck {H:Hp} {p:Addr} {o:HO} (h:H p=none):aO H (upd H p o):=fun b u q=>by rw [aJ (bK q h)]; exact q
theorem bj.new {F H:Hp} {p:Addr} (o:HO) (h:aO F H) (n:H p=none):bj F H (upd F p o) (upd H p o):=by
 refine ⟨ck (h.free n),ck n,fun b u q=>?_,fun a u q=>?_⟩
 ·by_cases e:b=p
  ·subst e; rw [aR] at q ⊢; exact q
  ·rw [aJ e] at q ⊢; exact h _ _ q
 ·by_cases e:a=p
  ·subst e; exact .inr n
  ·rw [aJ e] at q; exact .inl q
inductive Sl where
 | sh (t:T) | own (ts:List T)
abbrev aH:=List (Option Sl)
def ue (K:PySem.W.Frag) (H₀ F H:Hp):Sl -> V -> Prop
 | .sh t,v=>Rep K F t v
 | .own ts,v=>∃ p vs,v=.ref p /\ H p=some (.lst vs) /\ F p=none /\ H₀ p=none /\ aU K F ts vs
structure aB (K:PySem.W.Frag) (F₀ H₀ F H:Hp) (σ:L2.St) (τ:aH):Prop where
 g:bj F₀ H₀ F H
 len:σ.length=τ.length
 sl:∀ (i:Nat) (s:Sl),τ[i]? = some (some s) -> ∃ v,σ[i]? = some (some v) /\ ue K H₀ F H s v
 dj:∀ (i j:Nat) (ts us:List T) (p:Addr),i ≠ j -> τ[i]? = some (some (.own ts)) -> τ[j]? = some (some (.own us)) -> σ[i]? = some (some (.ref p)) -> σ[j]? ≠ some (some (.ref p))
section
variable {K:PySem.W.Frag} {F₀ H₀ F H F' H':Hp} {σ:L2.St} {τ:aH}
theorem ue.grow {s:Sl} {v:V} (g:bj F H F' H') (h:ue K H₀ F H s v):ue K H₀ F' H' s v:=by
 cases s with
 | sh t=>exact Rep.mono g.sF h
 | own ts =>
  obtain ⟨p,vs,h1,h2,h3,h4,h5⟩:=h
  refine ⟨p,vs,h1,g.sH _ _ h2,?_,h4,aU.mono g.sF h5⟩
  cases e:F' p with
  | none=>rfl
  | some o =>
   rcases g.nw p o e with q | q
   ·rw [q] at h3; cases h3
   ·rw [q] at h2; cases h2
theorem aB.grow (E:aB K F₀ H₀ F H σ τ) (g:bj F H F' H'):aB K F₀ H₀ F' H' σ τ:=by
 refine ⟨E.g.trans g,E.len,fun i s e=>?_,E.dj⟩
 obtain ⟨v,h1,h2⟩:=E.sl i s e
 exact ⟨v,h1,h2.grow g⟩
theorem aB.set {i:Nat} {t:T} {v:V} (E:aB K F₀ H₀ F H σ τ) (r:Rep K F t v):aB K F₀ H₀ F H (σ.set i (some v)) (τ.set i (some (.sh t))):=by
 refine ⟨E.g,by simp [E.len],fun j s e=>?_,fun j k ts us p hjk e1 e2 e3=>?_⟩
 ·by_cases hj:i=j
  ·subst hj
   by_cases hl:i < τ.length
   ·rw [List.getElem?_set_self hl] at e
    cases e
    exact ⟨v,List.getElem?_set_self (by rw [E.len]; exact hl),r⟩
   ·rw [List.getElem?_eq_none (by simp; omega)] at e; cases e
  ·rw [List.getElem?_set_ne hj] at e
   rw [List.getElem?_set_ne hj]
   exact E.sl j s e
 ·have n1:i ≠ j:=fun z=>by
   subst z
   by_cases hl:i < τ.length
   ·rw [List.getElem?_set_self hl] at e1; cases e1
   ·rw [List.getElem?_eq_none (by simp; omega)] at e1; cases e1
  have n2:i ≠ k:=fun z=>by
   subst z
   by_cases hl:i < τ.length
   ·rw [List.getElem?_set_self hl] at e2; cases e2
   ·rw [List.getElem?_eq_none (by simp; omega)] at e2; cases e2
  rw [List.getElem?_set_ne n1] at e1 e3
  rw [List.getElem?_set_ne n2] at e2 ⊢
  exact E.dj j k ts us p hjk e1 e2 e3
theorem aB.freeze {i:Nat} {ts:List T} (E:aB K F₀ H₀ F H σ τ) (e:τ[i]? = some (some (.own ts))) :
  ∃ F' v,σ[i]? = some (some v) /\ aB K F₀ H₀ F' H σ (τ.set i (some (.sh (.lst ts)))) /\ aO F F' /\ Rep K F' (.lst ts) v:=by
 obtain ⟨v,h1,p,vs,rfl,h2,h3,h4,h5⟩:=E.sl i _ e
 have sF:aO F (upd F p (.lst vs)):=ck h3
 have rp:Rep K (upd F p (.lst vs)) (.lst ts) (.ref p):=⟨p,vs,rfl,aR,aU.mono sF h5⟩
 refine ⟨upd F p (.lst vs),.ref p,h1,⟨⟨E.g.sF.trans sF,E.g.sH,fun b o q=>?_,fun b o q=>?_⟩,by simp [E.len],fun j s q=>?_,fun j k us ws r hjk e1 e2 e3=>?_⟩,sF,rp⟩
 ·by_cases z:b=p
  ·subst z; rw [aR] at q; cases q; exact h2
  ·rw [aJ z] at q; exact E.g.fh _ _ q
 ·by_cases z:b=p
  ·subst z; exact .inr h4
  ·rw [aJ z] at q; exact E.g.nw _ _ q
 ·by_cases hj:i=j
  ·subst hj
   have hl:i < τ.length:=by
    have:=(List.getElem?_eq_some_iff.mp e).1
    exact this
   rw [List.getElem?_set_self hl] at q
   cases q
   exact ⟨_,h1,rp⟩
  ·rw [List.getElem?_set_ne hj] at q
   obtain ⟨v,g1,g2⟩:=E.sl j s q
   refine ⟨v,g1,?_⟩
   cases s with
   | sh t=>exact Rep.mono sF g2
   | own us =>
    obtain ⟨r,ws,rfl,k2,k3,k4,k5⟩:=g2
    have hne:r ≠ p:=fun z=>by
     subst z
     exact E.dj i j ts us r hj e q h1 g1
    exact ⟨r,ws,rfl,k2,by rw [aJ hne]; exact k3,k4,aU.mono sF k5⟩
 ·have hl:i < τ.length:=(List.getElem?_eq_some_iff.mp e).1
  have n1:i ≠ j:=fun z=>by subst z; rw [List.getElem?_set_self hl] at e1; cases e1
  have n2:i ≠ k:=fun z=>by subst z; rw [List.getElem?_set_self hl] at e2; cases e2
  rw [List.getElem?_set_ne n1] at e1
  rw [List.getElem?_set_ne n2] at e2
  exact E.dj j k us ws r hjk e1 e2 e3
theorem aB.setOwn {i:Nat} {ts:List T} {vs:List V} {p:Addr} (E:aB K F₀ H₀ F H σ τ) (n:H p=none) (r:aU K F ts vs):aB K F₀ H₀ F (upd H p (.lst vs)) (σ.set i (some (.ref p))) (τ.set i (some (.own ts))):=by
 have sH:aO H (upd H p (.lst vs)):=ck n
 have fp:F p=none:=E.g.fh.free n
 have old:∀ {j:Nat} {s:Sl},i ≠ j -> τ[j]? = some (some s) -> ∃ v,σ[j]? = some (some v) /\ ue K H₀ F (upd H p (.lst vs)) s v:=fun {j s} hj q=>by
  obtain ⟨v,g1,g2⟩:=E.sl j s q
  refine ⟨v,g1,?_⟩
  cases s with
  | sh t=>exact g2
  | own us =>
   obtain ⟨r,ws,rfl,k2,k3,k4,k5⟩:=g2
   exact ⟨r,ws,rfl,sH _ _ k2,k3,k4,k5⟩
 refine ⟨⟨E.g.sF,E.g.sH.trans sH,E.g.fh.trans sH,E.g.nw⟩,by simp [E.len],fun j s e=>?_,fun j k ts' us q hjk e1 e2 e3 e4=>?_⟩
 ·by_cases hj:i=j
  ·subst hj
   by_cases hl:i < τ.length
   ·rw [List.getElem?_set_self hl] at e
    cases e
    exact ⟨.ref p,List.getElem?_set_self (by rw [E.len]; exact hl),p,vs,rfl,aR,fp,E.g.sH.free n,r⟩
   ·rw [List.getElem?_eq_none (by simp; omega)] at e; cases e
  ·rw [List.getElem?_set_ne hj] at e
   rw [List.getElem?_set_ne hj]
   exact old hj e
 ·by_cases hj:i=j
  ·subst hj
   have n2:i ≠ k:=hjk
   rw [List.getElem?_set_ne n2] at e2 e4
   by_cases hl:i < τ.length
   ·rw [List.getElem?_set_self (by rw [E.len]; exact hl)] at e3
    cases e3
    obtain ⟨v,g1,r',ws,rfl,k2,_⟩:=E.sl k _ e2
    rw [g1] at e4; cases e4
    rw [n] at k2; cases k2
   ·rw [List.getElem?_eq_none (by simp; omega)] at e1; cases e1
  ·rw [List.getElem?_set_ne hj] at e1 e3
   by_cases hk:i=k
   ·subst hk
    by_cases hl:i < τ.length
    ·rw [List.getElem?_set_self (by rw [E.len]; exact hl)] at e4
     cases e4
     obtain ⟨v,g1,r',ws,rfl,k2,_⟩:=E.sl j _ e1
     rw [g1] at e3; cases e3
     rw [n] at k2; cases k2
    ·rw [List.getElem?_eq_none (by simp; omega)] at e2; cases e2
   ·rw [List.getElem?_set_ne hk] at e2 e4
    exact E.dj j k ts' us q hjk e1 e2 e3 e4
theorem aB.turnOwn {i:Nat} {ts us:List T} {vs:List V} {p:Addr} (E:aB K F₀ H₀ F H σ τ) (e:τ[i]? = some (some (.own ts))) (hp:σ[i]? = some (some (.ref p))) (r:aU K F us vs) :
  aB K F₀ H₀ F (upd H p (.lst vs)) σ (τ.set i (some (.own us))):=by
 obtain ⟨v,h1,p',vs',rfl,h2,h3,h4,h5⟩:=E.sl i _ e
 rw [hp] at h1; cases h1
 have hl:i < τ.length:=(List.getElem?_eq_some_iff.mp e).1
 refine ⟨⟨E.g.sF,fun b o q=>?_,fun b o q=>?_,E.g.nw⟩,by simp [E.len],fun j s q=>?_,fun j k ts' us' q hjk e1 e2 e3=>?_⟩
 ·rw [aJ (fun z=>by subst z; rw [h4] at q; cases q)]; exact E.g.sH _ _ q
 ·rw [aJ (fun z=>by subst z; rw [h3] at q; cases q)]; exact E.g.fh _ _ q
 ·by_cases hj:i=j
  ·subst hj
   rw [List.getElem?_set_self hl] at q; cases q
   exact ⟨_,hp,p,vs,rfl,aR,h3,h4,r⟩
  ·rw [List.getElem?_set_ne hj] at q
   obtain ⟨v,g1,g2⟩:=E.sl j s q
   refine ⟨v,g1,?_⟩
   cases s with
   | sh t=>exact g2
   | own us' =>
    obtain ⟨r',ws,rfl,k2,k3,k4,k5⟩:=g2
    have hne:r' ≠ p:=fun z=>by subst z; exact E.dj i j ts us' r' hj e q hp g1
    exact ⟨r',ws,rfl,by rw [aJ hne]; exact k2,k3,k4,k5⟩
 ·have q1:∃ zs,τ[j]? = some (some (.own zs)):=by
   by_cases hj:i=j
   ·subst hj; exact ⟨_,e⟩
   ·rw [List.getElem?_set_ne hj] at e1; exact ⟨_,e1⟩
  have q2:∃ zs,τ[k]? = some (some (.own zs)):=by
   by_cases hj:i=k
   ·subst hj; exact ⟨_,e⟩
   ·rw [List.getElem?_set_ne hj] at e2; exact ⟨_,e2⟩
  obtain ⟨z1,q1⟩:=q1
  obtain ⟨z2,q2⟩:=q2
  exact E.dj j k z1 z2 q hjk q1 q2 e3
end
open PySem PySem.Spec PyProof.Rows L2
abbrev FE:=aH -> Option (T × aH)
abbrev FA:=aH -> Option (List T × aH)
abbrev FT:=aH -> Option (Bool × aH)
inductive R where
 | nx (τ:aH) | rt (t:T) | bk (τ:aH) | ct (τ:aH)
abbrev FS:=aH -> Option R
abbrev FG:=T -> aH -> Option aH
section
variable (K:PySem.W.Frag) (F₀ H₀:Hp)
def tE (f:FE):TE:=fun σ H Q=>∃ F τ t τ',aB K F₀ H₀ F H σ τ /\ f τ=some (t,τ') /\ ∀ F' H' v,aB K F₀ H₀ F' H' σ τ' -> aO F F' -> Rep K F' t v -> Q v H'
def tA (f:FA):TA:=fun σ H Q=>∃ F τ ts τ',aB K F₀ H₀ F H σ τ /\ f τ=some (ts,τ') /\ ∀ F' H' vs,aB K F₀ H₀ F' H' σ τ' -> aO F F' -> aU K F' ts vs -> Q vs H'
def tT (f:FT):TT:=fun σ H Q=>∃ F τ b τ',aB K F₀ H₀ F H σ τ /\ f τ=some (b,τ') /\ ∀ F' H',aB K F₀ H₀ F' H' σ τ' -> aO F F' -> Q b H'
def qW (F:Hp) (D:Ends):R -> Prop
 | .nx τ'=>∀ F' H' σ',aB K F₀ H₀ F' H' σ' τ' -> aO F F' -> D.nx σ' H'
 | .rt t=>∀ F' H' v,bj F₀ H₀ F' H' -> Rep K F' t v -> D.rt v H'
 | .bk τ'=>∀ F' H' σ',aB K F₀ H₀ F' H' σ' τ' -> aO F F' -> D.bk σ' H'
 | .ct τ'=>∀ F' H' σ',aB K F₀ H₀ F' H' σ' τ' -> aO F F' -> D.ct σ' H'
def tS (f:FS):TS:=fun D σ H=>∃ F τ r,aB K F₀ H₀ F H σ τ /\ f τ=some r /\ qW K F₀ H₀ F D r
end
def SE (X:Cx) (e:Expr) (f:FE):Prop:=∀ F₀ H₀,PE X e (tE X.K F₀ H₀ f)
def SA (X:Cx) (es:List Expr) (f:FA):Prop:=∀ F₀ H₀,PA X es (tA X.K F₀ H₀ f)
def ST (X:Cx) (e:Expr) (f:FT):Prop:=∀ F₀ H₀,PT X e (tT X.K F₀ H₀ f)
def SW (X:Cx) (e:Expr) (f:FT):Prop:=∀ F₀ H₀,PW X e (tT X.K F₀ H₀ f)
def SS (X:Cx) (st:Stmt) (f:FS):Prop:=∀ F₀ H₀,PS X st (tS X.K F₀ H₀ f)
def ud (X:Cx) (st:List Stmt) (f:FS):Prop:=∀ F₀ H₀,ir X st (tS X.K F₀ H₀ f)
section
variable {X:Cx} {e a b:Expr} {pos:Pos} {f fa fb:FE}
theorem PE.weak {t t':TE} (h:PE X e t) (i:∀ σ H Q,t' σ H Q -> t σ H Q):PE X e t':=fun pins s σ H Q I q=>h pins s σ H Q I (i σ H Q q)
theorem PT.weak {t t':TT} (h:PT X e t) (i:∀ σ H Q,t' σ H Q -> t σ H Q):PT X e t':=fun pins s σ H Q I q=>h pins s σ H Q I (i σ H Q q)
theorem PW.weak {t t':TT} (h:PW X e t) (i:∀ σ H Q,t' σ H Q -> t σ H Q):PW X e t':=fun wh pins s σ H Q I q=>h wh pins s σ H Q I (i σ H Q q)
theorem PA.weak {es:List Expr} {t t':TA} (h:PA X es t) (i:∀ σ H Q,t' σ H Q -> t σ H Q):PA X es t':=fun p pins s σ H Q I q=>h p pins s σ H Q I (i σ H Q q)
theorem PS.weak {st:Stmt} {t t':TS} (h:PS X st t) (i:∀ D σ H,t' D σ H -> t D σ H):PS X st t':=fun pins s σ H D I q=>h pins s σ H D I (i D σ H q)
theorem ir.weak {st:List Stmt} {t t':TS} (h:ir X st t) (i:∀ D σ H,t' D σ H -> t D σ H):ir X st t':=fun pins s σ H D I q=>h pins s σ H D I (i D σ H q)
def fC (t:T):FE:=fun τ=>some (t,τ)
def ae (i:Nat):FE:=fun τ=>match τ[i]? with
 | some (some (.sh t))=>some (t,τ)
 | some (some (.own ts))=>some (.lst ts,τ.set i (some (.sh (.lst ts))))
 | _=>none
theorem jw {t:T} {v:V} (h:PE X e (tC v)) (r:∀ F,Rep X.K F t v):SE X e (fC t):=fun F₀ H₀=>PE.weak h fun σ H Q hq__=>by
 obtain ⟨F,τ,t',τ',E,e1,q⟩:=hq__
 cases e1
 exact q F H v E (aO.refl _) (r F)
theorem au {i:Int} {j}:SE X (.Constant (.int i) j pos) (fC (.int i)):=jw GH fun _=>rfl
theorem gS {c:Bool} {j}:SE X (.Constant (.bool c) j pos) (fC (.bl c)):=jw I0 fun _=>rfl
theorem af (i:Nat) {x:Str} (h:PE X (.Name x pos) (ip i)):SE X (.Name x pos) (ae i):=fun F₀ H₀=>PE.weak h fun σ H Q hq__=>by
 obtain ⟨F,τ,t,τ',E,e1,q⟩:=hq__
 unfold ae at e1
 split at e1
 ·next t' e2 =>
  cases e1
  obtain ⟨v,h1,h2⟩:=E.sl i _ e2
  exact ⟨v,h1,q F H v E (aO.refl _) h2⟩
 ·next ts e2 =>
  cases e1
  obtain ⟨F',v,h1,E',sF,r⟩:=E.freeze e2
  exact ⟨v,h1,q F' H v E' sF r⟩
 ·cases e1
theorem gD {x:Str} {n:String} (hg:Gl X x) (hm:X.mg x=none) (hv:bootBuiltins x=some (.type n)) (hn:x ≠ "__name__" := by decide) (hd:(x == ("__debug__" : Str))=false:=by decide):SE X (.Name x pos) (fC (.ty n)):=
 jw (DI (v:=.ty n) hg hm hv rfl hn hd) fun _=>rfl
def Hw (K:PySem.W.Frag) (g:T -> T -> Option T):R2:=fun x y H Q=>∃ F a b t,aO F H /\ Rep K F a x /\ Rep K F b y /\ g a b=some t /\ ∀ F' H' v,bj F H F' H' -> Rep K F' t v -> Q v H'
def LA (K:PySem.W.Frag) (g:T -> Option T):V -> Hp -> VK -> Prop:=fun x H Q=>∃ F a t,aO F H /\ Rep K F a x /\ g a=some t /\ ∀ F' H' v,bj F H F' H' -> Rep K F' t v -> Q v H'
def JV (K:PySem.W.Frag) (g:List T -> Option T):List V -> Hp -> VK -> Prop:=fun xs H Q=>∃ F ts t,aO F H /\ aU K F ts xs /\ g ts=some t /\ ∀ F' H' v,bj F H F' H' -> Rep K F' t v -> Q v H'
abbrev lM (X:Cx) (f:Value -> Value -> Sem Value) (g:T -> T -> Option T):Prop:=lJ X f (Hw X.K g)
abbrev La (X:Cx) (f:Value -> Sem Value) (g:T -> Option T):Prop:=JJ X f (LA X.K g)
abbrev jS (X:Cx) (f:Value) (g:List T -> Option T):Prop:=gH X f (JV X.K g)
def aG (g:T -> T -> Option T) (fa fb:FE):FE:=fun τ=>(fa τ).bind fun p=>(fb p.2).bind fun q=>(g p.1 q.1).bind fun t=>some (t,q.2)
def ub (g:T -> Option T) (fa:FE):FE:=fun τ=>(fa τ).bind fun p=>(g p.1).bind fun t=>some (t,p.2)
theorem bind_some {α β:Type} {o:Option α} {f:α -> Option β} {z:β} (h:o.bind f=some z):∃ x,o=some x /\ f x=some z:=by
 cases o with
 | none=>cases h
 | some x=>exact ⟨x,rfl,h⟩
theorem nP {g:T -> T -> Option T} {F₀ H₀:Hp} {σ:L2.St} {H:Hp} {Q:VK} (h:tE X.K F₀ H₀ (aG g fa fb) σ H Q):Jy (Hw X.K g) (tE X.K F₀ H₀ fa) (tE X.K F₀ H₀ fb) σ H Q:=by
 obtain ⟨F,τ,t,τ',E,e1,q⟩:=h
 obtain ⟨⟨x,τ1⟩,e2,e1⟩:=bind_some e1
 obtain ⟨⟨y,τ2⟩,e3,e1⟩:=bind_some e1
 obtain ⟨z,e4,e1⟩:=bind_some e1
 cases e1
 refine ⟨F,τ,x,τ1,E,e2,fun F1 H1 v1 E1 s1 r1=>⟨F1,τ1,y,_,E1,e3,fun F2 H2 v2 E2 s2 r2=>?_⟩⟩
 exact ⟨F2,x,y,t,E2.g.fh,Rep.mono s2 r1,r2,e4,fun F3 H3 v3 g3 r3=>q F3 H3 v3 (E2.grow g3) ((s1.trans s2).trans g3.sF) r3⟩
theorem aK {op:Operator} {g:T -> T -> Option T} (ho:lM X (binaryOp op) g) (ha:SE X a fa) (hb:SE X b fb):SE X (.BinOp a op b pos) (aG g fa fb):=
 fun F₀ H₀=>PE.weak (Jb ho (ha F₀ H₀) (hb F₀ H₀)) fun _ _ _=>nP
theorem E9 {op:UnaryOp} {g:T -> Option T} (ho:La X (unaryOp op) g) (ha:SE X a fa):SE X (.UnaryOp op a pos) (ub g fa):=
 fun F₀ H₀=>PE.weak (Jc ho (ha F₀ H₀)) fun σ H Q hq__=>by
  obtain ⟨F,τ,t,τ',E,e1,q⟩:=hq__
  obtain ⟨⟨x,τ1⟩,e2,e1⟩:=bind_some e1
  obtain ⟨z,e4,e1⟩:=bind_some e1
  cases e1
  exact ⟨F,τ,x,_,E,e2,fun F1 H1 v1 E1 s1 r1=>⟨F1,x,t,E1.g.fh,r1,e4,fun F3 H3 v3 g3 r3=>q F3 H3 v3 (E1.grow g3) (s1.trans g3.sF) r3⟩⟩
theorem kC {op:CmpOp} {g:T -> T -> Option T} (ho:lM X (compareOp op) g) (ha:SE X a fa) (hb:SE X b fb) (hm:behindInMarks op b=false):SE X (.Compare a [op] [b] pos) (aG g fa fb):=
 fun F₀ H₀=>PE.weak (DJ ho (ha F₀ H₀) (hb F₀ H₀) hm) fun _ _ _=>nP
theorem bx {g:T -> T -> Option T} (ho:Cg X (Hw X.K g)) (ha:SE X a fa) (hb:SE X b fb) (hs:yg b):SE X (.Subscript a b pos) (aG g fa fb):=
 fun F₀ H₀=>PE.weak (Ja ho (ha F₀ H₀) (hb F₀ H₀) hs) fun _ _ _=>nP
def eP (f:FE):FT:=fun τ=>(f τ).bind fun p=>match p.1 with | .bl c=>some (c,p.2) | _=>none
def JW:T -> Option Bool
 | .non=>some false
 | .bl c=>some c
 | .int i=>some (i != 0)
 | .str x=>if x.length ≤ sizeLine then some ((x.length:Int) != 0) else none
 | .tup ts=>some (!ts.isEmpty)
 | .lst ts=>some (!ts.isEmpty)
 | .scr ts=>some (!ts.isEmpty)
 | .dic=>some false
 | .obj _ _ _=>none
 | .ptr _=>none
 | .ty _=>none
def cn (f:FE):FT:=fun τ=>(f τ).bind fun p=>(JW p.1).bind fun c=>some (c,p.2)
theorem cS {op:CmpOp} {g:T -> T -> Option T} (ho:lM X (compareOp op) g) (ha:SE X a fa) (hb:SE X b fb) (hm:behindInMarks op b=false):ST X (.Compare a [op] [b] pos) (eP (aG g fa fb)):=
 fun F₀ H₀=>PT.weak (DP ho (ha F₀ H₀) (hb F₀ H₀) hm) fun σ H Q hq__=>by
  obtain ⟨F,τ,c,τ',E,e1,q⟩:=hq__
  obtain ⟨⟨x,τ1⟩,e2,e1⟩:=bind_some e1
  dsimp only at e1
  split at e1
  ·cases e1
   refine nP (Q:=fun x H'=>∃ k,x=V.bl k /\ Q k H') ⟨F,τ,_,_,E,e2,fun F' H' v E' s' r'=>?_⟩
   exact ⟨c,r',q F' H' E' s'⟩
  ·cases e1
theorem iG {K:PySem.W.Frag} {F:Hp} {ts:List T} {vs:List V} (h:aU K F ts vs):vs.isEmpty=ts.isEmpty:=by
 cases ts with
 | nil=>cases h; rfl
 | cons t ts=>obtain ⟨v,r,rfl,_⟩:=h; rfl
theorem Em {K:PySem.W.Frag} {F H:Hp} {t:T} {v:V} {c:Bool} (s:aO F H) (r:Rep K F t v) (e:JW t=some c):Fj K v H c:=by
 cases t with
 | non=>cases r; cases e; exact rfl
 | bl _=>cases r; cases e; exact rfl
 | int _=>cases r; cases e; exact rfl
 | str x =>
  cases r
  simp only [JW] at e
  split at e
  ·next h=>cases e; exact ⟨h,rfl⟩
  ·cases e
 | ty _=>cases e
 | tup ts =>
  obtain ⟨p,xs,rfl,h1,h2⟩:=r
  cases e
  exact .inr (.inl ⟨xs,bV s h1,by rw [iG h2]⟩)
 | lst ts =>
  obtain ⟨p,xs,rfl,h1,h2⟩:=r
  cases e
  exact .inl ⟨xs,eZ.of (s _ _ h1),by rw [iG h2]⟩
 | scr ts =>
  obtain ⟨p,xs,rfl,h1,h2⟩:=r
  cases e
  exact .inl ⟨xs,s.seq h1,by rw [iG h2]⟩
 | dic =>
  obtain ⟨p,rfl,h1⟩:=r
  cases e
  exact .inr (.inr ⟨[],s _ _ h1,rfl⟩)
 | obj _ _ _=>cases e
 | ptr _=>cases e
theorem dE (h:SE X e f) (he:∀ whole,isTrue e X.env whole=(do let v <- whole; standAt e.pos; holding [v] (truthy v)):=by intro _; rfl):ST X e (cn f):=
 fun F₀ H₀=>PT.weak (BO (h F₀ H₀) he) fun σ H Q hq__=>by
  obtain ⟨F,τ,c,τ',E,e1,q⟩:=hq__
  obtain ⟨⟨x,τ1⟩,e2,e1⟩:=bind_some e1
  obtain ⟨z,e4,e1⟩:=bind_some e1
  cases e1
  exact ⟨F,τ,x,_,E,e2,fun F1 H1 v1 E1 s1 r1=>⟨c,Em E1.g.fh r1 e4,q F1 H1 E1 s1⟩⟩
variable {ta tb:FT} {rest:List Expr}
def zO (ta tb:FT):FT:=fun τ=>(ta τ).bind fun p=>if p.1=true then tb p.2 else some (false,p.2)
def m7 (ta tb:FT):FT:=fun τ=>(ta τ).bind fun p=>if p.1=true then some (true,p.2) else tb p.2
def cj (ta:FT):FT:=fun τ=>(ta τ).bind fun p=>some (!p.1,p.2)
theorem dq (h:ST X a ta):ST X (.UnaryOp .Not a pos) (cj ta):=fun F₀ H₀=>PT.weak (GV (h F₀ H₀)) fun σ H Q hq__=>by
 obtain ⟨F,τ,c,τ',E,e1,q⟩:=hq__
 obtain ⟨⟨x,τ1⟩,e2,e1⟩:=bind_some e1
 cases e1
 exact ⟨F,τ,x,_,E,e2,fun F1 H1 E1 s1=>q F1 H1 E1 s1⟩
theorem Ei (h:ST X a ta):SW X (.BoolOp .And [a] pos) ta:=fun F₀ H₀=>DR (h F₀ H₀)
theorem jy (h:ST X a ta):SW X (.BoolOp .Or [a] pos) ta:=fun F₀ H₀=>GX (h F₀ H₀)
theorem G9 (ha:ST X a ta) (hb:SW X (.BoolOp .And (b :: rest) pos) tb):SW X (.BoolOp .And (a :: b :: rest) pos) (zO ta tb):=fun F₀ H₀=>PW.weak (GW (ha F₀ H₀) (hb F₀ H₀)) fun σ H Q hq__=>by
 obtain ⟨F,τ,c,τ',E,e1,q⟩:=hq__
 obtain ⟨⟨x,τ1⟩,e2,e1⟩:=bind_some e1
 refine ⟨F,τ,x,τ1,E,e2,fun F1 H1 E1 s1=>?_⟩
 dsimp only at e1
 split at e1
 ·next h=>rw [if_pos h]; exact ⟨F1,τ1,c,τ',E1,e1,fun F2 H2 E2 s2=>q F2 H2 E2 (s1.trans s2)⟩
 ·next h=>rw [if_neg h]; cases e1; exact q F1 H1 E1 s1
theorem lG (ha:ST X a ta) (hb:SW X (.BoolOp .Or (b :: rest) pos) tb):SW X (.BoolOp .Or (a :: b :: rest) pos) (m7 ta tb):=fun F₀ H₀=>PW.weak (Jd (ha F₀ H₀) (hb F₀ H₀)) fun σ H Q hq__=>by
 obtain ⟨F,τ,c,τ',E,e1,q⟩:=hq__
 obtain ⟨⟨x,τ1⟩,e2,e1⟩:=bind_some e1
 refine ⟨F,τ,x,τ1,E,e2,fun F1 H1 E1 s1=>?_⟩
 dsimp only at e1
 split at e1
 ·next h=>rw [if_pos h]; cases e1; exact q F1 H1 E1 s1
 ·next h=>rw [if_neg h]; exact ⟨F1,τ1,c,τ',E1,e1,fun F2 H2 E2 s2=>q F2 H2 E2 (s1.trans s2)⟩
theorem SW.st (h:SW X e ta):ST X e ta:=fun F₀ H₀=>(h F₀ H₀).pt
def dZ (fa fb:FE):FE:=fun τ=>(fa τ).bind fun p=>match p.1 with | .bl true=>fb p.2 | .bl false=>some (.bl false,p.2) | _=>none
def Kh (fa fb:FE):FE:=fun τ=>(fa τ).bind fun p=>match p.1 with | .bl true=>some (.bl true,p.2) | .bl false=>fb p.2 | _=>none
def C3:T -> Option T
 | .bl c=>some (.bl (!c))
 | _=>none
theorem kE {op} (h:SE X a fa):SE X (.BoolOp op [a] pos) fa:=fun F₀ H₀=>GJ (h F₀ H₀)
theorem eV (ha:SE X a fa) (hb:SE X (.BoolOp .And (b :: rest) pos) fb):SE X (.BoolOp .And (a :: b :: rest) pos) (dZ fa fb):=fun F₀ H₀=>PE.weak (GF (ha F₀ H₀) (hb F₀ H₀)) fun σ H Q hq__=>by
 obtain ⟨F,τ,c,τ',E,e1,q⟩:=hq__
 obtain ⟨⟨x,τ1⟩,e2,e1⟩:=bind_some e1
 dsimp only at e1
 refine ⟨F,τ,x,τ1,E,e2,fun F1 H1 v E1 s1 r1=>?_⟩
 split at e1
 ·cases r1; exact ⟨true,rfl,by rw [if_pos rfl]; exact ⟨F1,τ1,c,τ',E1,e1,fun F2 H2 v2 E2 s2=>q F2 H2 v2 E2 (s1.trans s2)⟩⟩
 ·cases r1; cases e1; exact ⟨false,rfl,by rw [if_neg (by decide)]; exact q F1 H1 _ E1 s1 rfl⟩
 ·cases e1
theorem G1 (ha:SE X a fa):SE X (.UnaryOp .Not a pos) (ub C3 fa):=fun F₀ H₀=>PE.weak (GI (ha F₀ H₀)) fun σ H Q hq__=>by
 obtain ⟨F,τ,c,τ',E,e1,q⟩:=hq__
 obtain ⟨⟨x,τ1⟩,e2,e1⟩:=bind_some e1
 obtain ⟨z,e4,e1⟩:=bind_some e1
 cases e1
 refine ⟨F,τ,x,_,E,e2,fun F1 H1 v E1 s1 r1=>?_⟩
 dsimp only at e4
 unfold C3 at e4
 split at e4
 ·cases r1; cases e4; exact ⟨_,rfl,q F1 H1 _ E1 s1 rfl⟩
 ·cases e4
def Lr (t:FT) (fa fb:FE):FE:=fun τ=>(t τ).bind fun p=>if p.1=true then fa p.2 else fb p.2
variable {es:List Expr} {g:FA}
def ao:FA:=fun τ=>some ([],τ)
def aa (f:FE) (g:FA):FA:=fun τ=>(f τ).bind fun p=>(g p.2).bind fun q=>some (p.1 :: q.1,q.2)
theorem aq:SA X [] ao:=fun F₀ H₀=>PA.weak md fun σ H Q hq__=>by
 obtain ⟨F,τ,c,τ',E,e1,q⟩:=hq__
 cases e1
 exact q F H [] E (aO.refl _) rfl
theorem ag (ha:SE X e f) (hr:SA X es g) (hs:starEach (e :: es) X.env=(false,eval e X.env) :: starEach es X.env:=by rfl):SA X (e :: es) (aa f g):=fun F₀ H₀=>PA.weak (jH (ha F₀ H₀) (hr F₀ H₀) hs) fun σ H Q hq__=>by
 obtain ⟨F,τ,c,τ',E,e1,q⟩:=hq__
 obtain ⟨⟨x,τ1⟩,e2,e1⟩:=bind_some e1
 obtain ⟨⟨y,τ2⟩,e3,e1⟩:=bind_some e1
 cases e1
 exact ⟨F,τ,x,τ1,E,e2,fun F1 H1 v E1 s1 r1=>⟨F1,τ1,y,_,E1,e3,fun F2 H2 vs E2 s2 r2=>q F2 H2 _ E2 (s1.trans s2) ⟨v,vs,rfl,Rep.mono s2 r1,r2⟩⟩⟩
def fz (g:FA):FE:=fun τ=>(g τ).bind fun p=>if p.1.length ≤ sizeLine then some (.tup p.1,p.2) else none
def kl (g:FA):FE:=fun τ=>(g τ).bind fun p=>if p.1.length ≤ sizeLine then some (.lst p.1,p.2) else none
theorem fI {k} (h:SA X es g):SE X (.Tuple es k pos) (fz g):=fun F₀ H₀=>PE.weak (GK (h F₀ H₀)) fun σ H Q hq__=>by
 obtain ⟨F,τ,c,τ',E,e1,q⟩:=hq__
 obtain ⟨⟨x,τ1⟩,e2,e1⟩:=bind_some e1
 dsimp only at e1
 split at e1
 ·next hl =>
  cases e1
  refine ⟨F,τ,x,_,E,e2,fun F1 H1 vs E1 s1 r1=>⟨by rw [r1.length]; exact hl,fun p hp=>?_⟩⟩
  have gr:=bj.new (.tup vs) E1.g.fh hp
  exact q _ _ _ (E1.grow gr) (s1.trans gr.sF) ⟨p,vs,rfl,kc.of aR,aU.mono gr.sF r1⟩
 ·cases e1
theorem tX (h:SA X es g):SE X (.List es pos) (kl g):=fun F₀ H₀=>PE.weak (xv (h F₀ H₀)) fun σ H Q hq__=>by
 obtain ⟨F,τ,c,τ',E,e1,q⟩:=hq__
 obtain ⟨⟨x,τ1⟩,e2,e1⟩:=bind_some e1
 dsimp only at e1
 split at e1
 ·next hl =>
  cases e1
  refine ⟨F,τ,x,_,E,e2,fun F1 H1 vs E1 s1 r1=>⟨by rw [r1.length]; exact hl,fun p hp=>?_⟩⟩
  have gr:=bj.new (.lst vs) E1.g.fh hp
  exact q _ _ _ (E1.grow gr) (s1.trans gr.sF) ⟨p,vs,rfl,aR,aU.mono gr.sF r1⟩
 ·cases e1
def ak (d:List T -> Option T) (g:FA):FE:=fun τ=>(g τ).bind fun p=>(d p.1).bind fun t=>some (t,p.2)
theorem qC {d:List T -> Option T} {F₀ H₀:Hp} {σ:L2.St} {H:Hp} {Q:VK} (h:tE X.K F₀ H₀ (ak d g) σ H Q):tA X.K F₀ H₀ g σ H fun vs H1=>JV X.K d vs H1 Q:=by
 obtain ⟨F,τ,c,τ',E,e1,q⟩:=h
 obtain ⟨⟨x,τ1⟩,e2,e1⟩:=bind_some e1
 obtain ⟨z,e4,e1⟩:=bind_some e1
 cases e1
 exact ⟨F,τ,x,_,E,e2,fun F1 H1 vs E1 s1 r1=>⟨F1,x,c,E1.g.fh,r1,e4,fun F3 H3 v3 g3 r3=>q F3 H3 v3 (E1.grow g3) (s1.trans g3.sF) r3⟩⟩
theorem aN {d:List T -> Option T} {id:String} {x:Str} {p:Pos} (hc:jS X (.builtin id) d) (hg:Gl X x) (hm:X.mg x=none) (hv:bootBuiltins x=some (.builtin id)) (ha:SA X (e :: es) g) (hn:x ≠ "__name__" := by decide) (hdb:(x == ("__debug__" : Str))=false:=by decide)
  (he:starEach (e :: es) X.env=(false,eval e X.env) :: starEach es X.env:=by rfl) (hpl:(backTo pos (starEach es X.env)).any (·.1)=false:=by rfl):SE X (.Call (.Name x p) (e :: es) [] pos) (ak d g):=
 fun F₀ H₀=>PE.weak (BH hc hg hm hv (ha F₀ H₀) hn hdb he hpl) fun _ _ _=>qC
theorem jL {d:List T -> Option T} {id:String} {x:Str} {p:Pos} (hc:jS X (.type id) d) (hg:Gl X x) (hm:X.mg x=none) (hv:bootBuiltins x=some (.type id)) (ha:SA X (e :: es) g) (hn:x ≠ "__name__" := by decide) (hdb:(x == ("__debug__" : Str))=false:=by decide)
  (he:starEach (e :: es) X.env=(false,eval e X.env) :: starEach es X.env:=by rfl) (hpl:(backTo pos (starEach es X.env)).any (·.1)=false:=by rfl):SE X (.Call (.Name x p) (e :: es) [] pos) (ak d g):=
 fun F₀ H₀=>PE.weak (me hc hg hm hv (ha F₀ H₀) hn hdb he hpl) fun _ _ _=>qC
end
def spT (K:PySem.W.Frag) (n:Nat) (d:List T -> Option T):Sp:=fun vs H Q _=>vs.length=n /\ JV K d vs H Q
structure Def (P:Program) (w:World) (K:PySem.W.Frag) (mg:Str -> Option Value) (base:Heap) (k:Nat) (x:Str) (n:Nat) (d:List T -> Option T):Prop where
 ex:∃ f fd ps,gb P w K mg base nC k f fd ps (spT K n d) /\ Binds K fd ps [] /\ PySem.W.keepIn K (.ref f)=true /\ mg x=some (.ref f) /\ ps.length=n
theorem Def.imp {P:Program} {w:World} {K:PySem.W.Frag} {mg:Str -> Option Value} {base:Heap} {k n:Nat} {x:Str} {d d':List T -> Option T} (D:Def P w K mg base k x n d) (h:∀ ts t,d' ts=some t -> d ts=some t):Def P w K mg base k x n d':=by
 obtain ⟨f,fd,ps,F,r⟩:=D.ex
 exact ⟨f,fd,ps,F.imp fun vs H Q E ⟨l,F,ts,t,a,b,c,q⟩=>⟨l,F,ts,t,a,b,h _ _ c,q⟩,r⟩
theorem Def.mono {P:Program} {w:World} {K:PySem.W.Frag} {mg:Str -> Option Value} {base:Heap} {j k n:Nat} {x:Str} {d:List T -> Option T} (D:Def P w K mg base j x n d) (h:j ≤ k):Def P w K mg base k x n d:=by
 obtain ⟨f,fd,ps,F,r⟩:=D.ex
 exact ⟨f,fd,ps,F.mono h,r⟩
theorem Def.zero {P:Program} {w:World} {K:PySem.W.Frag} {mg:Str -> Option Value} {base:Heap} {x qual:Str} {st:Stmt} {f:Addr} {fd:FuncData} {ps:List Str} (F:eY K x qual st f fd) (hb:Binds K fd ps []) (hm:mg x=some (.ref f)):Def P w K mg base 0 x ps.length (fun _=>none):=
 ⟨f,fd,ps,⟨fun vs H Q E h=>h.1,fun A outer s H args us vs Q E _ _ _ _ h=>by obtain ⟨_,F,ts,t,_,_,e,_⟩:=h; cases e⟩,hb,F.kp,hm,rfl⟩
section
variable {X:Cx} {e:Expr} {es:List Expr} {pos:Pos} {g:FA}
theorem aF {k n:Nat} {x:Str} {p:Pos} {d:List T -> Option T} (D:Def X.prog X.w X.K X.mg X.base k x n d) (hr:dz k X.A) (hg:Gl X x) (ha:SA X (e :: es) g) (hl:∀ τ ts τ',g τ=some (ts,τ') -> ts.length=n) (hdb:(x == ("__debug__" : Str))=false:=by decide)
  (he:starEach (e :: es) X.env=(false,eval e X.env) :: starEach es X.env:=by rfl) (hpl:(backTo pos (starEach es X.env)).any (·.1)=false:=by rfl):SE X (.Call (.Name x p) (e :: es) [] pos) (ak d g):=by
 obtain ⟨f,fd,ps,F,hb,hk,hm,hn⟩:=D.ex
 intro F₀ H₀
 refine PE.weak (yU (E:=E0) (CX:=nC) F hr hg hm hk hb .nil vB (ha F₀ H₀) hdb he hpl) fun σ H Q h=>?_
 obtain ⟨F,τ,c,τ',E,e1,q⟩:=h
 obtain ⟨⟨z,τ1⟩,e2,e1⟩:=bind_some e1
 have hz:=hl _ _ _ e2
 obtain ⟨u,e4,e1⟩:=bind_some e1
 cases e1
 refine ⟨F,τ,z,_,E,e2,fun F1 H1 vs E1 s1 r1=>⟨by rw [List.append_nil,r1.length]; exact hz,F1,z,c,E1.g.fh,by rw [List.append_nil]; exact r1,e4,fun F3 H3 v3 g3 r3=>q F3 H3 v3 (E1.grow g3) (s1.trans g3.sF) r3⟩⟩
theorem aE:∀ τ ts τ',ao τ=some (ts,τ') -> ts.length=0:=fun _ _ _ h=>by cases h; rfl
theorem ah {f:FE} {g:FA} {n:Nat} (h:∀ τ ts τ',g τ=some (ts,τ') -> ts.length=n):∀ τ ts τ',aa f g τ=some (ts,τ') -> ts.length=n + 1:=fun τ ts τ' e=>by
 obtain ⟨⟨x,τ1⟩,e2,e1⟩:=bind_some e
 obtain ⟨⟨y,τ2⟩,e3,e1⟩:=bind_some e1
 cases e1
 simp [h _ _ _ e3]
end
open PySem PySem.Spec PyProof.Rows L2
section
variable {X:Cx} {e a b:Expr} {pos:Pos} {f fa fb:FE} {ga:FA} {es:List Expr}
def eH:FS:=fun _=>none
def bI:FS:=fun τ=>some (.nx τ)
def bE (f:FE):FS:=fun τ=>(f τ).bind fun p=>some (.rt p.1)
def mJ (f:FE):FS:=fun τ=>(f τ).bind fun p=>some (.nx p.2)
def bY (c:FT) (t u:FS):FS:=fun τ=>(c τ).bind fun p=>if p.1=true then t p.2 else u p.2
def aV (t u:FS):FS:=fun τ=>(t τ).bind fun r=>match r with | .nx τ'=>u τ' | r=>some r
theorem qW.mono {K:PySem.W.Frag} {F₀ H₀ F F':Hp} {D:Ends} {r:R} (s:aO F F') (h:qW K F₀ H₀ F D r):qW K F₀ H₀ F' D r:=by
 cases r with
 | nx τ=>exact fun F1 H1 σ1 E1 s1=>h F1 H1 σ1 E1 (s.trans s1)
 | rt t=>exact h
 | bk τ=>exact fun F1 H1 σ1 E1 s1=>h F1 H1 σ1 E1 (s.trans s1)
 | ct τ=>exact fun F1 H1 σ1 E1 s1=>h F1 H1 σ1 E1 (s.trans s1)
theorem gE {st:Stmt}:SS X st eH:=fun F₀ H₀=>PS.weak BM fun D σ H ⟨F,τ,r,E,e1,q⟩=>by cases e1
theorem aY (h:SE X e f):SS X (.Return (some e) pos) (bE f):=fun F₀ H₀=>PS.weak (tJ (h F₀ H₀)) fun D σ H hq__=>by
 obtain ⟨F,τ,r,E,e1,q⟩:=hq__
 obtain ⟨⟨x,τ1⟩,e2,e1⟩:=bind_some e1
 cases e1
 exact ⟨F,τ,x,τ1,E,e2,fun F' H' v E' s' r'=>q F' H' v E'.g r'⟩
theorem zt (h:SE X e f) (hs:swapsWith e none pos.line X.env=pure false:=by rfl):SS X (.Expr e pos) (mJ f):=fun F₀ H₀=>PS.weak (jI (h F₀ H₀) hs) fun D σ H hq__=>by
 obtain ⟨F,τ,r,E,e1,q⟩:=hq__
 obtain ⟨⟨x,τ1⟩,e2,e1⟩:=bind_some e1
 cases e1
 exact ⟨F,τ,x,τ1,E,e2,fun F' H' v E' s' r'=>q F' H' σ E' s'⟩
theorem dt {c:Expr} {ss us:List Stmt} {tc:FT} {t u:FS} (hc:ST X c tc) (ha:ud X ss t) (hb:ud X us u):SS X (.If c ss us pos) (bY tc t u):=fun F₀ H₀=>PS.weak (E5 (hc F₀ H₀) (ha F₀ H₀) (hb F₀ H₀)) fun D σ H hq__=>by
 obtain ⟨F,τ,r,E,e1,q⟩:=hq__
 obtain ⟨⟨x,τ1⟩,e2,e1⟩:=bind_some e1
 refine ⟨F,τ,x,τ1,E,e2,fun F' H' E' s'=>?_⟩
 dsimp only at e1
 split at e1
 ·next h=>rw [if_pos h]; exact ⟨F',τ1,r,E',e1,q.mono s'⟩
 ·next h=>rw [if_neg h]; exact ⟨F',τ1,r,E',e1,q.mono s'⟩
theorem bU:ud X [] bI:=fun F₀ H₀=>ir.weak tM fun D σ H hq__=>by
 obtain ⟨F,τ,r,E,e1,q⟩:=hq__
 cases e1
 exact q F H σ E (aO.refl _)
theorem ar {st:Stmt} {rest:List Stmt} {t u:FS} (h1:SS X st t) (h2:ud X rest u):ud X (st :: rest) (aV t u):=fun F₀ H₀=>ir.weak (cX (h1 F₀ H₀) (h2 F₀ H₀)) fun D σ H hq__=>by
 obtain ⟨F,τ,r,E,e1,q⟩:=hq__
 obtain ⟨x,e2,e1⟩:=bind_some e1
 refine ⟨F,τ,x,E,e2,?_⟩
 cases x with
 | nx τ1=>exact fun F1 H1 σ1 E1 s1=>⟨F1,τ1,r,E1,e1,q.mono s1⟩
 | rt t=>cases e1; exact q
 | bk t=>cases e1; exact q
 | ct t=>cases e1; exact q
theorem aA {st:Stmt} {t:FS} (h1:SS X st t):ud X [st] t:=fun F₀ H₀=>iH (h1 F₀ H₀)
theorem Aq {st:List Stmt}:ud X st eH:=fun F₀ H₀=>ir.weak Ah fun D σ H ⟨F,τ,r,E,e1,q⟩=>by cases e1
def bh (i:Nat) (f:FE):FS:=fun τ=>(f τ).bind fun p=>some (.nx (p.2.set i (some (.sh p.1))))
def eh (i:Nat) (g:FA):FS:=fun τ=>(g τ).bind fun p=>if p.1.length ≤ sizeLine then some (.nx (p.2.set i (some (.own p.1)))) else none
theorem aZ (i:Nat) {x:Str} {pos':Pos} (hN:X.N.Nodup) (hi:X.N[i]? = some x) (hx:Loc X.env.scope x) (he:SE X e f) (hs:swapsWith e (some (.Name x pos')) pos.line X.env=pure false:=by rfl)
  (hf:X.fn x=true \/ X.env.scope.names.lookup x=some .local:=by first | exact .inl rfl | exact .inr rfl | assumption):SS X (.Assign [.Name x pos'] e pos) (bh i f):=fun F₀ H₀=>PS.weak (tK hN hi hx (he F₀ H₀) hs hf) fun D σ H hq__=>by
 obtain ⟨F,τ,r,E,e1,q⟩:=hq__
 obtain ⟨⟨y,τ1⟩,e2,e1⟩:=bind_some e1
 cases e1
 exact ⟨F,τ,y,τ1,E,e2,fun F' H' v E' s' r'=>q F' H' _ (E'.set r') s'⟩
theorem mD (i:Nat) {x:Str} {pos':Pos} {p2:Pos} (hN:X.N.Nodup) (hi:X.N[i]? = some x) (hx:Loc X.env.scope x) (he:SA X es ga) (hs:swapsWith (.List es p2) (some (.Name x pos')) pos.line X.env=pure false:=by rfl)
  (hf:X.fn x=true \/ X.env.scope.names.lookup x=some .local:=by first | exact .inl rfl | exact .inr rfl | assumption):SS X (.Assign [.Name x pos'] (.List es p2) pos) (eh i ga):=fun F₀ H₀=>PS.weak (tK hN hi hx (xv (he F₀ H₀)) hs hf) fun D σ H hq__=>by
 obtain ⟨F,τ,r,E,e1,q⟩:=hq__
 obtain ⟨⟨y,τ1⟩,e2,e1⟩:=bind_some e1
 dsimp only at e1
 split at e1
 ·next hl =>
  cases e1
  exact ⟨F,τ,y,τ1,E,e2,fun F' H' vs E' s' r'=>⟨by rw [r'.length]; exact hl,fun p hp=>q F' _ _ (E'.setOwn hp r') s'⟩⟩
 ·cases e1
def tG (K:PySem.W.Frag) (F₀ H₀:Hp) (fg:FG):TG:=fun v σ H Q=>∃ F τ t τ',aB K F₀ H₀ F H σ τ /\ Rep K F t v /\ fg t τ=some τ' /\ ∀ F' H' σ',aB K F₀ H₀ F' H' σ' τ' -> aO F F' -> Q σ' H'
def LG (K:PySem.W.Frag) (F₀ H₀:Hp) (fg:List T -> aH -> Option aH):Ci:=fun vs σ H Q=>∃ F τ ts τ',aB K F₀ H₀ F H σ τ /\ aU K F ts vs /\ fg ts τ=some τ' /\ ∀ F' H' σ',aB K F₀ H₀ F' H' σ' τ' -> aO F F' -> Q σ' H'
def SG (X:Cx) (tg:Expr) (fg:FG):Prop:=∀ F₀ H₀,PG X tg (tG X.K F₀ H₀ fg)
def HG (X:Cx) (tg:List Expr) (fg:List T -> aH -> Option aH):Prop:=∀ F₀ H₀,Hl X tg (LG X.K F₀ H₀ fg)
def aj (i:Nat):FG:=fun t τ=>some (τ.set i (some (.sh t)))
def bS:List T -> aH -> Option aH
 | [],τ=>some τ
 | _ :: _,_=>none
def ay (g:FG) (gs:List T -> aH -> Option aH):List T -> aH -> Option aH
 | [],_=>none
 | t :: ts,τ=>(g t τ).bind fun τ1=>gs ts τ1
def bX (gs:List T -> aH -> Option aH):FG:=fun t τ=>match t with
 | .tup ts=>gs ts τ
 | _=>none
theorem az (i:Nat) {x:Str} (hN:X.N.Nodup) (hi:X.N[i]? = some x) (hx:Loc X.env.scope x) (hf:X.fn x=true \/ X.env.scope.names.lookup x=some .local:=by first | exact .inl rfl | exact .inr rfl | assumption):SG X (.Name x pos) (aj i):=
 fun F₀ H₀ pins s σ H v u Q I r h=>tF hN hi hx hf pins s σ H v u Q I r (by
  obtain ⟨F,τ,t,τ',E,rt,e1,q⟩:=h
  cases e1
  exact q F H _ (E.set rt) (aO.refl _))
theorem cD:HG X [] bS:=fun F₀ H₀ pins s σ H vs us Q I r h=>DL pins s σ H vs us Q I r (by
 obtain ⟨F,τ,ts,τ',E,rt,e1,q⟩:=h
 cases ts with
 | nil=>cases e1; cases rt; exact ⟨rfl,q F H σ E (aO.refl _)⟩
 | cons t ts=>cases e1)
theorem aL {g:FG} {gs:List T -> aH -> Option aH} (h1:SG X e g) (h2:HG X es gs) (hs:(assignEach (e :: es) X.env).map (·.2)=assign e X.env :: (assignEach es X.env).map (·.2):=by rfl):HG X (e :: es) (ay g gs):=
 fun F₀ H₀ pins s σ H vs us Q I r h=>BJ (h1 F₀ H₀) (h2 F₀ H₀) hs pins s σ H vs us Q I r (by
  obtain ⟨F,τ,ts,τ',E,rt,e1,q⟩:=h
  cases ts with
  | nil=>cases e1
  | cons t ts =>
   obtain ⟨v,rr,rfl,r1,r2⟩:=rt
   obtain ⟨τ1,e2,e1⟩:=bind_some e1
   exact ⟨v,rr,rfl,F,τ,t,τ1,E,r1,e2,fun F' H' σ' E' s'=>⟨F',τ1,ts,τ',E',aU.mono s' r2,e1,fun F2 H2 σ2 E2 s2=>q F2 H2 σ2 E2 (s'.trans s2)⟩⟩)
theorem di:∀ ts τ τ',bS ts τ=some τ' -> ts.length=0:=fun ts τ τ' h=>by cases ts <;> first | rfl | cases h
theorem aT {g:FG} {gs:List T -> aH -> Option aH} {n:Nat} (h:∀ ts τ τ',gs ts τ=some τ' -> ts.length=n):∀ ts τ τ',ay g gs ts τ=some τ' -> ts.length=n + 1:=fun ts τ τ' e=>by
 cases ts with
 | nil=>cases e
 | cons t ts =>
  obtain ⟨τ1,e2,e1⟩:=bind_some e
  simp [h _ _ _ e1]
theorem dC {gs:List T -> aH -> Option aH} {k:Nat} {n:Nat} (hc:X.calm=true) (h:HG X es gs) (hl:∀ ts τ τ',gs ts τ=some τ' -> ts.length=n)
  (hn:(assignEach es X.env).length=n:=by rfl) (hst:(assignEach es X.env).findIdx? (·.1)=none:=by rfl):SG X (.Tuple es k pos) (bX gs):=
 fun F₀ H₀ pins s σ H v u Q I r h'=>GP hc (h F₀ H₀) hn hst pins s σ H v u Q I r (by
  obtain ⟨F,τ,t,τ',E,rt,e1,q⟩:=h'
  unfold bX at e1
  split at e1
  ·next ts =>
   obtain ⟨p,xs,rfl,h1,h2⟩:=rt
   exact ⟨p,xs,rfl,bV E.g.fh h1,by rw [h2.length]; exact hl _ _ _ e1,F,τ,ts,τ',E,h2,e1,q⟩
  ·cases e1)
def jN (f:FE) (g:FG):FS:=fun τ=>(f τ).bind fun p=>(g p.1 p.2).bind fun τ'=>some (.nx τ')
theorem kH {tg:Expr} {g:FG} (he:SE X e f) (hg:SG X tg g) (hs:swapsWithSole [tg] e pos.line X.env=pure false:=by rfl) (hw:swappedStores [tg] e X.env=pure none:=by rfl)
  (h1:(assignEach [tg] X.env).map (·.2)=[assign tg X.env]:=by rfl):SS X (.Assign [tg] e pos) (jN f g):=fun F₀ H₀=>PS.weak (xB (he F₀ H₀) (hg F₀ H₀) hs hw h1) fun D σ H hq__=>by
 obtain ⟨F,τ,r,E,e1,q⟩:=hq__
 obtain ⟨⟨y,τ1⟩,e2,e1⟩:=bind_some e1
 obtain ⟨τ2,e3,e1⟩:=bind_some e1
 cases e1
 exact ⟨F,τ,y,τ1,E,e2,fun F' H' v E' s' r'=>⟨F',τ1,y,τ2,E',r',e3,fun F2 H2 σ2 E2 s2=>q F2 H2 σ2 E2 (s'.trans s2)⟩⟩
def m8 (i j:Nat) (g:FA):FS:=fun τ=>(g τ).bind fun p=>match p.1 with
 | [v,w]=>some (.nx ((p.2.set i (some (.sh v))).set j (some (.sh w))))
 | _=>none
theorem pG {i j:Nat} {x y:Str} {px py pt:Pos} {kt k2 pt2} (hc:X.calm=true) (hN:X.N.Nodup) (hi:X.N[i]? = some x) (hj:X.N[j]? = some y) (hij:i ≠ j)
  (hx:X.env.scope.names.lookup x=some .local) (hy:X.env.scope.names.lookup y=some .local) (ha:SA X [a,b] ga)
  (hw:swappedStores [.Tuple [.Name x px,.Name y py] kt pt] (.Tuple [a,b] k2 pt2) X.env=pure (some [x,y]))
  (hs:swapsWithSole [.Tuple [.Name x px,.Name y py] kt pt] (.Tuple [a,b] k2 pt2) pos.line X.env=pure false:=by rfl) :
  SS X (.Assign [.Tuple [.Name x px,.Name y py] kt pt] (.Tuple [a,b] k2 pt2) pos) (m8 i j ga):=fun F₀ H₀=>PS.weak (GU hc hN hi hj hij hx hy (ha F₀ H₀) hw hs) fun D σ H hq__=>by
 obtain ⟨F,τ,r,E,e1,q⟩:=hq__
 obtain ⟨⟨ts,τ1⟩,e2,e1⟩:=bind_some e1
 dsimp only at e1
 split at e1
 ·next v w =>
  cases e1
  refine ⟨F,τ,_,τ1,E,e2,fun F' H' vs E' s' r'=>?_⟩
  obtain ⟨v1,r1,rfl,q1,v2,r2,rfl,q2,rfl⟩:=r'
  exact ⟨v1,v2,rfl,q F' H' _ ((E'.set q1).set q2) s'⟩
 ·cases e1
structure Walks (K:PySem.W.Frag) (F:Hp) (ts:List T) (J:It):Prop where
 go:∀ (i:Nat) t F1 H1,ts[i]? = some t -> aO F F1 -> aO F1 H1 -> J.go i H1
 yld:∀ (i:Nat) t F1 H1 x H2,ts[i]? = some t -> aO F F1 -> aO F1 H1 -> J.yld i H1 x H2 -> ∃ F2,bj F1 H1 F2 H2 /\ Rep K F2 t x
 stop:∀ F1 H1,aO F F1 -> aO F1 H1 -> J.stop ts.length H1
def tI (K:PySem.W.Frag) (F₀ H₀:Hp) (fi:FA):TI:=fun σ H R=>∃ F τ ts τ',aB K F₀ H₀ F H σ τ /\ fi τ=some (ts,τ') /\ ∀ F' H' J,aB K F₀ H₀ F' H' σ τ' -> aO F F' -> Walks K F' ts J -> R J H'
def SI (X:Cx) (tg iter:Expr) (fi:FA):Prop:=∀ F₀ H₀,PI X tg iter (tI X.K F₀ H₀ fi)
def df (fg:FG) (fb:FS):List T -> FS
 | [],τ=>some (.nx τ)
 | t :: ts,τ=>(fg t τ).bind fun τ1=>(fb τ1).bind fun r=>match r with
  | .nx τ2=>df fg fb ts τ2
  | .ct τ2=>df fg fb ts τ2
  | .bk τ2=>some (.nx τ2)
  | .rt v=>some (.rt v)
def fO (fi:FA) (fg:FG) (fb:FS):FS:=fun τ=>(fi τ).bind fun p=>df fg fb p.1 p.2
theorem ia {tg iter:Expr} {body:List Stmt} {fi:FA} {fg:FG} {fb:FS} (hp:PassesOwn (model X.prog X.w) X.A X.env X.xe) (hc:X.calm=true) (hi:SI X tg iter fi) (hg:SG X tg fg) (hb:ud X body fb)
  (hs:∀ x,foldedSetIterable iter X.env x=pure x:=by intro _; rfl):SS X (.For tg iter body [] pos) (fO fi fg fb):=fun F₀ H₀=>PS.weak (xC hp hc (hi F₀ H₀) (hg F₀ H₀) (hb F₀ H₀) hs) fun D σ H hq__=>by
 obtain ⟨F,τ,r,E,e1,q⟩:=hq__
 obtain ⟨⟨ts,τ1⟩,e2,e1⟩:=bind_some e1
 refine ⟨F,τ,ts,τ1,E,e2,fun F' H' J E' s' W=>?_⟩
 refine ⟨fun i m σ H=>m=ts.length - i /\ i ≤ ts.length /\ ∃ F1 τ1,aB X.K F₀ H₀ F1 H σ τ1 /\ aO F' F1 /\ df fg fb (ts.drop i) τ1=some r,⟨_,rfl,Nat.zero_le _,F',τ1,E',aO.refl _,e1⟩,?_⟩
 rintro i m σ1 H1 ⟨rfl,hi,F1,τ2,E1,s1,e3⟩
 by_cases hlt:i < ts.length
 ·have hd:ts.drop i=ts[i] :: ts.drop (i + 1):=List.drop_eq_getElem_cons hlt
  have hg:ts[i]? = some ts[i]:=List.getElem?_eq_getElem hlt
  rw [hd] at e3
  obtain ⟨τ3,e4,e3⟩:=bind_some e3
  obtain ⟨r',e5,e3⟩:=bind_some e3
  refine .inr ⟨W.go i _ F1 H1 hg s1 E1.g.fh,fun σ H=>∃ F1 τ1,aB X.K F₀ H₀ F1 H σ τ1 /\ aO F' F1 /\ df fg fb (ts.drop (i + 1)) τ1=some r,fun σ' H' n=>⟨_,by omega,rfl,hlt,n⟩,fun x H2 y=>?_⟩
  obtain ⟨F2,gr,rx⟩:=W.yld i _ F1 H1 x H2 hg s1 E1.g.fh y
  refine ⟨F2,τ2,ts[i],τ3,E1.grow gr,rx,e4,fun F3 H3 σ3 E3 s3=>⟨F3,τ3,r',E3,e5,?_⟩⟩
  have s03:aO F' F3:=s1.trans (gr.sF.trans s3)
  cases r' with
  | nx τ4=>exact fun F4 H4 σ4 E4 s4=>⟨F4,τ4,E4,s03.trans s4,e3⟩
  | ct τ4=>exact fun F4 H4 σ4 E4 s4=>⟨F4,τ4,E4,s03.trans s4,e3⟩
  | bk τ4=>cases e3; exact fun F4 H4 σ4 E4 s4=>q F4 H4 σ4 E4 (s'.trans (s03.trans s4))
  | rt v=>cases e3; exact q
 ·have he:i=ts.length:=by omega
  subst he
  rw [List.drop_length] at e3
  cases e3
  exact .inl ⟨W.stop F1 H1 s1 E1.g.fh,q F1 H1 σ1 E1 (s'.trans s1)⟩
def wJ (f:FE):FA:=fun τ=>(f τ).bind fun p=>match p.1 with | .lst ts=>some (ts,p.2) | .scr ts=>some (ts,p.2) | _=>none
def A7 (f:FE):FA:=fun τ=>(f τ).bind fun p=>match p.1 with | .tup ts=>some (ts,p.2) | _=>none
theorem pQ {K:PySem.W.Frag} {F:Hp} {p:Addr} {xs:List V} {ts:List T} (h1:eZ K F p xs) (h2:aU K F ts xs):Walks K F ts (J3 K p):=by
 refine ⟨fun i t F1 H1 e s1 s2=>?_,fun i t F1 H1 x H2 e s1 s2 y=>?_,fun F1 H1 s1 s2=>⟨xs,(s1.trans s2).seq h1,by rw [h2.length]; exact Nat.le_refl _⟩⟩
 ·obtain ⟨v,g1,_⟩:=h2.get e
  exact ⟨xs,v,(s1.trans s2).seq h1,g1⟩
 ·obtain ⟨rfl,y⟩:=y
  obtain ⟨v,g1,g2⟩:=h2.get e
  have:=y xs ((s1.trans s2).seq h1)
  rw [g1] at this; cases this
  exact ⟨F1,bj.refl s2,Rep.mono s1 g2⟩
theorem Aw {K:PySem.W.Frag} {F:Hp} {p:Addr} {xs:List V} {ts:List T} (h1:kc K F p xs) (h2:aU K F ts xs):Walks K F ts (J4 K p):=by
 refine ⟨fun i t F1 H1 e s1 s2=>?_,fun i t F1 H1 x H2 e s1 s2 y=>?_,fun F1 H1 s1 s2=>⟨xs,bV (s1.trans s2) h1,by rw [h2.length]; exact Nat.le_refl _⟩⟩
 ·obtain ⟨v,g1,_⟩:=h2.get e
  exact ⟨xs,v,bV (s1.trans s2) h1,g1⟩
 ·obtain ⟨rfl,y⟩:=y
  obtain ⟨v,g1,g2⟩:=h2.get e
  have:=y xs (bV (s1.trans s2) h1)
  rw [g1] at this; cases this
  exact ⟨F1,bj.refl s2,Rep.mono s1 g2⟩
theorem PI.weak {tg it:Expr} {t t':TI} (h:PI X tg it t) (i:∀ σ H R,t' σ H R -> t σ H R):PI X tg it t':=fun pins s σ H R I q=>h pins s σ H R I (i σ H R q)
theorem zj {tg l:Expr} (h:SE X l f):SI X tg l (wJ f):=fun F₀ H₀=>PI.weak (tH (h F₀ H₀)) fun σ H R hq__=>by
 obtain ⟨F,τ,ts,τ',E,e1,q⟩:=hq__
 obtain ⟨⟨x,τ1⟩,e2,e1⟩:=bind_some e1
 dsimp only at e1
 split at e1
 ·cases e1
  refine ⟨F,τ,_,τ',E,e2,fun F' H' v E' s' r'=>?_⟩
  obtain ⟨p,xs,rfl,h1,h2⟩:=r'
  exact ⟨p,rfl,⟨xs,eZ.of (E'.g.fh _ _ h1)⟩,q F' H' _ E' s' (pQ (eZ.of h1) h2)⟩
 ·cases e1
  refine ⟨F,τ,_,τ',E,e2,fun F' H' v E' s' r'=>?_⟩
  obtain ⟨p,xs,rfl,h1,h2⟩:=r'
  exact ⟨p,rfl,⟨xs,E'.g.fh.seq h1⟩,q F' H' _ E' s' (pQ h1 h2)⟩
 ·cases e1
theorem G4 {tg l:Expr} (h:SE X l f):SI X tg l (A7 f):=fun F₀ H₀=>PI.weak (GQ (h F₀ H₀)) fun σ H R hq__=>by
 obtain ⟨F,τ,ts,τ',E,e1,q⟩:=hq__
 obtain ⟨⟨x,τ1⟩,e2,e1⟩:=bind_some e1
 dsimp only at e1
 split at e1
 ·cases e1
  refine ⟨F,τ,_,τ',E,e2,fun F' H' v E' s' r'=>?_⟩
  obtain ⟨p,xs,rfl,h1,h2⟩:=r'
  exact ⟨p,rfl,⟨xs,bV E'.g.fh h1⟩,q F' H' _ E' s' (Aw h1 h2)⟩
 ·cases e1
def upTo (lo:Int):Nat -> List T
 | 0=>[]
 | n + 1=>.int lo :: upTo (lo + 1) n
theorem gU:∀ (n:Nat) (lo:Int),(upTo lo n).length=n
 | 0,_=>rfl
 | n + 1,lo=>by simp [upTo,gU n]
theorem pO:∀ (n:Nat) (lo:Int) (i:Nat),i < n -> (upTo lo n)[i]? = some (.int (lo + i))
 | 0,_,_,h=>by omega
 | n + 1,lo,0,_=>by simp [upTo]
 | n + 1,lo,i + 1,h=>by
  simp only [upTo,List.getElem?_cons_succ]
  rw [pO n (lo + 1) i (by omega)]
  congr 2
  push_cast
  omega
def dB (g:FA):FA:=fun τ=>(g τ).bind fun p=>match p.1 with
 | [.int j]=>if -(2 ^ 62) ≤ j /\ j < 2 ^ 62 then some (upTo 0 j.toNat,p.2) else none
 | _=>none
theorem Av {K:PySem.W.Frag} {F:Hp} (lo:Int) (n:Nat):Walks K F (upTo lo n) (JG lo n):=by
 have hl:∀ {i:Nat} {t:T},(upTo lo n)[i]? = some t -> i < n:=fun {i t} e=>by
  have:=(List.getElem?_eq_some_iff.mp e).1
  rwa [gU] at this
 refine ⟨fun i t F1 H1 e s1 s2=>hl e,fun i t F1 H1 x H2 e s1 s2 y=>?_,fun F1 H1 s1 s2=>by show n ≤ _; rw [gU]; exact Nat.le_refl _⟩
 obtain ⟨rfl,rfl⟩:=y
 rw [pO n lo i (hl e)] at e
 cases e
 exact ⟨F1,bj.refl s2,rfl⟩
theorem iM {tg:Expr} {p:Pos} (hg:Gl X "range") (hm:X.mg "range" = none) (ha:SA X [a] ga) (hs:starEach [a] X.env=[(false,eval a X.env)]:=by rfl):SI X tg (.Call (.Name "range" p) [a] [] pos) (dB ga):=
 fun F₀ H₀=>PI.weak (Ae hg hm (ha F₀ H₀) hs) fun σ H R hq__=>by
  obtain ⟨F,τ,ts,τ',E,e1,q⟩:=hq__
  obtain ⟨⟨x,τ1⟩,e2,e1⟩:=bind_some e1
  dsimp only at e1
  split at e1
  ·split at e1
   ·next hb =>
    cases e1
    refine ⟨F,τ,_,τ',E,e2,fun F' H' vs E' s' r'=>?_⟩
    obtain ⟨v,r,rfl,q1,rfl⟩:=r'
    cases q1
    exact ⟨_,rfl,hb.1,hb.2,q F' H' _ E' s' (Av 0 _)⟩
   ·cases e1
  ·cases e1
def eL (ft:FT) (fb:FS):Nat -> FS
 | 0,_=>none
 | n + 1,τ=>(ft τ).bind fun p=>if p.1=true then (fb p.2).bind fun r=>match r with
  | .nx τ2=>eL ft fb n τ2
  | .ct τ2=>eL ft fb n τ2
  | .bk τ2=>some (.nx τ2)
  | .rt v=>some (.rt v) else some (.nx p.2)
theorem pH (n:Nat) {c:Expr} {body:List Stmt} {ft:FT} {fb:FS} (hp:PassesOwn (model X.prog X.w) X.A X.env X.xe) (hc:ST X c ft) (hb:ud X body fb):SS X (.While c body [] pos) (eL ft fb n):=fun F₀ H₀=>PS.weak (vF hp (hc F₀ H₀) (hb F₀ H₀)) fun D σ H hq__=>by
 obtain ⟨F,τ,r,E,e1,q⟩:=hq__
 refine ⟨fun m σ H=>∃ F1 τ1,aB X.K F₀ H₀ F1 H σ τ1 /\ aO F F1 /\ eL ft fb m τ1=some r,⟨n,F,τ,E,aO.refl _,e1⟩,?_⟩
 rintro m σ1 H1 ⟨F1,τ1,E1,s1,e2⟩
 cases m with
 | zero=>cases e2
 | succ m =>
  obtain ⟨⟨x,τ2⟩,e3,e2⟩:=bind_some e2
  refine ⟨F1,τ1,x,τ2,E1,e3,fun F2 H2 E2 s2=>?_⟩
  dsimp only at e2
  split at e2
  ·next h =>
   rw [if_pos h]
   obtain ⟨r',e4,e2⟩:=bind_some e2
   refine ⟨fun σ H=>∃ F1 τ1,aB X.K F₀ H₀ F1 H σ τ1 /\ aO F F1 /\ eL ft fb m τ1=some r,fun σ' H' n=>⟨m,Nat.lt_succ_self m,n⟩,F2,τ2,r',E2,e4,?_⟩
   cases r' with
   | nx τ4=>exact fun F4 H4 σ4 E4 s4=>⟨F4,τ4,E4,(s1.trans s2).trans s4,e2⟩
   | ct τ4=>exact fun F4 H4 σ4 E4 s4=>⟨F4,τ4,E4,(s1.trans s2).trans s4,e2⟩
   | bk τ4=>cases e2; exact fun F4 H4 σ4 E4 s4=>q F4 H4 σ4 E4 ((s1.trans s2).trans s4)
   | rt v=>cases e2; exact q
  ·next h =>
   rw [if_neg h]
   cases e2
   exact q F2 H2 σ1 E2 (s1.trans s2)
def m6 (i:Nat) (f:FE):FS:=fun τ=>match τ[i]? with
 | some (some (.own _))=>(f τ).bind fun p=>match p.2[i]? with
  | some (some (.own ts))=>if ts.length < sizeLine then some (.nx (p.2.set i (some (.own (ts ++ [p.1]))))) else none
  | _=>none
 | _=>none
end
def cz (m n:Nat) (fb:FS):List T -> Option T:=fun ts=>if ts.length=n then (fb (ts.map (fun t=>some (Sl.sh t)) ++ List.replicate (m - n) none)).bind fun r=>match r with
 | .rt t=>some t
 | .nx _=>some .non
 | _=>none else none
theorem gk {K:PySem.W.Frag} {F H:Hp} {N:List Str} {vs:List V} {ts:List T} (s:aO F H) (r:aU K F ts vs):aB K F H F H (start N vs) (ts.map (fun t=>some (Sl.sh t)) ++ List.replicate (N.length - ts.length) none):=by
 have hl:=r.length
 have key:∀ (i:Nat) (sl:Sl),(ts.map (fun t=>some (Sl.sh t)) ++ List.replicate (N.length - ts.length) none)[i]? = some (some sl) -> ∃ t,ts[i]? = some t /\ sl=.sh t:=fun i sl e=>by
  by_cases h:i < ts.length
  ·rw [List.getElem?_append_left (by simpa using h),List.getElem?_map,List.getElem?_eq_getElem h] at e
   simp at e
   exact ⟨ts[i],List.getElem?_eq_getElem h,e.symm⟩
  ·rw [List.getElem?_append_right (by simp; omega),List.getElem?_replicate] at e
   split at e <;> cases e
 refine ⟨bj.refl s,by simp [L2.start,hl],fun i sl e=>?_,fun i j us ws p _ e1 _ _=>?_⟩
 ·obtain ⟨t,e1,rfl⟩:=key i sl e
  obtain ⟨v,g1,g2⟩:=r.get e1
  refine ⟨v,?_,g2⟩
  have hi:i < vs.length:=(List.getElem?_eq_some_iff.mp g1).1
  unfold L2.start
  rw [List.getElem?_append_left (by simpa using hi),List.getElem?_map,g1]
  rfl
 ·obtain ⟨t,_,e⟩:=key i _ e1
  cases e
section
variable {P:Program} {w:World} {K:PySem.W.Frag} {mg:Str -> Option Value} {base:Heap}
theorem bH {x qual:Str} {st:Stmt} {f:Addr} {fd:FuncData} {N ps:List Str} {k:Nat} {fb:FS} (F:eY K x qual st f fd) (S:aQ N ps (aw st)) (hb:Binds K fd ps []) (hm:mg x=some (.ref f))
  (h:∀ (cdv:Value) (A:Around) (outer:List Env) (s:Shared) (H:Hp) (E:XK),dz k (A.deeper (envOfC qual (aw st) s.heap.objs.size f cdv)) -> ud (m5 nC P w K mg base N qual (aw st) f cdv A outer s H E).nox (dF st) fb) :
  Def P w K mg base (k + 1) x ps.length (cz N.length ps.length fb):=by
 refine ⟨f,fd,ps,F.ok S (fun vs H Q E z=>z.1) (fun cdv A outer s H vs Q E hr z=>?_),hb,F.kp,hm,rfl⟩
 obtain ⟨hl,F1,ts,t,sm,r,e,q⟩:=z
 unfold cz at e
 split at e
 ·next hn =>
  obtain ⟨r',e1,e⟩:=bind_some e
  refine ⟨_,h cdv A outer s H E hr F1 H,F1,_,r',?_,e1,?_⟩
  ·have:=gk (N:=N) sm r
   rw [hn] at this
   exact this
  ·cases r' with
   | rt u=>cases e; exact fun F' H' v g r'=>q F' H' v g r'
   | nx τ=>cases e; exact fun F' H' σ' E' s'=>q F' H' .non E'.g rfl
   | bk τ=>cases e
   | ct τ=>cases e
 ·cases e
end
open PySem PySem.Spec PyProof.Rows L2
def B:Nat:=2 ^ 4000
theorem Er {n:Nat} (h:n < B):n.log2 < 4000:=by
 rcases Nat.eq_zero_or_pos n with h0 | hp
 ·rw [h0]; decide
 ·exact (Nat.log2_lt (Nat.ne_of_gt hp)).mpr h
theorem wy {i:Int} (h:i.natAbs < B):Builtin.Int.intBits i ≤ 4000:=by
 unfold Builtin.Int.intBits
 split
 ·omega
 ·have:=Er h
  omega
theorem IP {i j:Int} (hi:i.natAbs < B) (hj:j.natAbs < B):IntMulOk i j:=by
 have h1:=wy hi
 have h2:=wy hj
 unfold IntMulOk
 have h3:Builtin.Int.intTooBig (Builtin.Int.intBits i + Builtin.Int.intBits j)=false:=by
  unfold Builtin.Int.intTooBig
  have hb:((bitsLine:Nat):Int)=134217728:=by decide
  rw [decide_eq_false]
  show ¬ ((Builtin.Int.intBits i:Int) + (Builtin.Int.intBits j:Int) > ((bitsLine:Nat):Int))
  rw [hb]
  omega
 rw [h3]
 simp
section
variable {X:Cx}
def gI (C:Int -> Int -> Prop) [∀ i j,Decidable (C i j)] (g:Int -> Int -> T):T -> T -> Option T:=fun a b=>match a,b with
 | .int i,.int j=>if C i j then some (g i j) else none
 | _,_=>none
theorem FV {C:Int -> Int -> Prop} [∀ i j,Decidable (C i j)] {g:Int -> Int -> T} {i j:Int}:gI C g (.int i) (.int j)=if C i j then some (g i j) else none:=rfl
theorem yT {f:Value -> Value -> Sem Value} {C:Int -> Int -> Prop} [∀ i j,Decidable (C i j)] {g:Int -> Int -> T} {gv:Int -> Int -> V} (h:lJ X f (rI C gv)) (hg:∀ K F i j,Rep K F (g i j) (gv i j)):lM X f (gI C g):=by
 intro pins s σ H x y v u Q I rx ry ⟨F,a,b,t,sm,ra,rb,e,q⟩
 unfold gI at e
 split at e
 ·cases ra
  cases rb
  split at e
  ·next hc =>
   cases e
   exact h pins s σ H _ _ v u Q I rx ry ⟨_,_,rfl,rfl,hc,q F H _ (bj.refl sm) (hg _ _ _ _)⟩
  ·cases e
 ·cases e
theorem lY {f:Value -> Value -> Sem Value} {g:Int -> Int -> T} {gv:Int -> Int -> V} (h:lJ X f (DU gv)) (hg:∀ K F i j,Rep K F (g i j) (gv i j)):lM X f (gI (fun _ _=>True) g):=
 yT (fun pins s σ H x y v u Q I rx ry ⟨i,j,e1,e2,_,q⟩=>h pins s σ H x y v u Q I rx ry ⟨i,j,e1,e2,q⟩) hg
def Km (g g':T -> T -> Option T):T -> T -> Option T:=fun a b=>match g a b with
 | some t=>some t
 | none=>g' a b
theorem lM.or {f:Value -> Value -> Sem Value} {g g':T -> T -> Option T} (h:lM X f g) (h':lM X f g'):lM X f (Km g g'):=by
 intro pins s σ H x y v u Q I rx ry ⟨F,a,b,t,sm,ra,rb,e,q⟩
 unfold Km at e
 split at e
 ·next t' e'=>cases e; exact h pins s σ H x y v u Q I rx ry ⟨F,a,b,_,sm,ra,rb,e',q⟩
 ·exact h' pins s σ H x y v u Q I rx ry ⟨F,a,b,t,sm,ra,rb,e,q⟩
def ye (i j:Int):Prop:=i.natAbs < B /\ j.natAbs < B
instance (i j:Int):Decidable (ye i j):=inferInstanceAs (Decidable (_ /\ _))
def yd (i j:Int):Prop:=j ≠ 0 /\ j.natAbs < B
instance (i j:Int):Decidable (yd i j):=inferInstanceAs (Decidable (_ /\ _))
def JF (i j:Int):Prop:=j ≠ 0
instance (i j:Int):Decidable (JF i j):=inferInstanceAs (Decidable (_ ≠ _))
instance (i j:Int):Decidable (J2 i j):=inferInstanceAs (Decidable (_ /\ _ /\ _))
abbrev jO:=gI (fun _ _=>True) fun i j=>.int (i - j)
abbrev aX:=gI ye fun i j=>.int (i * j)
abbrev cP:=gI yd fun i j=>.int (i.fdiv j)
abbrev cU:=gI JF fun i j=>.int (i.fmod j)
abbrev Bf:=gI (fun _ _=>True) fun i j=>.bl (decide (i < j))
abbrev we:=gI (fun _ _=>True) fun i j=>.bl (decide (i ≤ j))
abbrev uC:=gI (fun _ _=>True) fun i j=>.bl (decide (j < i))
abbrev Kj:=gI (fun _ _=>True) fun i j=>.bl (decide (j ≤ i))
theorem tB:lM X (binaryOp .Sub) jO:=lY GB fun _ _ _ _=>rfl
theorem bo:lM X (binaryOp .Mult) aX:=yT (C:=ye) (gv:=fun i j=>.int (i * j)) (Kx fun _ _ _ _ _ _ _ hc q=>mul_int q (IP hc.1 hc.2)) fun _ _ _ _=>rfl
theorem cC:lM X (binaryOp .FloorDiv) cP:=yT (C:=yd) (gv:=fun i j=>.int (i.fdiv j)) (Kx fun _ _ _ _ _ _ _ hc q=>floordiv_int hc.1 q (.inl (PyProof.noPylong_of_log2 (Nat.lt_trans (Er hc.2) (by decide:4000 < 9000))))) fun _ _ _ _=>rfl
theorem dQ:lM X (binaryOp .Mod) cU:=yT (C:=JF) (gv:=fun i j=>.int (i.fmod j)) DF fun _ _ _ _=>rfl
theorem vA:lM X (compareOp .Lt) Bf:=lY IW fun _ _ _ _=>rfl
theorem vz:lM X (compareOp .LtE) we:=lY IV fun _ _ _ _=>rfl
theorem oV:lM X (compareOp .Gt) uC:=lY IU fun _ _ _ _=>rfl
theorem IZ:lM X (compareOp .GtE) Kj:=lY IT fun _ _ _ _=>rfl
def oA:T -> T -> Option T
 | .str x,.str y=>if x.length + y.length ≤ sizeLine then some (.str (x ++ y)) else none
 | .lst xs,.lst ys=>if xs.length + ys.length ≤ sizeLine then some (.lst (xs ++ ys)) else none
 | .tup (x :: xs),.tup (y :: ys)=>if (x :: xs).length + (y :: ys).length ≤ sizeLine then some (.tup (x :: xs ++ y :: ys)) else none
 | _,_=>none
theorem DG:lM X (binaryOp .Add) oA:=by
 intro pins s σ H x y v u Q I rx ry ⟨F,a,b,t,sm,ra,rb,e,q⟩
 unfold oA at e
 split at e
 ·split at e
  ·next hl =>
   cases e; cases ra; cases rb
   exact xu pins s σ H _ _ v u Q I rx ry ⟨_,_,rfl,rfl,hl,q F H _ (bj.refl sm) rfl⟩
  ·cases e
 ·split at e
  ·next hl =>
   cases e
   obtain ⟨p1,x1,rfl,h1,h2⟩:=ra
   obtain ⟨p2,x2,rfl,h3,h4⟩:=rb
   refine Gz pins s σ H _ _ v u Q I rx ry ⟨p1,p2,x1,x2,rfl,rfl,sm _ _ h1,sm _ _ h3,by rw [h2.length,h4.length]; exact hl,fun p hp=>?_⟩
   have gr:=bj.new (.lst (x1 ++ x2)) sm hp
   exact q _ _ _ gr ⟨p,_,rfl,aR,aU.mono gr.sF (h2.append h4)⟩
  ·cases e
 ·split at e
  ·next hl =>
   cases e
   obtain ⟨p1,x1,rfl,h1,h2⟩:=ra
   obtain ⟨p2,x2,rfl,h3,h4⟩:=rb
   refine DE pins s σ H _ _ v u Q I rx ry ⟨p1,p2,x1,x2,rfl,rfl,bV sm h1,bV sm h3,fun z=>?_,by rw [h2.length,h4.length]; exact hl,fun z=>?_,fun _ p hp=>?_⟩
   ·subst z; have:=h2.length; simp at this
   ·subst z; have:=h4.length; simp at this
   ·have gr:=bj.new (.tup (x1 ++ x2)) sm hp
    exact q _ _ _ gr ⟨p,_,rfl,kc.of aR,aU.mono gr.sF (h2.append h4)⟩
  ·cases e
 ·cases e
def cq:T -> T -> Option T:=Km (gI (fun _ _=>True) fun i j=>.int (i + j)) oA
theorem cQ:lM X (binaryOp .Add) cq:=lM.or (lY Gy fun _ _ _ _=>rfl) DG
theorem ig {i j:Int}:cq (.int i) (.int j)=some (.int (i + j)):=rfl
theorem uB {xs ys:List T} (h:xs.length + ys.length ≤ sizeLine):cq (.lst xs) (.lst ys)=some (.lst (xs ++ ys)):=by
 show oA (.lst xs) (.lst ys)=_
 simp only [oA,if_pos h]
theorem A9 {x y:T} {xs ys:List T} (h:(x :: xs).length + (y :: ys).length ≤ sizeLine):cq (.tup (x :: xs)) (.tup (y :: ys))=some (.tup (x :: xs ++ y :: ys)):=by
 show oA (.tup (x :: xs)) (.tup (y :: ys))=_
 simp only [oA,if_pos h]
def wK:T -> Option T
 | .int i=>some (.int (-i))
 | _=>none
theorem Cc:La X (unaryOp .USub) wK:=by
 intro pins s σ H x v Q I rx ⟨F,a,t,sm,ra,e,q⟩
 unfold wK at e
 split at e
 ·cases e; cases ra
  exact Hj pins s σ H _ v Q I rx ⟨_,rfl,q F H _ (bj.refl sm) rfl⟩
 ·cases e
mutual
def El:T -> Option PyData
 | .non=>some .none
 | .bl b=>some (.bool b)
 | .int i=>some (.int i)
 | .str x=>some (.str x)
 | .tup ts=>(pL ts).map .tuple
 | .lst ts=>(pL ts).map .list
 | .scr ts=>(pL ts).map .list
 | .ty _=>none
 | .dic=>none
 | .obj _ _ _=>none
 | .ptr _=>none
def pL:List T -> Option (List PyData)
 | []=>some []
 | t :: ts=>(El t).bind fun d=>(pL ts).bind fun ds=>some (d :: ds)
end
mutual
theorem jl {pins:List (Addr × Obj)} {σ:L2.St} {H F:Hp} {s:Shared} (I:Inv X pins σ H s) (sm:aO F H):∀ {t:T} {d:PyData} {v:V} {u:Value},El t=some d -> Rep X.K F t v -> RelV v u -> ∃ as,Reads s.heap u d as
 | .non,d,v,u,e,r,ru=>by cases r; cases e; cases ru; exact ⟨_,.none⟩
 | .bl b,d,v,u,e,r,ru=>by cases r; cases e; cases ru; exact ⟨_,.bool _⟩
 | .int i,d,v,u,e,r,ru=>by cases r; cases e; obtain ⟨t,rfl⟩:=ru; exact ⟨_,.int _ _⟩
 | .str x,d,v,u,e,r,ru=>by cases r; cases e; obtain ⟨t,rfl⟩:=ru; exact ⟨_,.str _ _⟩
 | .ty _,d,v,u,e,r,ru=>by cases e
 | .dic,d,v,u,e,r,ru=>by cases e
 | .obj _ _ _,d,v,u,e,r,ru=>by cases e
 | .ptr _,d,v,u,e,r,ru=>by cases e
 | .tup ts,d,v,u,e,r,ru=>by
  obtain ⟨p,xs,rfl,h1,h2⟩:=r
  cases ru
  simp only [El] at e
  cases e1:pL ts with
  | none=>rw [e1] at e; cases e
  | some ds =>
   rw [e1] at e; cases e
   obtain ⟨its,rv,⟨o,g1,g2,n,g3⟩,_⟩:=I.tuple (bV sm h1)
   obtain ⟨as,q⟩:=gR I sm e1 h2 rv
   exact ⟨_,.tuple g1 g2 g3 q⟩
 | .lst ts,d,v,u,e,r,ru=>by
  obtain ⟨p,xs,rfl,h1,h2⟩:=r
  cases ru
  simp only [El] at e
  cases e1:pL ts with
  | none=>rw [e1] at e; cases e
  | some ds =>
   rw [e1] at e; cases e
   obtain ⟨its,rv,⟨o,n,g1,g2,_,g3⟩,_⟩:=I.list (eZ.of (sm _ _ h1))
   obtain ⟨as,q⟩:=gR I sm e1 h2 rv
   exact ⟨_,.list g1 g2 g3 q⟩
 | .scr ts,d,v,u,e,r,ru=>by
  obtain ⟨p,xs,rfl,h1,h2⟩:=r
  cases ru
  simp only [El] at e
  cases e1:pL ts with
  | none=>rw [e1] at e; cases e
  | some ds =>
   rw [e1] at e; cases e
   obtain ⟨its,rv,⟨o,n,g1,g2,_,g3⟩,_⟩:=I.list (sm.seq h1)
   obtain ⟨as,q⟩:=gR I sm e1 h2 rv
   exact ⟨_,.list g1 g2 g3 q⟩
theorem gR {pins:List (Addr × Obj)} {σ:L2.St} {H F:Hp} {s:Shared} (I:Inv X pins σ H s) (sm:aO F H):∀ {ts:List T} {ds:List PyData} {vs:List V} {us:List Value},pL ts=some ds -> aU X.K F ts vs -> Vals vs us -> ∃ as,ReadsAll s.heap us ds as
 | [],ds,vs,us,e,r,ru=>by cases r; cases ru; cases e; exact ⟨_,.nil⟩
 | t :: ts,ds,vs,us,e,r,ru=>by
  obtain ⟨v,rr,rfl,h1,h2⟩:=r
  cases ru with
  | cons r1 r2 =>
   simp only [pL] at e
   obtain ⟨d,e1,e⟩:=bind_some e
   obtain ⟨ds',e2,e⟩:=bind_some e
   cases e
   obtain ⟨as,q1⟩:=jl I sm e1 h1 r1
   obtain ⟨bs,q2⟩:=gR I sm e2 h2 r2
   exact ⟨_,.cons q1 q2⟩
end
def C0 (neg:Bool) (a b:T):Option T:=(El a).bind fun p=>(El b).bind fun q=>if SeqAt.shaped p=true /\ SeqAt.shaped q=true then some (.bl (if neg then !PyData.eqv p q else PyData.eqv p q)) else none
abbrev mL:=C0 false
abbrev mM:=C0 true
theorem mS (hu:X.A.units + 64 < cLine):lM X (compareOp .Eq) mL:=by
 intro pins s σ H x y v u Q I rx ry ⟨F,a,b,t,sm,ra,rb,e,q⟩
 obtain ⟨d1,e1,e⟩:=bind_some e
 obtain ⟨d2,e2,e⟩:=bind_some e
 split at e
 ·next hs =>
  cases e
  obtain ⟨as,q1⟩:=jl I sm e1 ra rx
  obtain ⟨bs,q2⟩:=jl I sm e2 rb ry
  exact SeqAt.compareEq_shaped q1 q2 hs.1 hs.2 hu ⟨.bl _,H,I,rfl,q F H _ (bj.refl sm) rfl⟩
 ·cases e
theorem mT (hu:X.A.units + 64 < cLine):lM X (compareOp .NotEq) mM:=by
 intro pins s σ H x y v u Q I rx ry ⟨F,a,b,t,sm,ra,rb,e,q⟩
 obtain ⟨d1,e1,e⟩:=bind_some e
 obtain ⟨d2,e2,e⟩:=bind_some e
 split at e
 ·next hs =>
  cases e
  obtain ⟨as,q1⟩:=jl I sm e1 ra rx
  obtain ⟨bs,q2⟩:=jl I sm e2 rb ry
  exact SeqAt.compareNe_shaped q1 q2 hs.1 hs.2 hu ⟨.bl _,H,I,rfl,q F H _ (bj.refl sm) rfl⟩
 ·cases e
def EX:T -> Bool
 | .non=>true
 | _=>false
def Lu:T -> T -> Option T
 | a,.non=>some (.bl (EX a))
 | .bl c,.bl d=>some (.bl (c == d))
 | _,_=>none
def bN:T -> T -> Option T
 | .lst ts,.int i=>nF ts i
 | .scr ts,.int i=>nF ts i
 | .tup ts,.int i=>nF ts i
 | .str x,.int i=>if x.length ≤ sizeLine then (nF x.cps.toList i).map fun c=>.str ⟨#[c]⟩ else none
 | _,_=>none
theorem rf {K:PySem.W.Frag} {F:Hp} {ts:List T} {vs:List V} {i:Int} {t:T} (r:aU K F ts vs) (e:nF ts i=some t):∃ v,nF vs i=some v /\ Rep K F t v:=by
 unfold nF at e ⊢
 rw [r.length]
 obtain ⟨j,e1,e2⟩:=bind_some e
 obtain ⟨v,g1,g2⟩:=r.get e2
 exact ⟨v,by rw [e1]; exact g1,g2⟩
theorem bz:Cg X (Hw X.K bN):=by
 intro value slice pins s σ H x y v u Q I rx ry ⟨F,a,b,t,sm,ra,rb,e,q⟩ hs
 unfold bN at e
 split at e
 ·obtain ⟨p,xs,rfl,h1,h2⟩:=ra
  cases rb
  obtain ⟨w,g1,g2⟩:=rf h2 e
  exact yK value slice pins s σ H _ _ v u Q I rx ry ⟨p,xs,_,w,rfl,rfl,eZ.of (sm _ _ h1),g1,q F H _ (bj.refl sm) g2⟩ hs
 ·obtain ⟨p,xs,rfl,h1,h2⟩:=ra
  cases rb
  obtain ⟨w,g1,g2⟩:=rf h2 e
  exact yK value slice pins s σ H _ _ v u Q I rx ry ⟨p,xs,_,w,rfl,rfl,sm.seq h1,g1,q F H _ (bj.refl sm) g2⟩ hs
 ·obtain ⟨p,xs,rfl,h1,h2⟩:=ra
  cases rb
  obtain ⟨w,g1,g2⟩:=rf h2 e
  exact Gh value slice pins s σ H _ _ v u Q I rx ry ⟨p,xs,_,w,rfl,rfl,bV sm h1,g1,q F H _ (bj.refl sm) g2⟩ hs
 ·split at e
  ·next hl =>
   cases ra; cases rb
   cases e1:nF (Str.cps _).toList _ with
   | none=>rw [e1] at e; cases e
   | some c =>
    rw [e1] at e; cases e
    exact Gg value slice pins s σ H _ _ v u Q I rx ry ⟨_,_,c,rfl,rfl,hl,e1,q F H _ (bj.refl sm) rfl⟩ hs
  ·cases e
 ·cases e
theorem kK {f:Value} {r:List V -> Hp -> VK -> Prop} {g:List T -> Option T} (h:gH X f r) (i:∀ vs H Q,JV X.K g vs H Q -> r vs H Q):jS X f g:=fun pins s σ H xs us Q I rx q=>h pins s σ H xs us Q I rx (i _ _ _ q)
def bM:List T -> Option T
 | [.lst ts]=>some (.int ts.length)
 | [.scr ts]=>some (.int ts.length)
 | [.tup ts]=>some (.int ts.length)
 | [.str x]=>if x.length ≤ sizeLine then some (.int x.length) else none
 | _=>none
theorem cF:jS X (.builtin "len") bM:=kK (gH.or rj rk) fun vs H Q hq__=>by
 obtain ⟨F,ts,t,sm,r,e,q⟩:=hq__
 unfold bM at e
 split at e
 ·obtain ⟨v,rr,rfl,⟨p,xs,rfl,h1,h2⟩,rfl⟩:=r
  cases e
  exact .inl ⟨p,xs,rfl,.inl (eZ.of (sm _ _ h1)),by rw [h2.length]; exact q F H _ (bj.refl sm) rfl⟩
 ·obtain ⟨v,rr,rfl,⟨p,xs,rfl,h1,h2⟩,rfl⟩:=r
  cases e
  exact .inl ⟨p,xs,rfl,.inl (sm.seq h1),by rw [h2.length]; exact q F H _ (bj.refl sm) rfl⟩
 ·obtain ⟨v,rr,rfl,⟨p,xs,rfl,h1,h2⟩,rfl⟩:=r
  cases e
  exact .inl ⟨p,xs,rfl,.inr (bV sm h1),by rw [h2.length]; exact q F H _ (bj.refl sm) rfl⟩
 ·split at e
  ·next hl =>
   obtain ⟨v,rr,rfl,h1,rfl⟩:=r
   cases h1; cases e
   exact .inr ⟨_,rfl,hl,q F H _ (bj.refl sm) rfl⟩
  ·cases e
 ·cases e
def ux:List T -> Option T
 | [.int i]=>some (.int (if i < 0 then -i else i))
 | _=>none
theorem rC:jS X (.builtin "abs") ux:=kK AJ fun vs H Q hq__=>by
 obtain ⟨F,ts,t,sm,r,e,q⟩:=hq__
 unfold ux at e
 split at e
 ·obtain ⟨v,rr,rfl,h1,rfl⟩:=r
  cases h1; cases e
  exact ⟨_,rfl,q F H _ (bj.refl sm) rfl⟩
 ·cases e
def Ke:List T -> Option T
 | [.int i,.int j]=>some (.int (if j > i then j else i))
 | _=>none
def Kf:List T -> Option T
 | [.int i,.int j]=>some (.int (if j < i then j else i))
 | _=>none
def dList:List T -> Option T
 | [.lst ts]=>some (.lst ts)
 | [.scr ts]=>some (.lst ts)
 | [.tup ts]=>some (.lst ts)
 | _=>none
theorem CK:jS X (.type "list") dList:=kK kL fun vs H Q hq__=>by
 obtain ⟨F,ts,t,sm,r,e,q⟩:=hq__
 unfold dList at e
 split at e
 ·obtain ⟨v,rr,rfl,⟨p,xs,rfl,h1,h2⟩,rfl⟩:=r
  cases e
  refine ⟨p,xs,rfl,.inl (eZ.of (sm _ _ h1)),fun l hl=>?_⟩
  have gr:=bj.new (.lst xs) sm hl
  exact q _ _ _ gr ⟨l,xs,rfl,aR,aU.mono gr.sF h2⟩
 ·obtain ⟨v,rr,rfl,⟨p,xs,rfl,h1,h2⟩,rfl⟩:=r
  cases e
  refine ⟨p,xs,rfl,.inl (sm.seq h1),fun l hl=>?_⟩
  have gr:=bj.new (.lst xs) sm hl
  exact q _ _ _ gr ⟨l,xs,rfl,aR,aU.mono gr.sF h2⟩
 ·obtain ⟨v,rr,rfl,⟨p,xs,rfl,h1,h2⟩,rfl⟩:=r
  cases e
  refine ⟨p,xs,rfl,.inr (bV sm h1),fun l hl=>?_⟩
  have gr:=bj.new (.lst xs) sm hl
  exact q _ _ _ gr ⟨l,xs,rfl,aR,aU.mono gr.sF h2⟩
 ·cases e
def Hy:T -> Option String
 | .non=>some "NoneType"
 | .bl _=>some "bool"
 | .int _=>some "int"
 | .str _=>some "str"
 | .tup _=>some "tuple"
 | .lst _=>some "list"
 | .scr _=>some "list"
 | .dic=>some "dict"
 | .obj _ _ _=>none
 | .ptr _=>none
 | .ty _=>none
def kinds:List String:=["int", "bool", "str", "list", "tuple", "dict"]
def JQ (a c:String):Option Bool:=if c ∈ kinds then some (a == c || (a == "bool" && c == "int")) else none
def Ga (a:String):List T -> Option Bool
 | []=>some false
 | .ty c :: r=>(JQ a c).bind fun b=>if b=true then some true else Ga a r
 | _ :: _=>none
theorem Bn {K:PySem.W.Frag} {t:T} {a c:String} {b:Bool} (ha:Hy t=some a) (h:JQ a c=some b):PySem.W.kitOne K (.type a) (.type c)=some b:=by
 have ha:a ∈ ["NoneType", "bool", "int", "str", "tuple", "list", "dict"]:=by
  cases t <;> simp only [Hy] at ha <;> cases ha <;> simp
 unfold JQ at h
 split at h
 ·next hc =>
  cases h
  simp only [kinds,List.mem_cons,List.not_mem_nil,or_false] at hc ha
  rcases ha with rfl | rfl | rfl | rfl | rfl | rfl | rfl <;> rcases hc with rfl | rfl | rfl | rfl | rfl | rfl <;> rfl
 ·cases h
theorem yL {K:PySem.W.Frag} {F:Hp} {t:T} {a:String} (ha:Hy t=some a):∀ {cs:List T} {vs:List V} {us:List Value} {b:Bool},Ga a cs=some b -> aU K F cs vs -> Vals vs us -> PySem.W.kitAny K (.type a) us=some b
 | [],vs,us,b,h,r,ru=>by cases r; cases ru; cases h; rfl
 | .ty c :: cs,vs,us,b,h,r,ru=>by
  obtain ⟨v,rr,rfl,h1,h2⟩:=r
  cases h1
  cases ru with
  | cons r1 r2 =>
   cases r1
   obtain ⟨b',e1,h⟩:=bind_some h
   unfold PySem.W.kitAny
   rw [Bn ha e1]
   cases b' with
   | true=>rw [if_pos rfl] at h; exact h
   | false=>rw [if_neg (by decide)] at h; exact yL ha h h2 r2
 | .non :: cs,vs,us,b,h,r,ru=>by cases h
 | .bl _ :: cs,vs,us,b,h,r,ru=>by cases h
 | .int _ :: cs,vs,us,b,h,r,ru=>by cases h
 | .str _ :: cs,vs,us,b,h,r,ru=>by cases h
 | .tup _ :: cs,vs,us,b,h,r,ru=>by cases h
 | .lst _ :: cs,vs,us,b,h,r,ru=>by cases h
 | .scr _ :: cs,vs,us,b,h,r,ru=>by cases h
 | .dic :: cs,vs,us,b,h,r,ru=>by cases h
 | .obj _ _ _ :: cs,vs,us,b,h,r,ru=>by cases h
 | .ptr _ :: cs,vs,us,b,h,r,ru=>by cases h
theorem uZ {pins:List (Addr × Obj)} {σ:L2.St} {H F:Hp} {s:Shared} {t:T} {v:V} {u:Value} {a:String} (I:Inv X pins σ H s) (sm:aO F H) (r:Rep X.K F t v) (ru:RelV v u) (ha:Hy t=some a) :
  ∃ Hh:Heap -> Prop,PySem.W.KitX X.K u (.type a) Hh /\ Hh s.heap /\ u ≠ .builtin "__main__.__loader__#opaque" := by
 cases t with
 | non=>cases r; cases ru; cases ha; exact ⟨_,PySem.W.kitx_none,True.intro,fun z=>nomatch z⟩
 | bl _=>cases r; cases ru; cases ha; exact ⟨_,PySem.W.kitx_bool,True.intro,fun z=>nomatch z⟩
 | int _=>cases r; obtain ⟨t,rfl⟩:=ru; cases ha; exact ⟨_,PySem.W.kitx_int,True.intro,fun z=>nomatch z⟩
 | str _=>cases r; obtain ⟨t,rfl⟩:=ru; cases ha; exact ⟨_,PySem.W.kitx_str,True.intro,fun z=>nomatch z⟩
 | ty _=>cases ha
 | tup _ =>
  obtain ⟨p,xs,rfl,h1,h2⟩:=r
  cases ru; cases ha
  obtain ⟨its,rv,⟨o,g1,g2,n,g3⟩,_⟩:=I.tuple (bV sm h1)
  exact ⟨_,PySem.W.kitx_tuple,⟨o,g1,g2⟩,fun z=>nomatch z⟩
 | lst _ =>
  obtain ⟨p,xs,rfl,h1,h2⟩:=r
  cases ru; cases ha
  obtain ⟨its,rv,⟨o,n,g1,g2,_,g3⟩,_⟩:=I.list (eZ.of (sm _ _ h1))
  exact ⟨_,PySem.W.kitx_list,⟨o,g1,g2⟩,fun z=>nomatch z⟩
 | scr _ =>
  obtain ⟨p,xs,rfl,h1,h2⟩:=r
  cases ru; cases ha
  obtain ⟨its,rv,⟨o,n,g1,g2,_,g3⟩,_⟩:=I.list (sm.seq h1)
  exact ⟨_,PySem.W.kitx_list,⟨o,g1,g2⟩,fun z=>nomatch z⟩
 | dic =>
  obtain ⟨p,rfl,h1⟩:=r
  cases ru; cases ha
  obtain ⟨_,_,vs,_,o,es,ep,h1,h2,_⟩:=(show fX X.prog X.w H s.heap p (.dK []) from I.hok p _ (sm _ _ h1))
  exact ⟨_,PySem.W.kitx_dict,⟨o,h1,h2.1⟩,fun z=>nomatch z⟩
 | obj _ _ _=>cases ha
 | ptr _=>cases ha
def bg:List T -> Option T
 | [t,.ty c]=>(Hy t).bind fun a=>(JQ a c).bind fun b=>some (.bl b)
 | [t,.tup cs]=>(Hy t).bind fun a=>(Ga a cs).bind fun b=>some (.bl b)
 | _=>none
theorem eG:jS X (.builtin "isinstance") bg:=by
 intro pins s σ H xs us Q I rx ⟨F,ts,t,sm,r,e,q⟩
 unfold bg at e
 split at e
 ·obtain ⟨a,e1,e⟩:=bind_some e
  obtain ⟨b,e2,e⟩:=bind_some e
  cases e
  obtain ⟨v,rr,rfl,h1,v2,r2,rfl,h2,rfl⟩:=r
  cases h2
  obtain ⟨u1,u2,rfl,ra,rb⟩:=Vals.two rx
  cases rb
  obtain ⟨Hh,Z,hh,hn⟩:=uZ I sm h1 ra e1
  exact PySem.W.kia_one Z I.kIn hh (Bn e1 e2) hn fun tk=>⟨.bl b,H,I.tok tk,rfl,q F H _ (bj.refl sm) rfl⟩
 ·obtain ⟨a,e1,e⟩:=bind_some e
  obtain ⟨b,e2,e⟩:=bind_some e
  cases e
  obtain ⟨v,rr,rfl,h1,v2,r2,rfl,⟨p,xs,rfl,h3,h4⟩,rfl⟩:=r
  obtain ⟨u1,u2,rfl,ra,rb⟩:=Vals.two rx
  cases rb
  obtain ⟨Hh,Z,hh,hn⟩:=uZ I sm h1 ra e1
  obtain ⟨its,rv,⟨o,g1,g2,n,g3⟩,_⟩:=I.tuple (bV sm h3)
  obtain ⟨oc,od,odt,osl⟩:=o
  dsimp only at g2 g3
  subst g2 g3
  exact PySem.W.kia_tup Z I.kIn hh g1 (yL e1 e2 h4 rv) hn fun tk=>⟨.bl b,H,I.tok tk,rfl,q F H _ (bj.refl sm) rfl⟩
 ·cases e
end
open PySem PySem.Spec PyProof.Rows L2
section
variable {X:Cx} {pos:Pos}
def Kg:FE:=fun τ=>some (.dic,τ)
abbrev FO:=aH -> Option (Option Int × aH)
def tO (K:PySem.W.Frag) (F₀ H₀:Hp) (f:FO):TO:=fun σ H Q=>∃ F τ o τ',aB K F₀ H₀ F H σ τ /\ f τ=some (o,τ') /\ ∀ F' H',aB K F₀ H₀ F' H' σ τ' -> aO F F' -> Q o H'
def SO (X:Cx) (e:Option Expr) (f:FO):Prop:=∀ F₀ H₀,PO X e (tO X.K F₀ H₀ f)
def gP:FO:=fun τ=>some (none,τ)
def dG (f:FE):FO:=fun τ=>(f τ).bind fun p=>match p.1 with | .int i=>some (some i,p.2) | _=>none
theorem PO.weak {e:Option Expr} {t t':TO} (h:PO X e t) (i:∀ σ H Q,t' σ H Q -> t σ H Q):PO X e t':=fun pins s σ H Q I q=>h pins s σ H Q I (i σ H Q q)
theorem tZ:SO X none gP:=fun F₀ H₀=>PO.weak yW fun σ H Q hq__=>by
 obtain ⟨F,τ,t,τ',E,e1,q⟩:=hq__
 cases e1
 exact q F H E (aO.refl _)
theorem gT {e:Expr} {f:FE} (h:SE X e f):SO X (some e) (dG f):=fun F₀ H₀=>PO.weak (DM (h F₀ H₀)) fun σ H Q hq__=>by
 obtain ⟨F,τ,t,τ',E,e1,q⟩:=hq__
 obtain ⟨⟨x,τ1⟩,e2,e1⟩:=bind_some e1
 dsimp only at e1
 split at e1
 ·cases e1
  exact ⟨F,τ,_,_,E,e2,fun F' H' v E' s' r'=>by cases r'; exact ⟨_,rfl,q F' H' E' s'⟩⟩
 ·cases e1
def oj (xs:List T) (lo hi:Option Int):List T:=(xs.drop (HT.eu xs.length 0 lo)).take (HT.eu xs.length xs.length hi - HT.eu xs.length 0 lo)
def Hu (t:T) (lo hi:Option Int):Option T:=match t with
 | .lst xs=>some (.lst (oj xs lo hi))
 | .scr xs=>some (.lst (oj xs lo hi))
 | .tup xs=>if HT.eu xs.length 0 lo=0 /\ HT.eu xs.length xs.length hi=xs.length then none else some (.tup (oj xs lo hi))
 | _=>none
theorem rE {K:PySem.W.Frag} {F:Hp} {ts:List T} {vs:List V} (r:aU K F ts vs) (lo hi:Option Int):aU K F (oj ts lo hi) (mZ vs lo hi):=by
 unfold oj mZ
 rw [r.length]
 exact (r.drop _).take _
def wI (f:FE) (fl fh:FO):FE:=fun τ=>(f τ).bind fun p=>(fl p.2).bind fun q=>(fh q.2).bind fun r=>(Hu p.1 q.1 r.1).bind fun t=>some (t,r.2)
theorem jx {e:Expr} {lo hi:Option Expr} {f:FE} {fl fh:FO} {p2:Pos} (he:SE X e f) (hl:SO X lo fl) (hh:SO X hi fh):SE X (.Subscript e (.Slice lo hi none p2) pos) (wI f fl fh):=
 fun F₀ H₀=>PE.weak (vD (EB.or zm G6) (he F₀ H₀) (hl F₀ H₀) (hh F₀ H₀)) fun σ H Q hq__=>by
  obtain ⟨F,τ,t,τ',E,e1,q⟩:=hq__
  obtain ⟨⟨x,τ1⟩,e2,e1⟩:=bind_some e1
  obtain ⟨⟨l,τ2⟩,e3,e1⟩:=bind_some e1
  obtain ⟨⟨h,τ3⟩,e4,e1⟩:=bind_some e1
  obtain ⟨y,e5,e1⟩:=bind_some e1
  cases e1
  refine ⟨F,τ,x,τ1,E,e2,fun F1 H1 v E1 s1 r1=>⟨F1,τ1,l,τ2,E1,e3,fun F2 H2 E2 s2=>⟨F2,τ2,h,_,E2,e4,fun F3 H3 E3 s3=>?_⟩⟩⟩
  have r3:=Rep.mono (s2.trans s3) r1
  have sm:=E3.g.fh
  dsimp only at e5
  unfold Hu at e5
  split at e5
  ·cases e5
   obtain ⟨p,xs,rfl,h1,h2⟩:=r3
   refine .inl ⟨p,xs,rfl,eZ.of (sm _ _ h1),fun a ha=>?_⟩
   have gr:=bj.new (.lst (mZ xs l h)) sm ha
   exact q _ _ _ (E3.grow gr) (((s1.trans s2).trans s3).trans gr.sF) ⟨a,_,rfl,aR,aU.mono gr.sF (rE h2 l h)⟩
  ·cases e5
   obtain ⟨p,xs,rfl,h1,h2⟩:=r3
   refine .inl ⟨p,xs,rfl,sm.seq h1,fun a ha=>?_⟩
   have gr:=bj.new (.lst (mZ xs l h)) sm ha
   exact q _ _ _ (E3.grow gr) (((s1.trans s2).trans s3).trans gr.sF) ⟨a,_,rfl,aR,aU.mono gr.sF (rE h2 l h)⟩
  ·split at e5
   ·cases e5
   ·next hn =>
    cases e5
    obtain ⟨p,xs,rfl,h1,h2⟩:=r3
    refine .inr ⟨p,xs,rfl,bV sm h1,by rw [h2.length]; exact hn,fun a ha=>?_⟩
    have gr:=bj.new (.tup (mZ xs l h)) sm ha
    exact q _ _ _ (E3.grow gr) (((s1.trans s2).trans s3).trans gr.sF) ⟨a,_,rfl,kc.of aR,aU.mono gr.sF (rE h2 l h)⟩
  ·cases e5
theorem mC (i:Nat) {x:Str} {p1 p2 p3:Pos} {e:Expr} {f:FE} (hv:PE X (.Name x p1) (ip i)) (he:SE X e f)
  (hbase:attributeBase (.Name x p1) "append" X.env (eval (.Name x p1) X.env)=eval (.Name x p1) X.env:=by rfl)
  (hfew:((backTo p3 (starEach [e] X.env)).all (fun x=>!x.1) && (backToKw p3 (keywordEach [] X.env)).all (fun x=>x.1.isSome) && decide ([e].length + ([]:List Keyword).length + (if ([]:List Keyword).isEmpty then 0 else 1) < 30))=true:=by rfl)
  (hline:(p2.endLine == p3.line)=true:=by rfl) (hs:starEach [e] X.env=(false,eval e X.env) :: starEach [] X.env:=by rfl) (hpl:(backTo p3 (starEach [] X.env)).any (·.1)=false:=by rfl)
  (hsw:swapsWith (.Call (.Attribute (.Name x p1) "append" p2) [e] [] p3) none pos.line X.env=pure false:=by rfl) :
  SS X (.Expr (.Call (.Attribute (.Name x p1) "append" p2) [e] [] p3) pos) (m6 i f):=fun F₀ H₀ =>
 PS.weak (jI (EZ PySem.F.plainAttrs_list PySem.F.slot_list_append PySem.F.type_list_append jG hv (jH (he F₀ H₀) md hs) hbase hfew hline hs hpl) hsw) fun D σ H hq__=>by
  obtain ⟨F,τ,r,E,e1,q⟩:=hq__
  unfold m6 at e1
  split at e1
  ·next ts0 h0 =>
   obtain ⟨⟨t,τ1⟩,e2,e1⟩:=bind_some e1
   dsimp only at e1
   split at e1
   ·next ts h1 =>
    split at e1
    ·next hz =>
     cases e1
     obtain ⟨v,g1,p,vs,rfl,g2,g3,g4,g5⟩:=E.sl i _ h0
     refine ⟨_,g1,.inl ⟨rfl,vs,eZ.of g2⟩,F,τ,t,τ1,E,e2,fun F' H' w E' s' r'=>?_⟩
     obtain ⟨v',k1,p',vs',rfl,k2,k3,k4,k5⟩:=E'.sl i _ h1
     rw [g1] at k1; cases k1
     exact ⟨p,vs',w,rfl,rfl,k2,by rw [k5.length]; exact hz,q F' _ σ (E'.turnOwn h1 g1 (k5.append (.one r'))) s'⟩
    ·cases e1
   ·cases e1
  ·cases e1
def G8 (a b c:Int):Prop:=(0 ≤ a /\ a < 2 ^ 62) /\ (0 ≤ b /\ b < 2 ^ 62) /\ (1 ≤ c /\ c < 2 ^ 29)
instance (a b c:Int):Decidable (G8 a b c):=inferInstanceAs (Decidable ((_ /\ _) /\ (_ /\ _) /\ _ /\ _))
end
open PySem PySem.Spec PyProof.Rows L2
def fq (b:Bool) (h:Heap) (it a:Addr) (i:Nat):Prop:=match b with
 | true=>h.IsListIter it a i
 | false=>h.IsTupleIter it a i
def iu (b:Bool) (h:Heap) (a:Addr) (xs:Array Value):Prop:=match b with
 | true=>h.IsList a xs
 | false=>h.IsTuple a xs
theorem fq.ext {b:Bool} {h h':Heap} {it a:Addr} {i:Nat} (x:fq b h it a i) (k:∀ o,h.get? it=some o -> h'.get? it=some o):fq b h' it a i:=by
 cases b with
 | true=>obtain ⟨o,e,r⟩:=x; exact ⟨o,k o e,r⟩
 | false=>obtain ⟨o,e,r⟩:=x; exact ⟨o,k o e,r⟩
theorem iu.ext {b:Bool} {h h':Heap} {a:Addr} {xs:Array Value} (x:iu b h a xs) (k:∀ o,h.get? a=some o -> h'.get? a=some o):iu b h' a xs:=by
 cases b with
 | true=>obtain ⟨o,e,r⟩:=x; exact ⟨o,k o e,r⟩
 | false=>obtain ⟨o,e,r⟩:=x; exact ⟨o,k o e,r⟩
theorem fq.obj {b:Bool} {h:Heap} {it a:Addr} {i:Nat} (x:fq b h it a i):∃ o,h.get? it=some o /\ ∀ v,o.data ≠ .cell v:=by
 cases b with
 | true=>obtain ⟨o,e,_,d⟩:=x; exact ⟨o,e,fun v z=>by rw [d] at z; cases z⟩
 | false=>obtain ⟨o,e,_,d⟩:=x; exact ⟨o,e,fun v z=>by rw [d] at z; cases z⟩
section
variable {prog:Program} {w:World} {A:Around} {E:Value -> Shared -> Prop} {s:Shared}
theorem jj {b:Bool} {it a:Addr} {i:Nat} {xs:Array Value} {x:Value} {Q:Value -> Shared -> Prop} (h1:fq b s.heap it a i) (h2:iu b s.heap a xs) (hx:xs[i]? = some x)
  (hQ:∀ h',fq b h' it a (i + 1) -> Heap.SameBut it s.heap h' -> Q x { s with heap:=h' }):wpAny (model prog w) A (Builtin.SmallTypes.nextOf (.ref it)) Q E s:=by
 cases b with
 | true=>exact wpAny_nextOf_list_item h1 h2 hx hQ
 | false =>
  have h1':s.heap.IsTupleIter it a i:=h1
  obtain ⟨o,ho,hc,hd⟩:=id h1'
  obtain ⟨ol,hol,_,nl,hdl⟩:=(show s.heap.IsTuple a xs from h2)
  unfold Builtin.SmallTypes.nextOf
  refine wpAny_bind (wpAny_callSpecial?_slot (name:=Str.ofString "__next__") h1'.typeIs F.slot_tuple_iterator_next (wpAny_call_entry F.slot_tuple_iterator_next h1'.typeIs F.entry_tuple_iterator_next (?_:wpAny _ _ (field (.ref it) 0 >>= _) _ _ s) (F.args_tuple_iterator_next_1 _)))
  refine wpAny_bind (wpAny_field ho hd (x:=.ref a) rfl (?_:wpAny _ _ (if (Value.ref a == Value.none)=true then _ else _) _ _ s))
  rw [if_neg (show ¬ ((Value.ref a == Value.none)=true) from Bool.false_ne_true)]
  refine (wpAny_bind (wpAny_field ho hd (x:=.int i 0) rfl ?_):wpAny _ _ (field (.ref it) 1 >>= _) _ _ s)
  refine wpAny_bind (wpAny_seqItems (a:=a) hol hdl ?_)
  simp only [Int.toNat_natCast,hx]
  refine wpAny_bind (wpAny_setField ho hd (by simp) (wpAny_pure ⟨x,rfl,wpAny_pure (hQ _ ⟨_,Heap.get?_update_self _ ho (Obj.isFreed_of_fields (Obj.data_mapFields hd _)),(Obj.cls_mapFields ..).trans hc,?_⟩ (Heap.SameBut.update ..))⟩))
  rw [Obj.data_mapFields hd] <;> simp [rawInt]
theorem oQ {b:Bool} {it a:Addr} {i:Nat} {xs:Array Value} {Q:Value -> Shared -> Prop} (hh:A.handled=none) (h1:fq b s.heap it a i) (h2:iu b s.heap a xs) (hx:xs[i]? = none)
  (hE:∀ h' e,Heap.ExtBut it s.heap h' -> (∃ o,h'.get? e=some o /\ o.cls=.type "StopIteration") -> E (.ref e) { s with heap:=h' }):wpAny (model prog w) A (Builtin.SmallTypes.nextOf (.ref it)) Q E s:=by
 cases b with
 | true=>exact wpAny_nextOf_list_end hh h1 h2 hx hE
 | false =>
  have h1':s.heap.IsTupleIter it a i:=h1
  obtain ⟨o,ho,hc,hd⟩:=id h1'
  obtain ⟨ol,hol,_,nl,hdl⟩:=(show s.heap.IsTuple a xs from h2)
  unfold Builtin.SmallTypes.nextOf
  refine wpAny_bind (wpAny_callSpecial?_slot (name:=Str.ofString "__next__") h1'.typeIs F.slot_tuple_iterator_next (wpAny_call_entry F.slot_tuple_iterator_next h1'.typeIs F.entry_tuple_iterator_next (?_:wpAny _ _ (field (.ref it) 0 >>= _) _ _ s) (F.args_tuple_iterator_next_1 _)))
  refine wpAny_bind (wpAny_field ho hd (x:=.ref a) rfl (?_:wpAny _ _ (if (Value.ref a == Value.none)=true then _ else _) _ _ s))
  rw [if_neg (show ¬ ((Value.ref a == Value.none)=true) from Bool.false_ne_true)]
  refine (wpAny_bind (wpAny_field ho hd (x:=.int i 0) rfl ?_):wpAny _ _ (field (.ref it) 1 >>= _) _ _ s)
  refine wpAny_bind (wpAny_seqItems (a:=a) hol hdl ?_)
  simp only [Int.toNat_natCast,hx]
  refine wpAny_bind (wpAny_rule (wpAny_bind (wpAny_setField ho hd (by simp) (wpAny_bind (m:=newExc (.type "StopIteration") []) ?_))))
  simp only [newExc,newTuple]
  refine wpAny_bind (wpAny_newObj_type (wpAny_bind (m:=firstArgMember _ _) (wpAny_of_eq (a:=Value.none) (by first | rfl | (simp only [firstArgMember]; rfl)) (wpAny_newObj_type ?_ (by size_fits)))) (by size_fits))
  simp only [raiseNew]
  refine wpAny_bind (wpAny_handled ?_)
  first | rw [show A.in1.handled=none from hh] | rw [hh]
  exact wpAny_bind (wpAny_pure (wpAny_throw (hE _ _ (((Heap.SameBut.update ..).extBut.push _).push _) ⟨_,Heap.get?_push_size _ rfl,rfl⟩)))
variable {z TI TO i1 i2 l1 l2:Addr} {k:Nat} {xs ys:Array Value} {x y a b:Value} {c1 c2:Bool}
theorem Ce {Q:Value -> Shared -> Prop} (D:ZipApart z TI TO i1 i2 l1 l2) (hz:IsZip s.heap z TI TO .none) (hI:IsPair s.heap TI (.ref i1) (.ref i2)) (hO:IsPair s.heap TO a b)
  (h1:fq c1 s.heap i1 l1 k) (h2:fq c2 s.heap i2 l2 k) (g1:iu c1 s.heap l1 xs) (g2:iu c2 s.heap l2 ys) (hx:xs[k]? = some x) (hy:ys[k]? = some y)
  (hQ:∀ h',IsZip h' z TI TO (rawInt s.heap.objs.size) -> IsPair h' TO x y -> fq c1 h' i1 l1 (k + 1) -> fq c2 h' i2 l2 (k + 1) -> IsPair h' s.heap.objs.size x y ->
   (∀ c o,c ≠ z -> c ≠ TO -> c ≠ i1 -> c ≠ i2 -> s.heap.get? c=some o -> h'.get? c=some o) -> Q (.ref s.heap.objs.size) { s with heap:=h' }) :
  wpAny (model prog w) A (Builtin.«zip.__next__» ⟨[.ref z],[]⟩) (fun fin s'=>∃ v,fin=.done (.ret v) /\ Q v s') E s:=by
 refine (wpAny_bind (wpAny_field hz rfl (x:=.bool false) rfl ?_):wpAny _ _ (field (.ref z) 2 >>= _) _ _ _)
 refine (wpAny_bind (wpAny_field hz rfl (x:=.ref TI) rfl ?_):wpAny _ _ (field (.ref z) 3 >>= _) _ _ _)
 refine wpAny_bind (wpAny_seqItems hI rfl ?_)
 refine (wpAny_bind ?_:wpAny _ _ (Builtin.SmallTypes.ownedTupleIsFree (.ref z) >>= _) _ _ _)
 unfold Builtin.SmallTypes.ownedTupleIsFree
 refine wpAny_bind (wpAny_field hz rfl (x:=.none) rfl (wpAny_pure ?_))
 simp only [if_true]
 refine wpAny_bind (wpAny_rule (wpAny_bind (wpAny_field hz rfl (x:=.ref TO) rfl (wpAny_bind (wpAny_setField_rec hz (by simp) fun ha za sa=>?_)))))
 replace za:IsZip ha z TI TO .ellipsis:=za
 refine wpAny_bind ?_
 simp only [List.zipIdx_cons,List.zipIdx_nil,List.forIn_cons,List.forIn_nil]
 refine wpAny_bind (wpAny_bind (wpAny_onRaise (?_:wpAny _ _ (Builtin.SmallTypes.nextOf (.ref i1) >>= _) _ _ _)))
 refine wpAny_bind (jj (h1.ext fun o e=>sa.extBut _ _ D.i1z e) (g1.ext fun o e=>sa.extBut _ _ D.l1z e) hx fun hb kb sb=>wpAny_pure ?_)
 have Ob:IsPair hb TO a b:=sb.extBut _ _ D.TOi1 (sa.extBut _ _ D.TOz hO)
 refine wpAny_bind (wpAny_seqItems Ob rfl (wpAny_bind (wpAny_updateSeq_pair Ob fun hc Oc sc=>wpAny_bind (wpAny_letGo (wpAny_pure ?_)))))
 replace Oc:IsPair hc TO x b:=Oc
 refine wpAny_bind (wpAny_bind (wpAny_onRaise (?_:wpAny _ _ (Builtin.SmallTypes.nextOf (.ref i2) >>= _) _ _ _)))
 refine wpAny_bind (jj (h2.ext fun o e=>sc.extBut _ _ D.TOi2.symm (sb.extBut _ _ D.i12.symm (sa.extBut _ _ D.i2z e))) (g2.ext fun o e=>sc.extBut _ _ D.l2TO (sb.extBut _ _ D.l2i1 (sa.extBut _ _ D.l2z e))) hy fun hd kd sd=>wpAny_pure ?_)
 have Od:IsPair hd TO x b:=sd.extBut _ _ D.TOi2 Oc
 refine wpAny_bind (wpAny_seqItems Od rfl (wpAny_bind (wpAny_updateSeq_pair Od fun he Oe se=>wpAny_bind (wpAny_letGo (wpAny_pure (wpAny_pure ?_))))))
 replace Oe:IsPair he TO x y:=Oe
 refine wpAny_bind (wpAny_seqItems Oe rfl (wpAny_bind (wpAny_newTuple ?_)))
 have ez:he.objs.size=s.heap.objs.size:=by rw [se.1,sd.1,sc.1,sb.1,sa.1]
 have ze:IsZip he z TI TO .ellipsis:=se.extBut _ _ D.TOz.symm (sd.extBut _ _ D.i2z.symm (sc.extBut _ _ D.TOz.symm (sb.extBut _ _ D.i1z.symm za)))
 have ke:∀ c o,c ≠ z -> c ≠ TO -> c ≠ i1 -> c ≠ i2 -> s.heap.get? c=some o -> he.get? c=some o:=fun c o n1 n2 n3 n4 e=>se.extBut _ _ n2 (sd.extBut _ _ n4 (sc.extBut _ _ n2 (sb.extBut _ _ n3 (sa.extBut _ _ n1 e))))
 have i1e:fq c1 he i1 l1 (k + 1):=kb.ext fun o e=>se.extBut _ _ D.TOi1.symm (sd.extBut _ _ D.i12 (sc.extBut _ _ D.TOi1.symm e))
 have i2e:fq c2 he i2 l2 (k + 1):=kd.ext fun o e=>se.extBut _ _ D.TOi2.symm e
 have zlt:z < he.objs.size:=Heap.lt_size ze
 refine (wpAny_bind ?_:wpAny _ _ (Builtin.SmallTypes.ownedTupleHandOut (.ref z) (.ref he.objs.size) >>= _) _ _ _)
 unfold Builtin.SmallTypes.ownedTupleHandOut
 have zf:IsZip (he.push { cls:=.type "tuple", data:=.seq #[x,y] }) z TI TO .ellipsis:=Heap.get?_push_of_some _ ze
 refine wpAny_bind (wpAny_setField_rec zf (by simp) fun hg zg sg=>?_)
 replace zg:IsZip hg z TI TO (rawInt he.objs.size):=zg
 refine wpAny_setField_rec zg (by simp) fun hh zh sh=>?_
 replace zh:IsZip hh z TI TO (rawInt he.objs.size):=zh
 have up:∀ c o,c ≠ z -> he.get? c=some o -> hh.get? c=some o:=fun c o n e=>sh.extBut _ _ n (sg.extBut _ _ n (Heap.get?_push_of_some _ e))
 have tp:IsPair hh he.objs.size x y:=sh.extBut _ _ (Nat.ne_of_gt zlt) (sg.extBut _ _ (Nat.ne_of_gt zlt) (Heap.get?_push_size _ rfl))
 rw [ez] at zh tp
 refine wpAny_pure ⟨_,rfl,(?_:Q (.ref he.objs.size) _)⟩
 rw [ez]
 exact hQ hh zh (up _ _ D.TOz Oe) (i1e.ext fun o e=>up _ o D.i1z e) (i2e.ext fun o e=>up _ o D.i2z e) tp fun c o n1 n2 n3 n4 e=>up c o n1 (ke c o n1 n2 n3 n4 e)
theorem Eo {Q:Fin -> Shared -> Prop} (hh:A.handled=none) (D:ZipApart z TI TO i1 i2 l1 l2) (hz:IsZip s.heap z TI TO .none) (hI:IsPair s.heap TI (.ref i1) (.ref i2)) (hO:IsPair s.heap TO a b)
  (h1:fq c1 s.heap i1 l1 k) (h2:fq c2 s.heap i2 l2 k) (g1:iu c1 s.heap l1 xs) (g2:iu c2 s.heap l2 ys) (hend:xs[k]? = none \/ ys[k]? = none)
  (hE:∀ h' e,(∀ c o,c ≠ z -> c ≠ TO -> c ≠ i1 -> c ≠ i2 -> s.heap.get? c=some o -> h'.get? c=some o) -> (∃ o,h'.get? e=some o /\ o.cls=.type "StopIteration") -> E (.ref e) { s with heap:=h' }) :
  wpAny (model prog w) A (Builtin.«zip.__next__» ⟨[.ref z],[]⟩) Q E s:=by
 refine (wpAny_bind (wpAny_field hz rfl (x:=.bool false) rfl ?_):wpAny _ _ (field (.ref z) 2 >>= _) _ _ _)
 refine (wpAny_bind (wpAny_field hz rfl (x:=.ref TI) rfl ?_):wpAny _ _ (field (.ref z) 3 >>= _) _ _ _)
 refine wpAny_bind (wpAny_seqItems hI rfl ?_)
 refine (wpAny_bind ?_:wpAny _ _ (Builtin.SmallTypes.ownedTupleIsFree (.ref z) >>= _) _ _ _)
 unfold Builtin.SmallTypes.ownedTupleIsFree
 refine wpAny_bind (wpAny_field hz rfl (x:=.none) rfl (wpAny_pure ?_))
 simp only [if_true]
 refine wpAny_bind (wpAny_rule (wpAny_bind (wpAny_field hz rfl (x:=.ref TO) rfl (wpAny_bind (wpAny_setField_rec hz (by simp) fun ha za sa=>?_)))))
 replace za:IsZip ha z TI TO .ellipsis:=za
 refine wpAny_bind ?_
 simp only [List.zipIdx_cons,List.zipIdx_nil,List.forIn_cons,List.forIn_nil]
 refine wpAny_bind (wpAny_bind (wpAny_onRaise (?_:wpAny _ _ (Builtin.SmallTypes.nextOf (.ref i1) >>= _) _ _ _)))
 cases hx:xs[k]? with
 | none =>
  refine wpAny_bind (oQ hh (h1.ext fun o e=>sa.extBut _ _ D.i1z e) (g1.ext fun o e=>sa.extBut _ _ D.l1z e) hx fun hb e sb eo=>?_)
  obtain ⟨oe,ho,hc⟩:=eo
  have zb:IsZip hb z TI TO .ellipsis:=sb _ _ D.i1z.symm za
  have ne:e ≠ z:=fun q=>by subst q; rw [zb] at ho; cases ho; simp at hc
  exact wpAny_setField_rec zb (by simp) fun hd _ sd=>hE hd e (fun c o n1 _ n3 _ q=>sd.extBut _ _ n1 (sb _ _ n3 (sa.extBut _ _ n1 q))) ⟨oe,sd.extBut _ _ ne ho,hc⟩
 | some x =>
  have hy:ys[k]? = none:=by rcases hend with h | h; rw [hx] at h; cases h; exact h
  refine wpAny_bind (jj (h1.ext fun o e=>sa.extBut _ _ D.i1z e) (g1.ext fun o e=>sa.extBut _ _ D.l1z e) hx fun hb kb sb=>wpAny_pure ?_)
  have Ob:IsPair hb TO a b:=sb.extBut _ _ D.TOi1 (sa.extBut _ _ D.TOz hO)
  refine wpAny_bind (wpAny_seqItems Ob rfl (wpAny_bind (wpAny_updateSeq_pair Ob fun hc Oc sc=>wpAny_bind (wpAny_letGo (wpAny_pure ?_)))))
  refine wpAny_bind (wpAny_bind (wpAny_onRaise (?_:wpAny _ _ (Builtin.SmallTypes.nextOf (.ref i2) >>= _) _ _ _)))
  refine wpAny_bind (oQ hh (h2.ext fun o e=>sc.extBut _ _ D.TOi2.symm (sb.extBut _ _ D.i12.symm (sa.extBut _ _ D.i2z e))) (g2.ext fun o e=>sc.extBut _ _ D.l2TO (sb.extBut _ _ D.l2i1 (sa.extBut _ _ D.l2z e))) hy fun hd e sd eo=>?_)
  obtain ⟨oe,ho,hk⟩:=eo
  have zd:IsZip hd z TI TO .ellipsis:=sd _ _ D.i2z.symm (sc.extBut _ _ D.TOz.symm (sb.extBut _ _ D.i1z.symm za))
  have ne:e ≠ z:=fun q=>by subst q; rw [zd] at ho; cases ho; simp at hk
  exact wpAny_setField_rec zd (by simp) fun hf _ sf=>hE hf e (fun c o n1 n2 n3 n4 q=>sf.extBut _ _ n1 (sd _ _ n4 (sc.extBut _ _ n2 (sb.extBut _ _ n3 (sa.extBut _ _ n1 q))))) ⟨oe,sf.extBut _ _ ne ho,hk⟩
theorem ua {Q:Option Value -> Shared -> Prop} (D:ZipApart z TI TO i1 i2 l1 l2) (hz:IsZip s.heap z TI TO .none) (hI:IsPair s.heap TI (.ref i1) (.ref i2)) (hO:IsPair s.heap TO a b)
  (h1:fq c1 s.heap i1 l1 k) (h2:fq c2 s.heap i2 l2 k) (g1:iu c1 s.heap l1 xs) (g2:iu c2 s.heap l2 ys) (hx:xs[k]? = some x) (hy:ys[k]? = some y)
  (hQ:∀ h',IsZip h' z TI TO (rawInt s.heap.objs.size) -> IsPair h' TO x y -> fq c1 h' i1 l1 (k + 1) -> fq c2 h' i2 l2 (k + 1) -> IsPair h' s.heap.objs.size x y ->
   (∀ c o,c ≠ z -> c ≠ TO -> c ≠ i1 -> c ≠ i2 -> s.heap.get? c=some o -> h'.get? c=some o) -> Q (some (.ref s.heap.objs.size)) { s with heap:=h' }):wpAny (model prog w) A (pyNext (.ref z)) Q E s:=by
 have hT:s.TypeIs (.ref z) "zip" := ⟨_,hz,rfl⟩
 unfold pyNext
 exact wpAny_bind (wpAny_attempt (wpAny_callSpecial?_slot (name:=Str.ofString "__next__") hT F.slot_zip_next (wpAny_call_entry F.slot_zip_next hT F.entry_zip_next
  (Ce D hz hI hO h1 h2 g1 g2 hx hy fun h' a1 a2 a3 a4 a5 a6=>wpAny_pure (hQ h' a1 a2 a3 a4 a5 a6)) (F.args_zip_next_1 _))))
theorem wb {Q:Option Value -> Shared -> Prop} (hh:A.handled=none) (D:ZipApart z TI TO i1 i2 l1 l2) (hz:IsZip s.heap z TI TO .none) (hI:IsPair s.heap TI (.ref i1) (.ref i2)) (hO:IsPair s.heap TO a b)
  (h1:fq c1 s.heap i1 l1 k) (h2:fq c2 s.heap i2 l2 k) (g1:iu c1 s.heap l1 xs) (g2:iu c2 s.heap l2 ys) (hend:xs[k]? = none \/ ys[k]? = none)
  (hQ:∀ h',(∀ c o,c ≠ z -> c ≠ TO -> c ≠ i1 -> c ≠ i2 -> s.heap.get? c=some o -> h'.get? c=some o) -> Q none { s with heap:=h' }):wpAny (model prog w) A (pyNext (.ref z)) Q E s:=by
 have hT:s.TypeIs (.ref z) "zip" := ⟨_,hz,rfl⟩
 unfold pyNext
 refine wpAny_bind (wpAny_attempt (wpAny_callSpecial?_slot (name:=Str.ofString "__next__") hT F.slot_zip_next (wpAny_call_entry F.slot_zip_next hT F.entry_zip_next
  (Eo hh D hz hI hO h1 h2 g1 g2 hend fun h' e hk eo=>?_) (F.args_zip_next_1 _))))
 obtain ⟨o,ho,hc⟩:=eo
 exact wpAny_bind (wpAny_isInstance (T := "StopIteration") (b:=true) ⟨o,ho,hc⟩ isSubtype_stop (wpAny_pure (hQ _ hk)))
end
open PySem PySem.Spec PyProof.Rows L2
def xa (b:Bool) (l:Addr):Obj:=match b with
 | true=>{ cls:=.type "list_iterator", data:=.fields #[.ref l,.int 0 0] }
 | false=>{ cls:=.type "tuple_iterator", data:=.fields #[.ref l,.int 0 0] }
theorem yH {b:Bool} {l it:Addr} {h:Heap} (e:h.get? it=some (xa b l)):fq b h it l 0:=by
 cases b with
 | true=>exact ⟨_,e,rfl,rfl⟩
 | false=>exact ⟨_,e,rfl,rfl⟩
abbrev JX (h:Heap) (c1:Bool) (l1:Addr):Heap:=h.push (xa c1 l1)
abbrev JY (h:Heap) (c1 c2:Bool) (l1 l2:Addr):Heap:=(JX h c1 l1).push (xa c2 l2)
abbrev JZ (h:Heap) (c1 c2:Bool) (l1 l2:Addr):Heap:=(JY h c1 c2 l1 l2).push { cls:=.type "tuple", data:=.seq #[.ref h.objs.size,.ref (JX h c1 l1).objs.size] }
abbrev J0 (h:Heap) (c1 c2:Bool) (l1 l2:Addr):Heap:=(JZ h c1 c2 l1 l2).push { cls:=.type "tuple", data:=.seq #[.none,.none] }
abbrev Hz (h:Heap) (c1 c2:Bool) (l1 l2:Addr):Heap:=(J0 h c1 c2 l1 l2).push { cls:=.type "zip", data:=.fields #[.none,.bool false,.bool false,.ref (JY h c1 c2 l1 l2).objs.size,.ref (JZ h c1 c2 l1 l2).objs.size] }
abbrev AD (c1 c2:Bool) (l1 l2:Addr) (xs ys:Array Value):Prop:=Meets (Builtin.«zip.__new__» ⟨[.type "zip", .ref l1,.ref l2],[]⟩) (fun _ R s=>iu c1 s.heap l1 xs /\ iu c2 s.heap l2 ys /\
   R (.ok (.ret (.ref (J0 s.heap c1 c2 l1 l2).objs.size))) { s with heap:=Hz s.heap c1 c2 l1 l2 })
theorem yc (l1 l2:Addr) (xs ys:Array Value):AD true true l1 l2 xs ys:=.of_wp fun prog w A R s h=>by
 obtain ⟨hp,g,d,tk,os⟩:=s
 obtain ⟨q1,q2,h⟩:=h
 have hsub:=sub_zip
 have p1:Heap.IsList (Shared.heap ⟨hp,g,d,tk,os⟩) l1 xs:=q1
 have p2:Heap.IsList (Shared.heap ⟨hp.push { cls:=.type "list_iterator", data:=.fields #[.ref l1,.int 0 0] },g,d,tk,os⟩) l2 ys:=Heap.IsList.push q2 _
 wp_walk using wpAny_pyIter_list p1,wpAny_pyIter_list p2
 exact ⟨_,rfl,h⟩
theorem yb (l1 l2:Addr) (xs ys:Array Value):AD true false l1 l2 xs ys:=.of_wp fun prog w A R s h=>by
 obtain ⟨hp,g,d,tk,os⟩:=s
 obtain ⟨q1,q2,h⟩:=h
 have hsub:=sub_zip
 have p1:Heap.IsList (Shared.heap ⟨hp,g,d,tk,os⟩) l1 xs:=q1
 have p2:Heap.IsTuple (Shared.heap ⟨hp.push { cls:=.type "list_iterator", data:=.fields #[.ref l1,.int 0 0] },g,d,tk,os⟩) l2 ys:=Heap.IsTuple.push q2 _
 wp_walk using wpAny_pyIter_list p1,wpAny_pyIter_tuple p2
 exact ⟨_,rfl,h⟩
theorem ya (l1 l2:Addr) (xs ys:Array Value):AD false true l1 l2 xs ys:=.of_wp fun prog w A R s h=>by
 obtain ⟨hp,g,d,tk,os⟩:=s
 obtain ⟨q1,q2,h⟩:=h
 have hsub:=sub_zip
 have p1:Heap.IsTuple (Shared.heap ⟨hp,g,d,tk,os⟩) l1 xs:=q1
 have p2:Heap.IsList (Shared.heap ⟨hp.push { cls:=.type "tuple_iterator", data:=.fields #[.ref l1,.int 0 0] },g,d,tk,os⟩) l2 ys:=Heap.IsList.push q2 _
 wp_walk using wpAny_pyIter_tuple p1,wpAny_pyIter_list p2
 exact ⟨_,rfl,h⟩
theorem x9 (l1 l2:Addr) (xs ys:Array Value):AD false false l1 l2 xs ys:=.of_wp fun prog w A R s h=>by
 obtain ⟨hp,g,d,tk,os⟩:=s
 obtain ⟨q1,q2,h⟩:=h
 have hsub:=sub_zip
 have p1:Heap.IsTuple (Shared.heap ⟨hp,g,d,tk,os⟩) l1 xs:=q1
 have p2:Heap.IsTuple (Shared.heap ⟨hp.push { cls:=.type "tuple_iterator", data:=.fields #[.ref l1,.int 0 0] },g,d,tk,os⟩) l2 ys:=Heap.IsTuple.push q2 _
 wp_walk using wpAny_pyIter_tuple p1,wpAny_pyIter_tuple p2
 exact ⟨_,rfl,h⟩
theorem ql (c1 c2:Bool) (l1 l2:Addr) (xs ys:Array Value):AD c1 c2 l1 l2 xs ys:=by
 cases c1 <;> cases c2
 ·exact x9 l1 l2 xs ys
 ·exact ya l1 l2 xs ys
 ·exact yb l1 l2 xs ys
 ·exact yc l1 l2 xs ys
section
variable {prog:Program} {w:World} {A:Around} {E:Value -> Shared -> Prop} {s:Shared}
theorem AK {c1 c2:Bool} {l1 l2:Addr} {xs ys:Array Value} {Q:Value -> Shared -> Prop} (q1:iu c1 s.heap l1 xs) (q2:iu c2 s.heap l2 ys)
  (h:∀ h',IsZip h' (s.heap.objs.size + 4) (s.heap.objs.size + 2) (s.heap.objs.size + 3) .none -> IsPair h' (s.heap.objs.size + 2) (.ref s.heap.objs.size) (.ref (s.heap.objs.size + 1)) ->
   IsPair h' (s.heap.objs.size + 3) .none .none -> fq c1 h' s.heap.objs.size l1 0 -> fq c2 h' (s.heap.objs.size + 1) l2 0 -> (∀ c o,s.heap.get? c=some o -> h'.get? c=some o) -> Q (.ref (s.heap.objs.size + 4)) { s with heap:=h' }) :
  wpAny (model prog w) A (call (.type "zip") [.ref l1,.ref l2]) Q E s:=by
 refine callType_new F.called_zip (by decide) (F.typeCall_zip_2 _ _) (F.newCall_zip_2 _ _) (fun obj=>F.args_object_init_3 obj _ _) F.entry_zip_new (ql c1 c2 l1 l2 xs ys) ⟨q1,q2,?_⟩
 have z1:(JX s.heap c1 l1).objs.size=s.heap.objs.size + 1:=Heap.size_push ..
 have z2:(JY s.heap c1 c2 l1 l2).objs.size=s.heap.objs.size + 2:=by rw [Heap.size_push,z1]
 have z3:(JZ s.heap c1 c2 l1 l2).objs.size=s.heap.objs.size + 3:=by rw [Heap.size_push,z2]
 have z4:(J0 s.heap c1 c2 l1 l2).objs.size=s.heap.objs.size + 4:=by rw [Heap.size_push,z3]
 have p:∀ {h:Heap} {o:Obj} {c:Addr} {u:Obj},h.get? c=some u -> (h.push o).get? c=some u:=fun e=>Heap.get?_push_of_some _ e
 have n1:(xa c1 l1).isFreed=false:=by cases c1 <;> rfl
 have n2:(xa c2 l2).isFreed=false:=by cases c2 <;> rfl
 have g5:(Hz s.heap c1 c2 l1 l2).get? (J0 s.heap c1 c2 l1 l2).objs.size=some _:=Heap.get?_push_size _ rfl
 have g4:(Hz s.heap c1 c2 l1 l2).get? (JZ s.heap c1 c2 l1 l2).objs.size=some _:=p (Heap.get?_push_size _ rfl)
 have g3:(Hz s.heap c1 c2 l1 l2).get? (JY s.heap c1 c2 l1 l2).objs.size=some _:=p (p (Heap.get?_push_size _ rfl))
 have g2:(Hz s.heap c1 c2 l1 l2).get? (JX s.heap c1 l1).objs.size=some (xa c2 l2):=p (p (p (Heap.get?_push_size _ n2)))
 have g1:(Hz s.heap c1 c2 l1 l2).get? s.heap.objs.size=some (xa c1 l1):=p (p (p (p (Heap.get?_push_size _ n1))))
 show _ /\ _
 rw [z2,z3,z4] at g5
 rw [z1,z2] at g3
 rw [z3] at g4
 rw [z1] at g2
 rw [z4]
 exact ⟨⟨_,g5,rfl⟩,h _ g5 g3 g4 (yH g1) (yH g2) fun c o x=>p (p (p (p (p x))))⟩
end
def uf (b:Bool) (K:PySem.W.Frag) (H:Hp) (a:Addr) (xs:List V):Prop:=match b with
 | true=>eZ K H a xs
 | false=>kc K H a xs
def J5 (K:PySem.W.Frag) (c1 c2:Bool) (l1 l2:Addr):It:=
  ⟨fun i H=>∃ xs ys x y,uf c1 K H l1 xs /\ uf c2 K H l2 ys /\ xs[i]? = some x /\ ys[i]? = some y,
   fun i H v H'=>∃ p x y,v=.ref p /\ H p=none /\ H'=upd H p (.tup [x,y]) /\ (∀ xs,uf c1 K H l1 xs -> xs[i]? = some x) /\ ∀ ys,uf c2 K H l2 ys -> ys[i]? = some y,
   fun i H=>∃ xs ys,uf c1 K H l1 xs /\ uf c2 K H l2 ys /\ (xs.length ≤ i \/ ys.length ≤ i)⟩
section
variable {X:Cx} {pins:List (Addr × Obj)} {σ:L2.St} {H:Hp} {s:Shared}
theorem mB {b:Bool} {a:Addr} {xs:List V} (I:Inv X pins σ H s) (h:uf b X.K H a xs):∃ its:List Value,Vals xs its /\ iu b s.heap a its.toArray:=by
 cases b with
 | true=>obtain ⟨its,r,p,_⟩:=I.list h; exact ⟨its,r,p.isList⟩
 | false=>obtain ⟨its,r,p,_⟩:=I.tuple h; exact ⟨its,r,p⟩
theorem zr {b:Bool} {a:Addr} {xs ys:List V} (I:Inv X pins σ H s) (h:uf b X.K H a xs) (h':uf b X.K H a ys):xs=ys:=by
 cases b with
 | true=>exact I.list_inj h h'
 | false=>exact I.tuple_inj h h'
end
structure Lp (c1 c2:Bool) (z TI TO i1 i2 l1 l2:Addr) (i:Nat) (h:Heap):Prop where
 hz:IsZip h z TI TO .none
 hI:IsPair h TI (.ref i1) (.ref i2)
 hO:∃ a b,IsPair h TO a b
 h1:fq c1 h i1 l1 i
 h2:fq c2 h i2 l2 i
theorem xY {X:Cx} {pins:List (Addr × Obj)} {σ:L2.St} {H:Hp} {s:Shared} {h':Heap} {fp:List Addr} (I:Inv X pins σ H s) (hf:∀ b ∈ fp,pX X pins H b) (k:∀ b o,b ∉ fp -> s.heap.get? b=some o -> h'.get? b=some o):Inv X pins σ H { s with heap:=h' }:=by
 have nit:∀ b u,H b=some u -> b ∉ fp:=fun b u e z=>by rw [(hf b z).1] at e; cases e
 refine I.step (g':=s.gens) (d':=s.drawn) (t':=s.toks) (ch:=fp) (fun b hb=>?_) (fun b o _ _ hc e _=>k b o hc e) (fun b o _ _ hc e _=>⟨o.slots,k b o hc e⟩) (fun _ _ _ _ n=>n)
  (fun b o hc e=>⟨o,k b o hc e⟩) (fun _ _ e=>e) (fun _ _ _ e=>e) (fun b ps e=>⟨#[],by rw [e]; simp⟩) (fun m hm=>?_) (fun b u e=>?_) I.bare
 ·obtain ⟨_,f1,_,f3,f4,f5⟩:=hf b hb
  exact ⟨f3,f1,f4,f5⟩
 ·obtain ⟨o,es,ep,ho,r⟩:=hm
  exact ⟨o,es,ep,k _ o (fun z=>(hf _ z).2.1 rfl) ho,r⟩
 ·refine (I.hok b u e).stay (fun c v hc q=>k c v ?_ q) (fun _ q=>q) fun _ _ q=>q
  rcases hc with z | z
  ·rw [z]; exact nit b u e
  ·exact nit c _ z
theorem Ca {P:Program} {w:World} {K:PySem.W.Frag} {elts:List Expr} {kx:Nat} {px:Pos} {c1 c2:Bool} {z TI TO i1 i2 l1 l2:Addr} (D:ZipApart z TI TO i1 i2 l1 l2) :
  Turn P w K (.Tuple elts kx px) (J5 K c1 c2 l1 l2) [z,TI,TO,i1,i2] z (Lp c1 c2 z TI TO i1 i2 l1 l2) where
 mem:=by simp
 obj:=fun i h st b hb=>by
  simp only [List.mem_cons,List.not_mem_nil,or_false] at hb
  rcases hb with rfl | rfl | rfl | rfl | rfl
  ·exact ⟨_,st.hz,fun v q=>nomatch (show Data.fields _=Data.cell v from q)⟩
  ·exact ⟨_,st.hI,fun v q=>nomatch (show Data.seq _ _=Data.cell v from q)⟩
  ·obtain ⟨a,b,e⟩:=st.hO
   exact ⟨_,e,fun v q=>nomatch (show Data.seq _ _=Data.cell v from q)⟩
  ·exact st.h1.obj
  ·exact st.h2.obj
 keep:=fun i h h' st k=>by
  obtain ⟨a,b,e⟩:=st.hO
  exact ⟨k z (by simp) _ st.hz,k TI (by simp) _ st.hI,⟨a,b,k TO (by simp) _ e⟩,st.h1.ext fun o e=>k i1 (by simp) o e,st.h2.ext fun o e=>k i2 (by simp) o e⟩
 item:=fun X hP hw hK hc i pins s σ H E I hf st hg=>by
  subst hP hw hK
  obtain ⟨xs,ys,x,y,q1,q2,g1,g2⟩:=hg
  obtain ⟨its,r1,p1⟩:=mB I q1
  obtain ⟨jts,r2,p2⟩:=mB I q2
  obtain ⟨u,e1,ru⟩:=r1.get g1
  obtain ⟨v,e2,rv⟩:=r2.get g2
  obtain ⟨a,b,hO⟩:=st.hO
  refine ua D st.hz st.hI hO st.h1 st.h2 p1 p2 (x:=u) (y:=v) (by simpa using e1) (by simpa using e2) fun h' a1 a2 a3 a4 a5 a6=>⟨_,rfl,?_⟩
  refine wpAny_letOwnedTupleGo_zip (s:={ s with heap:=h' }) a1 fun h2 b1 b2=>?_
  have kp:∀ b o,b ∉ [z,TI,TO,i1,i2] -> s.heap.get? b=some o -> h2.get? b=some o:=fun b o hb e=>by
   simp only [List.mem_cons,List.not_mem_nil,or_false,not_or] at hb
   exact b2.extBut _ _ hb.1 (a6 b o hb.1 hb.2.2.1 hb.2.2.2.1 hb.2.2.2.2 e)
  have lz:z < s.heap.objs.size:=Heap.lt_size st.hz
  have pr:IsPair h2 s.heap.objs.size u v:=b2.extBut _ _ (Nat.ne_of_gt lz) a5
  have fr:H s.heap.objs.size=none:=I.hok.fresh (Nat.le_refl _)
  have hokA:mY X.prog X.w (upd H s.heap.objs.size (.tup [x,y])) h2:=by
   intro c o e
   by_cases hcz:c=s.heap.objs.size
   ·subst hcz
    rw [aR] at e; cases e
    exact ⟨by show 2 ≤ sizeLine; decide,[u,v],.cons ru (.cons rv .nil),_,pr,rfl,_,rfl⟩
   ·rw [aJ hcz] at e
    have nf:∀ d o',H d=some o' -> d ∉ [z,TI,TO,i1,i2]:=fun d o' ed hd=>by rw [(hf d hd).1] at ed; cases ed
    have up:∀ d o',H d=some o' -> upd H s.heap.objs.size (.tup [x,y]) d=some o':=fun d o' ed=>by rw [aJ (bK ed fr)]; exact ed
    refine (I.hok c o e).stay (fun d v' hd q=>kp d v' ?_ q) (fun d q=>up d _ q) fun d xs q=>up d _ q
    rcases hd with rfl | hd
    ·exact nf _ o e
    ·exact nf d _ hd
  have J:Inv X pins σ (upd H s.heap.objs.size (.tup [x,y])) { s with heap:=h2 }:=by
   have ne:∀ b o,s.heap.get? b=some o -> b ≠ s.heap.objs.size:=fun b o e=>Nat.ne_of_lt (Heap.lt_size e)
   refine I.step (g':=s.gens) (d':=s.drawn) (t':=s.toks) (ch:=[z,TI,TO,i1,i2]) (fun b hb=>?_) (fun b o _ _ hc e _=>kp b o hc e) (fun b o _ _ hc e _=>⟨o.slots,kp b o hc e⟩) (fun b o _ e n=>by rw [aJ (ne b o e)]; exact n)
    (fun b o hc e=>⟨o,kp b o hc e⟩) (fun b xs e=>by rw [aJ (bK e fr)]; exact e) (fun b o u e=>by rw [aJ (bK e fr)]; exact e) (fun b ps e=>⟨#[],by rw [aJ (bK e fr),e]; simp⟩) (fun m hm=>?_) hokA I.bare
   ·obtain ⟨_,f1,_,f3,f4,f5⟩:=hf b hb
    exact ⟨f3,f1,f4,f5⟩
   ·obtain ⟨o,es,ep,ho,r⟩:=hm
    exact ⟨o,es,ep,kp _ o (fun q=>(hf _ q).2.1 rfl) ho,r⟩
  refine ⟨.ref s.heap.objs.size,_,J,rfl,⟨_,x,y,rfl,fr,rfl,fun xs' h=>by rw [zr I h q1]; exact g1,fun ys' h=>by rw [zr I h q2]; exact g2⟩,?_,fun b hb=>?_⟩
  ·exact ⟨b1,b2.extBut _ _ D.TIz (a6 _ _ D.TIz D.TITO D.TIi1 D.TIi2 st.hI),⟨_,_,b2.extBut _ _ D.TOz a2⟩,a3.ext fun o e=>b2.extBut _ _ D.i1z e,a4.ext fun o e=>b2.extBut _ _ D.i2z e⟩
  ·obtain ⟨o,e,_⟩:∃ o,s.heap.get? b=some o /\ True:=by
    simp only [List.mem_cons,List.not_mem_nil,or_false] at hb
    rcases hb with rfl | rfl | rfl | rfl | rfl
    ·exact ⟨_,st.hz,trivial⟩
    ·exact ⟨_,st.hI,trivial⟩
    ·exact ⟨_,hO,trivial⟩
    ·obtain ⟨o,e,_⟩:=st.h1.obj; exact ⟨o,e,trivial⟩
    ·obtain ⟨o,e,_⟩:=st.h2.obj; exact ⟨o,e,trivial⟩
   rw [aJ (Nat.ne_of_lt (Heap.lt_size e))]
   exact (hf b hb).1
 done:=fun X hP hw hK hc i pins s σ H E I hf st hg=>by
  subst hP hw hK
  obtain ⟨xs,ys,q1,q2,g⟩:=hg
  obtain ⟨its,r1,p1⟩:=mB I q1
  obtain ⟨jts,r2,p2⟩:=mB I q2
  obtain ⟨a,b,hO⟩:=st.hO
  have n1:=r1.length
  have n2:=r2.length
  refine wb (I.ok.hd hc) D st.hz st.hI hO st.h1 st.h2 p1 p2 ?_ fun h' k=>⟨rfl,xY I hf fun b o hb e=>?_⟩
  ·rcases g with g | g
   ·exact .inl (by simp; omega)
   ·exact .inr (by simp; omega)
  ·simp only [List.mem_cons,List.not_mem_nil,or_false,not_or] at hb
   exact k b o hb.1 hb.2.2.1 hb.2.2.2.1 hb.2.2.2.2 e
 self:=fun _ _ _ _ _ st h=>wpAny_pyIter_zip st.hz h
open PySem PySem.Spec PyProof.Rows L2
def Jk:T -> Option (Bool × List T)
 | .lst ts=>some (true,ts)
 | .scr ts=>some (true,ts)
 | .tup ts=>some (false,ts)
 | _=>none
theorem zq {K:PySem.W.Frag} {F:Hp} {t:T} {v:V} {b:Bool} {ts:List T} (r:Rep K F t v) (e:Jk t=some (b,ts)):∃ a xs,v=.ref a /\ uf b K F a xs /\ aU K F ts xs:=by
 cases t <;> simp only [Jk] at e <;> cases e
 ·exact r
 ·obtain ⟨a,xs,h1,h2,h3⟩:=r
  exact ⟨a,xs,h1,eZ.of h2,h3⟩
 ·exact r
theorem uf.same {b:Bool} {K:PySem.W.Frag} {H H':Hp} {a:Addr} {xs:List V} (s:aO H H') (h:uf b K H a xs):uf b K H' a xs:=by
 cases b with
 | true=>exact s.seq h
 | false=>exact bV s h
def gG:List T -> List T -> List T
 | x :: xs,y :: ys=>.tup [x,y] :: gG xs ys
 | _,_=>[]
theorem mW:∀ (xs ys:List T),(gG xs ys).length=min xs.length ys.length
 | [],_=>by simp [gG]
 | _ :: _,[]=>by simp [gG]
 | x :: xs,y :: ys=>by simp [gG,mW xs ys]
theorem pS:∀ (xs ys:List T) (i:Nat) (t:T),(gG xs ys)[i]? = some t -> ∃ x y,xs[i]? = some x /\ ys[i]? = some y /\ t=.tup [x,y]
 | [],_,i,t,e=>by simp [gG] at e
 | _ :: _,[],i,t,e=>by simp [gG] at e
 | x :: xs,y :: ys,0,t,e=>by simp [gG] at e; exact ⟨x,y,rfl,rfl,e.symm⟩
 | x :: xs,y :: ys,i + 1,t,e=>by
  obtain ⟨a,b,h1,h2,h3⟩:=pS xs ys i t (by simpa [gG] using e)
  exact ⟨a,b,by simpa using h1,by simpa using h2,h3⟩
theorem Ax {K:PySem.W.Frag} {F:Hp} {c1 c2:Bool} {l1 l2:Addr} {xs ys:List V} {ts us:List T} (h1:uf c1 K F l1 xs) (r1:aU K F ts xs) (h2:uf c2 K F l2 ys) (r2:aU K F us ys):Walks K F (gG ts us) (J5 K c1 c2 l1 l2):=by
 refine ⟨fun i t F1 H1 e s1 s2=>?_,fun i t F1 H1 x H2 e s1 s2 y=>?_,fun F1 H1 s1 s2=>⟨xs,ys,h1.same (s1.trans s2),h2.same (s1.trans s2),?_⟩⟩
 ·obtain ⟨a,b,e1,e2,rfl⟩:=pS ts us i t e
  obtain ⟨v,g1,_⟩:=r1.get e1
  obtain ⟨w,g2,_⟩:=r2.get e2
  exact ⟨xs,ys,v,w,h1.same (s1.trans s2),h2.same (s1.trans s2),g1,g2⟩
 ·obtain ⟨p,v,w,rfl,hp,rfl,q1,q2⟩:=y
  obtain ⟨a,b,e1,e2,rfl⟩:=pS ts us i t e
  obtain ⟨v',g1,k1⟩:=r1.get e1
  obtain ⟨w',g2,k2⟩:=r2.get e2
  have m1:=q1 xs (h1.same (s1.trans s2))
  have m2:=q2 ys (h2.same (s1.trans s2))
  rw [g1] at m1; cases m1
  rw [g2] at m2; cases m2
  have gr:=bj.new (.tup [v,w]) s2 hp
  exact ⟨_,gr,p,_,rfl,kc.of aR,v,[w],rfl,Rep.mono (s1.trans gr.sF) k1,w,[],rfl,Rep.mono (s1.trans gr.sF) k2,rfl⟩
 ·rw [mW,r1.length,r2.length]
  omega
def dP (g:FA):FA:=fun τ=>(g τ).bind fun p=>match p.1 with
 | [a,b]=>(Jk a).bind fun x=>(Jk b).bind fun y=>some (gG x.2 y.2,p.2)
 | _=>none
theorem kG {X:Cx} {a b:Expr} {p pos:Pos} {ga:FA} {elts:List Expr} {kx:Nat} {px:Pos} (hg:Gl X "zip") (hm:X.mg "zip" = none) (ha:SA X [a,b] ga) (hs:starEach [a,b] X.env=(false,eval a X.env) :: starEach [b] X.env:=by rfl)
  (hs2:(backTo pos (starEach [b] X.env)).any (·.1)=false:=by rfl):SI X (.Tuple elts kx px) (.Call (.Name "zip" p) [a,b] [] pos) (dP ga):=by
 intro F₀ H₀ pins s σ H R I ⟨F,τ,ts,τ',E,e1,q⟩
 obtain ⟨⟨x,τ1⟩,e2,e1⟩:=bind_some e1
 dsimp only at e1
 split at e1
 ·next t u =>
  obtain ⟨⟨c1,us⟩,e3,e1⟩:=bind_some e1
  obtain ⟨⟨c2,ws⟩,e4,e1⟩:=bind_some e1
  cases e1
  refine Call_ (lW I hg hm (show bootBuiltins "zip" = some (.type "zip") from rfl) (PyProof.Rows.callWith_type1 (cM (ha F₀ H₀ pos pins s σ H (fun vs H'=>∃ l1 l2 xs ys,vs=[.ref l1,.ref l2] /\ uf c1 X.K H' l1 xs /\ uf c2 X.K H' l2 ys /\ R (J5 X.K c1 c2 l1 l2) H') I ⟨F,τ,_,_,E,e2,fun F' H' vs E' s' r'=>?_⟩) fun vs s1 ⟨ws',H1,I1,r1,q1⟩=>?_) hs hs2))
  ·obtain ⟨v1,r1,rfl,k1,v2,r2,rfl,k2,rfl⟩:=r'
   obtain ⟨l1,xs,rfl,h1,h2⟩:=zq k1 e3
   obtain ⟨l2,ys,rfl,h3,h4⟩:=zq k2 e4
   exact ⟨l1,l2,xs,ys,rfl,h1.same E'.g.fh,h3.same E'.g.fh,q F' H' _ E' s' (Ax h1 h2 h3 h4)⟩
  ·obtain ⟨l1,l2,xs,ys,rfl,h1,h2,q1⟩:=q1
   cases r1 with
   | cons ra rr =>
    cases rr with
    | cons rb rr =>
     cases rr; cases ra; cases rb
     obtain ⟨its,_,p1⟩:=mB I1 h1
     obtain ⟨jts,_,p2⟩:=mB I1 h2
     refine AK p1 p2 fun h' a1 a2 a3 a4 a5 kp=>wpAny_pyIter_zip (s:={ s1 with heap:=h' }) a1 ?_
     have lt:∀ {c:Bool} {l:Addr} {zs:Array Value},iu c s1.heap l zs -> l < s1.heap.objs.size:=fun {c l zs} h=>by
      cases c with
      | true=>obtain ⟨o,e,_⟩:=h; exact Heap.lt_size e
      | false=>obtain ⟨o,e,_⟩:=h; exact Heap.lt_size e
     have n1:@LT.lt Nat _ l1 s1.heap.objs.size:=lt p1
     have n2:@LT.lt Nat _ l2 s1.heap.objs.size:=lt p2
     have J:Inv X pins σ H1 { s1 with heap:=h' }:=I1.kept (t':=s1.toks) kp
     refine ⟨_,[_,_,_,_,_],_,_,H1,rfl,J,Ca (c1:=c1) (c2:=c2) (z:=s1.heap.objs.size + 4) (TI:=s1.heap.objs.size + 2) (TO:=s1.heap.objs.size + 3) (i1:=s1.heap.objs.size) (i2:=s1.heap.objs.size + 1) (l1:=l1) (l2:=l2) ?_,⟨a1,a2,⟨_,_,a3⟩,a4,a5⟩,fun b hb=>?_,q1⟩
     ·constructor <;> (refine (?_:@Ne Nat _ _); omega)
     ·have hb':s1.heap.objs.size ≤ b:=by
       simp only [List.mem_cons,List.not_mem_nil,or_false] at hb
       rcases hb with rfl | rfl | rfl | rfl | rfl <;> omega
      exact I1.fpOk hb' (I1.hok.fresh hb')
 ·cases e1
open PySem PySem.Spec PyProof.Rows L2
theorem uR:bg [.non,.ty "int"]=some (.bl false):=rfl
theorem sk:bg [.non,.ty "bool"]=some (.bl false):=rfl
theorem uS:bg [.non,.ty "str"]=some (.bl false):=rfl
theorem sr:bg [.non,.ty "list"]=some (.bl false):=rfl
theorem qb:bg [.non,.ty "tuple"]=some (.bl false):=rfl
theorem so:bg [.non,.ty "dict"]=some (.bl false):=rfl
theorem wZ:bg [.non,.tup [.ty "list", .ty "tuple"]]=some (.bl false):=rfl
theorem wU {b:Bool}:bg [(.bl b),.ty "int"]=some (.bl true):=rfl
theorem uI {b:Bool}:bg [(.bl b),.ty "bool"]=some (.bl true):=rfl
theorem wV {b:Bool}:bg [(.bl b),.ty "str"]=some (.bl false):=rfl
theorem uK {b:Bool}:bg [(.bl b),.ty "list"]=some (.bl false):=rfl
theorem rR {b:Bool}:bg [(.bl b),.ty "tuple"]=some (.bl false):=rfl
theorem uJ {b:Bool}:bg [(.bl b),.ty "dict"]=some (.bl false):=rfl
theorem zW {b:Bool}:bg [(.bl b),.tup [.ty "list", .ty "tuple"]]=some (.bl false):=rfl
theorem uN {i:Int}:bg [(.int i),.ty "int"]=some (.bl true):=rfl
theorem rW {i:Int}:bg [(.int i),.ty "bool"]=some (.bl false):=rfl
theorem uO {i:Int}:bg [(.int i),.ty "str"]=some (.bl false):=rfl
theorem rY {i:Int}:bg [(.int i),.ty "list"]=some (.bl false):=rfl
theorem p8 {i:Int}:bg [(.int i),.ty "tuple"]=some (.bl false):=rfl
theorem rX {i:Int}:bg [(.int i),.ty "dict"]=some (.bl false):=rfl
theorem wX {i:Int}:bg [(.int i),.tup [.ty "list", .ty "tuple"]]=some (.bl false):=rfl
theorem uV {x:Str}:bg [(.str x),.ty "int"]=some (.bl false):=rfl
theorem sA {x:Str}:bg [(.str x),.ty "bool"]=some (.bl false):=rfl
theorem uW {x:Str}:bg [(.str x),.ty "str"]=some (.bl true):=rfl
theorem sE {x:Str}:bg [(.str x),.ty "list"]=some (.bl false):=rfl
theorem qd {x:Str}:bg [(.str x),.ty "tuple"]=some (.bl false):=rfl
theorem sD {x:Str}:bg [(.str x),.ty "dict"]=some (.bl false):=rfl
theorem w8 {x:Str}:bg [(.str x),.tup [.ty "list", .ty "tuple"]]=some (.bl false):=rfl
theorem uX {ts:List T}:bg [(.tup ts),.ty "int"]=some (.bl false):=rfl
theorem sG {ts:List T}:bg [(.tup ts),.ty "bool"]=some (.bl false):=rfl
theorem uY {ts:List T}:bg [(.tup ts),.ty "str"]=some (.bl false):=rfl
theorem sJ {ts:List T}:bg [(.tup ts),.ty "list"]=some (.bl false):=rfl
theorem qe {ts:List T}:bg [(.tup ts),.ty "tuple"]=some (.bl true):=rfl
theorem sI {ts:List T}:bg [(.tup ts),.ty "dict"]=some (.bl false):=rfl
theorem w9 {ts:List T}:bg [(.tup ts),.tup [.ty "list", .ty "tuple"]]=some (.bl true):=rfl
theorem uP {ts:List T}:bg [(.lst ts),.ty "int"]=some (.bl false):=rfl
theorem rZ {ts:List T}:bg [(.lst ts),.ty "bool"]=some (.bl false):=rfl
theorem uQ {ts:List T}:bg [(.lst ts),.ty "str"]=some (.bl false):=rfl
theorem sj {ts:List T}:bg [(.lst ts),.ty "list"]=some (.bl true):=rfl
theorem p9 {ts:List T}:bg [(.lst ts),.ty "tuple"]=some (.bl false):=rfl
theorem si {ts:List T}:bg [(.lst ts),.ty "dict"]=some (.bl false):=rfl
theorem wY {ts:List T}:bg [(.lst ts),.tup [.ty "list", .ty "tuple"]]=some (.bl true):=rfl
theorem uT {ts:List T}:bg [(.scr ts),.ty "int"]=some (.bl false):=rfl
theorem su {ts:List T}:bg [(.scr ts),.ty "bool"]=some (.bl false):=rfl
theorem uU {ts:List T}:bg [(.scr ts),.ty "str"]=some (.bl false):=rfl
theorem sy {ts:List T}:bg [(.scr ts),.ty "list"]=some (.bl true):=rfl
theorem qc {ts:List T}:bg [(.scr ts),.ty "tuple"]=some (.bl false):=rfl
theorem sv {ts:List T}:bg [(.scr ts),.ty "dict"]=some (.bl false):=rfl
theorem w6 {ts:List T}:bg [(.scr ts),.tup [.ty "list", .ty "tuple"]]=some (.bl true):=rfl
theorem uL:bg [.dic,.ty "int"]=some (.bl false):=rfl
theorem rS:bg [.dic,.ty "bool"]=some (.bl false):=rfl
theorem uM:bg [.dic,.ty "str"]=some (.bl false):=rfl
theorem rV:bg [.dic,.ty "list"]=some (.bl false):=rfl
theorem p7:bg [.dic,.ty "tuple"]=some (.bl false):=rfl
theorem rT:bg [.dic,.ty "dict"]=some (.bl true):=rfl
theorem wW:bg [.dic,.tup [.ty "list", .ty "tuple"]]=some (.bl false):=rfl
theorem nK (i j:Int):mL (.int i) (.int j)=some (.bl (decide (i=j))):=by
 show some (T.bl (i == j))=_
 rw [Bool.beq_eq_decide_eq]
theorem rN (i j:Int):mM (.int i) (.int j)=some (.bl (!decide (i=j))):=by
 show some (T.bl (!(i == j)))=_
 rw [Bool.beq_eq_decide_eq]
theorem FR (i j:Bool):mL (.bl i) (.bl j)=some (.bl (i == j)):=rfl
theorem FW (i j:Bool):mM (.bl i) (.bl j)=some (.bl (!(i == j))):=rfl
theorem zE (i j:Int):yd i j ↔ (¬ j=0 /\ j.natAbs < B):=Iff.rfl
theorem zF (i j:Int):ye i j ↔ (i.natAbs < B /\ j.natAbs < B):=Iff.rfl
theorem Cn (i j:Int):JF i j ↔ ¬ j=0:=Iff.rfl
theorem da {n:Nat} (h:n ≤ 1000):n ≤ sizeLine:=Nat.le_of_lt (cH h)
theorem Kr:(0:Nat) ≤ sizeLine:=da (by decide)
theorem Ks:(1:Nat) ≤ sizeLine:=da (by decide)
theorem Iz:(2:Nat) ≤ sizeLine:=da (by decide)
theorem Lc:(3:Nat) ≤ sizeLine:=da (by decide)
theorem Ku:(4:Nat) ≤ sizeLine:=da (by decide)
theorem Bd {x y:T}:bN (.tup [x,y]) (.int 0)=some x:=rfl
theorem Be {x y:T}:bN (.tup [x,y]) (.int 1)=some y:=rfl
theorem Bb {x y:T}:bN (.lst [x,y]) (.int 0)=some x:=rfl
theorem Bc {x y:T}:bN (.lst [x,y]) (.int 1)=some y:=rfl
theorem AM (a:Int):ux [.int a]=some (.int (a.natAbs:Int)):=by
 have e:(if a < 0 then -a else a)=(a.natAbs:Int):=by split <;> omega
 simp only [ux,e]
theorem HN:(2 ^ 64:Nat) < B:=by decide +kernel
open PySem PySem.Spec PyProof.Rows L2
theorem eU (a:Int) {b:Int} (h:0 < b):0 ≤ a.fmod b /\ a.fmod b < b:=⟨Int.fmod_nonneg_of_pos _ h,Int.fmod_lt_of_pos _ h⟩
theorem BF {n:Nat} (h:n < 2 ^ 64):((n:Int)).natAbs < B:=by have:=HN; omega
def intsOf:List T -> Option (List Int)
 | []=>some []
 | .int i :: ts=>(intsOf ts).bind fun ns=>some (i :: ns)
 | _ :: _=>none
theorem iF:∀ ns:List Int,intsOf (ns.map T.int)=some ns
 | []=>rfl
 | n :: ns=>by simp [intsOf,iF ns]
theorem km:∀ {ts:List T} {ns:List Int},intsOf ts=some ns -> ts=ns.map T.int
 | [],ns,h=>by cases h; rfl
 | .int i :: ts,ns,h=>by
  obtain ⟨ms,e,h⟩:=bind_some h
  cases h
  rw [km e]; rfl
 | .non :: _,_,h=>by cases h
 | .bl _ :: _,_,h=>by cases h
 | .str _ :: _,_,h=>by cases h
 | .ty _ :: _,_,h=>by cases h
 | .tup _ :: _,_,h=>by cases h
 | .lst _ :: _,_,h=>by cases h
 | .scr _ :: _,_,h=>by cases h
 | .dic :: _,_,h=>by cases h
 | .obj _ _ _ :: _,_,h=>by cases h
 | .ptr _ :: _,_,h=>by cases h
theorem Dc {ns:List Int} {k:Int} (h0:0 ≤ k) (h1:k < (ns.length:Int)):bN (.scr (ns.map T.int)) (.int k)=some (.int (ns.getD k.toNat 0)):=by
 show nF (ns.map T.int) k=_
 obtain ⟨j,rfl⟩:=Int.eq_ofNat_of_zero_le h0
 have hk:j < ns.length:=by omega
 refine rd ?_
 rw [List.getElem?_map,List.getElem?_eq_getElem hk]
 simp [List.getD,List.getElem?_eq_getElem hk]
open PySem PySem.Spec PyProof.Rows L2
def lT (env:Env):List (Str × NameKind) -> List (Str × Addr) -> List (Str × Addr)
 | [],acc=>acc
 | (x,k) :: r,acc=>if k == .free then lT env r ((x,(env.cells.lookup x).getD 0) :: acc) else lT env r acc
theorem mH {env:Env} (f:Str × NameKind -> List (Str × Addr) -> Sem (ForInStep (List (Str × Addr)))) (hf:∀ x k cs,f (x,k) cs=if k == .free then (do let a <- cellOf env x; pure (.yield ((x,a) :: cs))) else pure (.yield cs)) :
  ∀ (names:List (Str × NameKind)) (acc:List (Str × Addr)),(∀ y ∈ names,y.2=.free -> ∃ c,env.cells.lookup y.1=some c) -> forIn names acc f=pure (lT env names acc)
 | [],acc,_=>by rw [List.forIn_nil]; rfl
 | (x,k) :: r,acc,hy=>by
  rw [List.forIn_cons,hf]
  have ih:=mH f hf r
  have hr:∀ y ∈ r,y.2=.free -> ∃ c,env.cells.lookup y.1=some c:=fun z hz=>hy z (List.mem_cons_of_mem _ hz)
  cases hk:(k == NameKind.free) with
  | true =>
   obtain ⟨c,hc⟩:=hy (x,k) List.mem_cons_self (beq_iff_eq.mp hk)
   dsimp only at hc
   simp only [if_true,lT,hc,cellOf,pure_bind,Option.getD_some,hk]
   exact ih _ hr
  | false =>
   simp only [Bool.false_eq_true,if_false,lT,pure_bind,hk]
   exact ih _ hr
theorem ki {env:Env} {scope:Scope} (h:∀ y ∈ scope.names,y.2=.free -> ∃ c,env.cells.lookup y.1=some c):closureFor scope env=pure (lT env scope.names []):=by
 simp only [closureFor]
 rw [mH (env:=env) _ (fun x k cs=>by cases hk:k == NameKind.free <;> simp [hk]) scope.names [] h]
 rfl
theorem rm {env:Env}:∀ (names:List (Str × NameKind)) (acc:List (Str × Addr)) (x:Str) (c:Addr),(∀ y ∈ names,y.2=.free -> ∃ c,env.cells.lookup y.1=some c) -> (x,c) ∈ lT env names acc -> (x,c) ∈ acc \/ (env.cells.lookup x=some c /\ (x,NameKind.free) ∈ names)
 | [],acc,x,c,_,h=>.inl h
 | (y,k) :: r,acc,x,c,hy,h=>by
  unfold lT at h
  have hr:∀ z ∈ r,z.2=.free -> ∃ c,env.cells.lookup z.1=some c:=fun z hz=>hy z (List.mem_cons_of_mem _ hz)
  cases hk:(k == NameKind.free) with
  | true =>
   rw [if_pos hk] at h
   rcases rm r _ x c hr h with h | h
   ·rcases List.mem_cons.mp h with h | h
    ·cases h
     obtain ⟨c,hc⟩:=hy (y,k) List.mem_cons_self (beq_iff_eq.mp hk)
     dsimp only at hc
     refine .inr ⟨by rw [hc]; rfl,?_⟩
     rw [beq_iff_eq.mp hk]
     exact List.mem_cons_self
    ·exact .inl h
   ·exact .inr ⟨h.1,List.mem_cons_of_mem _ h.2⟩
  | false =>
   rw [if_neg (by rw [hk]; decide)] at h
   rcases rm r _ x c hr h with h | h
   ·exact .inl h
   ·exact .inr ⟨h.1,List.mem_cons_of_mem _ h.2⟩
theorem eJ:∀ {l:List (Str × Addr)} {x:Str} {c:Addr},(x,c) ∈ l -> ∃ d,l.lookup x=some d
 | (y,d) :: r,x,c,h=>by
  rw [List.lookup_cons]
  cases hb:x == y with
  | true=>exact ⟨d,rfl⟩
  | false =>
   rcases List.mem_cons.mp h with h | h
   ·cases h; simp at hb
   ·exact eJ h
theorem nG {env:Env}:∀ (names:List (Str × NameKind)) (acc:List (Str × Addr)) (x:Str),((x,NameKind.free) ∈ names \/ ∃ c,(x,c) ∈ acc) -> ∃ c,(x,c) ∈ lT env names acc
 | [],acc,x,h=>by
  rcases h with h | h
  ·cases h
  ·exact h
 | (y,k) :: r,acc,x,h=>by
  unfold lT
  cases hk:(k == NameKind.free) with
  | true =>
   rw [if_pos rfl]
   refine nG r _ x ?_
   rcases h with h | ⟨c,h⟩
   ·rcases List.mem_cons.mp h with h | h
    ·cases h; exact .inr ⟨_,List.mem_cons_self⟩
    ·exact .inl h
   ·exact .inr ⟨c,List.mem_cons_of_mem _ h⟩
  | false =>
   rw [if_neg (by decide)]
   refine nG r _ x ?_
   rcases h with h | h
   ·rcases List.mem_cons.mp h with h | h
    ·cases h; cases hk
    ·exact .inl h
   ·exact .inr h
theorem wA:∀ (names:List (Str × NameKind)) (n:Nat) (acc:List (Str × Addr)) (x:Str) (c:Addr),(x,c) ∈ cellsFrom n names acc -> (x,c) ∈ acc \/ (n ≤ c /\ (x,NameKind.cell) ∈ names)
 | [],n,acc,x,c,h=>.inl h
 | (y,k) :: r,n,acc,x,c,h=>by
  unfold cellsFrom at h
  cases hk:(k == NameKind.cell) with
  | true =>
   rw [if_pos hk] at h
   rcases wA r _ _ x c h with h | ⟨h1,h2⟩
   ·rcases List.mem_cons.mp h with h | h
    ·cases h
     refine .inr ⟨Nat.le_refl _,?_⟩
     rw [beq_iff_eq.mp hk]
     exact List.mem_cons_self
    ·exact .inl h
   ·exact .inr ⟨Nat.le_of_succ_le h1,List.mem_cons_of_mem _ h2⟩
  | false =>
   rw [if_neg (by rw [hk]; decide)] at h
   rcases wA r _ _ x c h with h | ⟨h1,h2⟩
   ·exact .inl h
   ·exact .inr ⟨h1,List.mem_cons_of_mem _ h2⟩
theorem wz:∀ (names:List (Str × NameKind)) (n:Nat) (acc:List (Str × Addr)),(∀ x y c,(x,c) ∈ acc -> (y,c) ∈ acc -> x=y) -> (∀ x c,(x,c) ∈ acc -> @LT.lt Nat _ c n) -> ∀ x y c,(x,c) ∈ cellsFrom n names acc -> (y,c) ∈ cellsFrom n names acc -> x=y
 | [],n,acc,h1,_,x,y,c,h,h'=>h1 x y c h h'
 | (z,k) :: r,n,acc,h1,h2,x,y,c,h,h'=>by
  unfold cellsFrom at h h'
  cases hk:(k == NameKind.cell) with
  | true =>
   rw [if_pos hk] at h h'
   refine wz r (n + 1) _ (fun a b d ha hb=>?_) (fun a d ha=>?_) x y c h h'
   ·rcases List.mem_cons.mp ha with ha | ha <;> rcases List.mem_cons.mp hb with hb | hb
    ·cases ha; cases hb; rfl
    ·cases ha; exact absurd (h2 _ _ hb) (Nat.lt_irrefl _)
    ·cases hb; exact absurd (h2 _ _ ha) (Nat.lt_irrefl _)
    ·exact h1 a b d ha hb
   ·rcases List.mem_cons.mp ha with ha | ha
    ·cases ha; exact Nat.lt_succ_self _
    ·exact Nat.lt_succ_of_lt (h2 _ _ ha)
  | false =>
   rw [if_neg (by rw [hk]; decide)] at h h'
   exact wz r n acc h1 h2 x y c h h'
theorem og:∀ (names:List (Str × NameKind)) (n:Nat) (acc:List (Str × Addr)) (x:Str),((x,NameKind.cell) ∈ names \/ ∃ c,(x,c) ∈ acc) -> ∃ c,(x,c) ∈ cellsFrom n names acc
 | [],n,acc,x,h=>by
  rcases h with h | h
  ·cases h
  ·exact h
 | (y,k) :: r,n,acc,x,h=>by
  unfold cellsFrom
  cases hk:(k == NameKind.cell) with
  | true =>
   rw [if_pos rfl]
   refine og r _ _ x ?_
   rcases h with h | ⟨c,h⟩
   ·rcases List.mem_cons.mp h with h | h
    ·cases h; exact .inr ⟨_,List.mem_cons_self⟩
    ·exact .inl h
   ·exact .inr ⟨c,List.mem_cons_of_mem _ h⟩
  | false =>
   rw [if_neg (by decide)]
   refine og r _ _ x ?_
   rcases h with h | h
   ·rcases List.mem_cons.mp h with h | h
    ·cases h; cases hk
    ·exact .inl h
   ·exact .inr h
theorem rl:∀ (names:List (Str × NameKind)) (h:Heap) (acc:List (Str × Addr)) (x:Str) (c:Addr),(x,c) ∈ cellsFrom h.objs.size names acc -> (x,c) ∈ acc \/ (pushCells h names).IsCell c none
 | [],h,acc,x,c,m=>.inl m
 | (y,k) :: r,h,acc,x,c,m=>by
  unfold cellsFrom at m
  unfold pushCells
  cases hk:(k == NameKind.cell) with
  | true =>
   rw [if_pos hk] at m
   rw [if_pos rfl]
   have m':(x,c) ∈ cellsFrom (h.push { cls:=.type "cell", data:=.cell none }).objs.size r ((y,h.objs.size) :: acc):=by rw [Heap.size_push]; exact m
   rcases rl r _ _ x c m' with m | m
   ·rcases List.mem_cons.mp m with m | m
    ·cases m
     refine .inr ?_
     have q:(h.push { cls:=.type "cell", data:=.cell none }).IsCell h.objs.size none:=⟨_,Heap.get?_push_size _ rfl,rfl⟩
     exact q.keeps fun b o e=>pushCells_keeps r _ b o e
    ·exact .inl m
   ·exact .inr m
  | false =>
   rw [if_neg (by rw [hk]; decide)] at m
   rw [if_neg (by decide)]
   exact rl r h acc x c m
open PySem PySem.Spec PyProof.Rows L2
def gX (X:Cx) (scope:Scope) (C:Addr) (cs:List (Str × Addr)):Env:=
 { newEnv scope C X.env.globals cs X.env.qual none .none (some X.env) builtinsNs with scope:=relabel scope X.env }
def rh (X:Cx) (scope:Scope) (N':List Str) (C:Addr) (cs:List (Str × Addr)) (s₀:Shared) (H₀:Hp) (fp:List Addr) (pins:List (Addr × Obj)):Cx:=
 { X with N:=N',s₀:=s₀,H₀:=H₀,env:=gX X scope C cs,outer:=X.stack,stack:=X.stack,ex:=fp,fn:=fun x=>scope.names.lookup x == some .cell,pn:=X.pn ++ pins,xe:=fun _ _=>False }
structure gm (X:Cx) (scope:Scope):Prop where
 kind:scope.kind=.function
 names:∀ y ∈ scope.names,y.2=.local -> scope.names.lookup y.1=some .local
 free:∀ y ∈ scope.names,y.2=.free -> (X.env.kindOf y.1=some .cell \/ X.env.kindOf y.1=some .free) /\ (y.1,NameKind.cell) ∉ scope.names /\ scope.names.lookup y.1=some .free
theorem mem_of_lookupK:∀ {l:List (Str × NameKind)} {x:Str} {k:NameKind},l.lookup x=some k -> (x,k) ∈ l
 | (y,d) :: r,x,k,h=>by
  rw [List.lookup_cons] at h
  cases hb:x == y with
  | true=>rw [hb] at h; cases h; rw [beq_iff_eq.mp hb]; exact List.mem_cons_self
  | false=>rw [hb] at h; exact List.mem_cons_of_mem _ (mem_of_lookupK h)
theorem fY {env:Env}:∀ {names:List (Str × NameKind)} {x:Str},names.lookup x=some .free ->
    ((names.map fun (n,k)=>if (k == NameKind.free && env.scope.kind == .function && env.kindOf n == some .cell) then (n,NameKind.cell) else (n,k)).lookup x=some .cell \/
     (names.map fun (n,k)=>if (k == NameKind.free && env.scope.kind == .function && env.kindOf n == some .cell) then (n,NameKind.cell) else (n,k)).lookup x=some .free)
  | (n,k) :: r,x,h=>by
    rw [List.lookup_cons] at h
    have en:∀ y:Str × NameKind,y=(if (k == NameKind.free && env.scope.kind == .function && env.kindOf n == some .cell)=true then (n,NameKind.cell) else (n,k)) -> y.1=n /\ (y.2=.cell \/ y.2=k):=fun y e=>by
      subst e
      split
      · exact ⟨rfl,.inl rfl⟩
      · exact ⟨rfl,.inr rfl⟩
    rw [List.map_cons]
    dsimp only
    generalize hy:(if (k == NameKind.free && env.scope.kind == .function && env.kindOf n == some .cell)=true then (n,NameKind.cell) else (n,k))=y
    obtain ⟨e1,e2⟩:=en y hy.symm
    obtain ⟨a,b⟩:=y
    dsimp only at e1 e2
    subst e1
    rw [List.lookup_cons]
    cases hb:x == a with
    | true =>
      rw [hb] at h
      cases h
      rcases e2 with rfl | rfl
      · exact .inl rfl
      · exact .inr rfl
    | false =>
      rw [hb] at h
      exact fY h
theorem vH {X:Cx} {scope:Scope} {x:Str} (h:(gX X scope C cs).kindOf x=some .cell \/ (gX X scope C cs).kindOf x=some .free):(x,NameKind.cell) ∈ scope.names \/ (x,NameKind.free) ∈ scope.names:=by
 have key:∀ k,(gX X scope C cs).kindOf x=some k -> (k=.cell \/ k=.free) -> (x,NameKind.cell) ∈ scope.names \/ (x,NameKind.free) ∈ scope.names:=fun k h hk=>by
  have m:=mem_of_lookupK (show (relabel scope X.env).names.lookup x=some k from h)
  unfold relabel at m
  obtain ⟨⟨y,j⟩,m1,m2⟩:=List.mem_map.mp m
  dsimp only at m2
  split at m2
  ·next hc =>
   cases m2
   simp only [Bool.and_eq_true,beq_iff_eq] at hc
   rw [hc.1.1] at m1
   exact .inr m1
  ·cases m2
   rcases hk with rfl | rfl
   ·exact .inl m1
   ·exact .inr m1
 rcases h with h | h
 ·exact key _ h (.inl rfl)
 ·exact key _ h (.inr rfl)
section
variable {X:Cx} {pins:List (Addr × Obj)} {σ:L2.St} {H:Hp} {s:Shared} {scope:Scope} {fp:List Addr} {N':List Str} {σ':L2.St}
abbrev jU:Obj:={ cls:=.type "list", dict:=none,data:=.seq ([]:List Value).toArray }
abbrev uz:Obj:={ cls:=.type "dict", data:=.dict #[] }
def h0 (h:Heap) (scope:Scope):Heap:=pushCells ((h.push jU).push uz) scope.names
theorem gf {h:Heap} {b:Addr} {o:Obj} (e:h.get? b=some o):(h0 h scope).get? b=some o:=pushCells_keeps _ _ _ _ (Heap.get?_push_of_some _ (Heap.get?_push_of_some _ e))
theorem FY (h:Heap):(h0 h scope).get? h.objs.size=some jU:=pushCells_keeps _ _ _ _ (Heap.get?_push_of_some _ (Heap.get?_push_size _ rfl))
theorem qz (I:Inv X pins σ H s) (B:gm X scope) (hf:∀ b ∈ fp,pX X pins H b) (ho:∀ b ∈ fp,∃ o,s.heap.get? b=some o) (hl:σ'.length=N'.length)
  (cap:∀ (i:Nat) (x:Str) (v:V),N'[i]? = some x -> σ'[i]? = some (some v) -> ((x,NameKind.free) ∈ scope.names /\ ∃ j:Nat,X.N[j]? = some x /\ σ[j]? = some (some v)) \/ ¬ HJ (relabel scope X.env) x) {tk:Nat} :
  Inv (rh X scope N' (s.heap.objs.size + 1) (cellsFrom (s.heap.objs.size + 2) scope.names (lT X.env scope.names [])) s H fp pins) [] σ' (upd H s.heap.objs.size (.lst [])) { s with heap:=h0 s.heap scope,toks:=tk }:=by
 have hz1:(s.heap.push jU).objs.size=s.heap.objs.size + 1:=Heap.size_push ..
 have hz2:((s.heap.push jU).push uz).objs.size=s.heap.objs.size + 2:=by rw [Heap.size_push,hz1]
 have hfree:∀ y ∈ scope.names,y.2=.free -> ∃ c,X.env.cells.lookup y.1=some c:=fun y hy hk=>I.ok.has y.1 (B.free y hy hk).1
 have clm:∀ x c,(x,c) ∈ lT X.env scope.names [] -> X.env.cells.lookup x=some c /\ (x,NameKind.free) ∈ scope.names:=fun x c h=>by
  rcases rm _ _ x c hfree h with h | h
  ·cases h
  ·exact h
 have cl_lt:∀ x c,(x,c) ∈ lT X.env scope.names [] -> @LT.lt Nat _ c s.heap.objs.size:=fun x c h=>by
  obtain ⟨v,q⟩:=I.cell x c (clm x c h).1
  exact q.lt
 have csm:∀ x c,(x,c) ∈ cellsFrom (s.heap.objs.size + 2) scope.names (lT X.env scope.names []) -> (X.env.cells.lookup x=some c /\ (x,NameKind.free) ∈ scope.names /\ @LT.lt Nat _ c s.heap.objs.size) \/ (@LE.le Nat _ (s.heap.objs.size + 2) c /\ (x,NameKind.cell) ∈ scope.names):=fun x c h=>by
  rcases wA _ _ _ x c h with h | h
  ·exact .inl ⟨(clm x c h).1,(clm x c h).2,cl_lt x c h⟩
  ·exact .inr h
 have hD:H s.heap.objs.size=none:=I.fresh
 have up:∀ b:Addr,@LT.lt Nat _ b s.heap.objs.size -> upd H s.heap.objs.size (.lst []) b=H b:=fun b hb=>aJ (Nat.ne_of_lt hb)
 have upF:∀ b:Addr,@LT.lt Nat _ s.heap.objs.size b -> upd H s.heap.objs.size (.lst []) b=none:=fun b hb=>by rw [aJ (Nat.ne_of_gt hb)]; exact I.hok.fresh (Nat.le_of_lt hb)
 have flt:∀ b ∈ fp,@LT.lt Nat _ b s.heap.objs.size:=fun b hb=>by obtain ⟨o,e⟩:=ho b hb; exact Heap.lt_size e
 refine ⟨⟨I.ok.mod,B.kind,I.ok.glob,I.ok.blt,Nat.le_succ _,fun x y c h1 h2=>?_,fun x hx=>?_,fun x c hx h=>?_,I.ok.hd,I.ok.frames,.inl rfl,fun b hb=>⟨?_,fun x c h=>?_⟩,I.bs,Nat.le_trans I.ok.bsz I.sz,fun b o e hb=>?_,fun b hb z=>?_,I.stack,I.stkFree⟩,
  rfl,I.bare,?_,⟨fun _=>none,?_,fun i x v e1 e2 e3=>?_⟩,fun x c h=>?_,upF _ (Nat.lt_succ_self _),fun x c h=>?_,fun p hp=>?_,?_,hl⟩
 ·exact wz _ _ _ (fun a b d ha hb=>I.ok.inj a b d (clm a d ha).1 (clm b d hb).1) (fun a d ha=>Nat.lt_of_lt_of_le (cl_lt a d ha) (Nat.le_add_right _ 2)) x y c (PySem.mem_of_lookup h1) (PySem.mem_of_lookup h2)
 ·have hm:∃ c,(x,c) ∈ cellsFrom (s.heap.objs.size + 2) scope.names (lT X.env scope.names []):=by
   rcases vH hx with h | h
   ·exact og _ _ _ x (.inl h)
   ·exact og _ _ _ x (.inr (nG _ _ x (.inl h)))
  obtain ⟨c,hm⟩:=hm
  exact eJ hm
 ·have hx':scope.names.lookup x=some .cell:=beq_iff_eq.mp hx
  rcases csm x c (PySem.mem_of_lookup h) with ⟨_,h2,_⟩ | ⟨h1,_⟩
  ·exact absurd (mem_of_lookupK hx') (B.free _ h2 rfl).2.1
  ·exact Nat.le_trans (Nat.le_add_right _ 2) h1
 ·exact Nat.ne_of_lt (Nat.lt_succ_of_lt (flt b hb))
 ·rcases csm x c (PySem.mem_of_lookup h) with ⟨h1,_,_⟩ | ⟨h1,_⟩
  ·exact (hf b hb).2.2.2.2.1 x c h1
  ·exact Nat.ne_of_gt (Nat.lt_of_lt_of_le (flt b hb) (Nat.le_trans (Nat.le_add_right _ 2) h1))
 ·rcases (hf b hb).2.2.2.1 with z | z
  ·exact I.ok.noex b o e z
  ·exact absurd (Nat.lt_of_lt_of_le (Heap.lt_size e) (Nat.le_trans I.ok.bsz z)) (Nat.lt_irrefl _)
 ·rcases List.mem_cons.mp (I.stkSub b z) with z | z
  ·exact (hf b hb).2.1 z
  ·exact (hf b hb).2.2.1 z
 ·exact Un.laid (fun b o e=>gf e) (Nat.le_refl _) hD
 ·have q:=Heap.Ns.new (s.heap.push jU) (.type "dict")
  rw [hz1] at q
  exact q.keeps fun b o e=>pushCells_keeps _ _ b o e
 ·rcases cap i x v e1 e2 with ⟨hx,j,hj,hv⟩ | hn
  ·obtain ⟨m,hm,hlk⟩:=I.loc
   have hk:=(B.free _ hx rfl).1
   have vis:HJ X.env.scope x:=by
    rcases hk with hk | hk
    ·exact .inr (.inl hk)
    ·exact .inr (.inr hk)
   obtain ⟨u,r,l⟩:=hlk j x v hj hv vis
   refine ⟨u,r,.inr ?_⟩
   rcases l with ⟨z,_⟩ | ⟨_,c,hc,hcell⟩
   ·rcases hk with hk | hk <;> (rw [show X.env.kindOf x=X.env.scope.names.lookup x from rfl] at hk z; rw [hk] at z; cases z)
   ·obtain ⟨c',hc'⟩:=eJ (Classical.choose_spec (og scope.names (s.heap.objs.size + 2) (lT X.env scope.names []) x (.inr (nG _ _ x (.inl hx)))))
    have ec:c'=c:=by
     rcases csm x c' (PySem.mem_of_lookup hc') with ⟨h1,_,_⟩ | ⟨_,h2⟩
     ·rw [hc] at h1; exact (Option.some.inj h1).symm
     ·exact absurd h2 (B.free _ hx rfl).2.1
    subst ec
    refine ⟨?_,c',hc',hcell.keeps fun b o e=>gf e⟩
    rcases e3 with e3 | e3 | e3
    ·rcases fY (env:=X.env) (B.free _ hx rfl).2.2 with q | q
     ·exact .inl q
     ·exact .inr q
    ·exact .inl e3
    ·exact .inr e3
  ·exact absurd e3 hn
 ·rcases rl scope.names ((s.heap.push jU).push uz) (lT X.env scope.names []) x c (by rw [hz2]; exact PySem.mem_of_lookup h) with m | m
  ·obtain ⟨v,q⟩:=I.cell x c (clm x c m).1
   exact ⟨v,q.keeps fun b o e=>gf e⟩
  ·exact ⟨none,m⟩
 ·rcases csm x c (PySem.mem_of_lookup h) with ⟨h1,_,h3⟩ | ⟨h1,_⟩
  ·rw [up c h3]; exact I.freeC x c h1
  ·exact upF c (Nat.lt_of_lt_of_le (Nat.lt_add_of_pos_right (by decide)) h1)
 ·have hp':p ∈ X.pn ++ pins:=by simpa [rh] using hp
  obtain ⟨e,n,ne,nf,d⟩:=I.pin p hp'
  have lt:@LT.lt Nat _ p.1 s.heap.objs.size:=Heap.lt_size e
  refine ⟨gf e,by rw [up _ lt]; exact n,Nat.ne_of_lt (Nat.lt_succ_of_lt lt),fun z=>?_,d⟩
  rcases List.mem_cons.mp (I.stkSub _ z) with z | z
  ·exact ne z
  ·exact nf z
 ·exact I.hok.laid (fun b o e=>gf e) (Nat.le_refl _) ⟨Nat.zero_le _,[],0,.nil,FY s.heap⟩
end
open PySem PySem.Spec PyProof.Rows L2
abbrev zy (ifs:List Expr) (env:Env):Sem Bool:=forIn ifs true fun c r=>if r=true then do let ok <- isTrue c env (eval c env); pure (ForInStep.yield ok) else pure (ForInStep.yield r)
theorem qE {prog:Program} {w:World} {A:Around} {R:Result -> Shared -> Prop} {s:Shared} {elt target iter:Expr} {ifs:List Expr} {scope:Scope} {pos:Pos} {it acc:Value} {env:Env} (I:Nat -> Shared -> Prop)
  (turn:∀ n s,I n s -> wpAny (model prog w) A (pyNext it) (fun r s₁=>match r with
   | none=>R (.ok .next) s₁
   | some v=>wpAny (model prog w) A (letOwnedTupleGo target it v) (fun _ s₂=>wpAny (model prog w) A (assign target env v) (fun _ s₃=>wpAny (model prog w) A (zy ifs env) (fun ok s₄ =>
     if ok=true then wpAny (model prog w) A (eval elt env) (fun x s₅=>wpAny (model prog w) A (call (.builtin "list.append") [acc,x]) (fun _ s₆=>∃ m,m < n /\ I m s₆) (fun _ _=>False) s₅) (fun _ _=>False) s₄
     else ∃ m,m < n /\ I m s₄) (fun _ _=>False) s₃) (fun _ _=>False) s₂) (fun _ _=>False) s₁) (fun _ _=>False) s)
  (n:Nat) (h:I n s):codeAny (model prog w) A (.compLoop (.ListComp elt [⟨target,iter,ifs,0⟩] scope pos) 0 it acc env) R s:=by
 have no:∀ {α:Type} {m:Sem α} {Q:α -> Shared -> Prop} {E:Value -> Shared -> Prop} {s:Shared},wpAny (model prog w) A m Q (fun _ _=>False) s -> wpAny (model prog w) A m Q E s:=fun h=>wpAny_mono h (fun _ _ q=>q) fun _ _ z=>z.elim
 refine codeAny_loop rfl I (fun n s hI=>?_) n h
 refine (wpAny_noted ?_:wpAny _ A ((compTurn (.ListComp elt [⟨target,iter,ifs,0⟩] scope pos) 0 it acc env).onRaise (fun x=>do noteFrame x env; theTreesLotGoes x)) _ _ s)
 rw [compTurn_list]
 refine wpAny_bind (wpAny_standAt (wpAny_bind (wpAny_mono (no (turn n s hI)) (fun r s₁ h₁=>?_) fun _ _ z=>z)))
 cases r with
 | none=>exact wpAny_pure h₁
 | some v =>
  refine wpAny_bind (wpAny_mono (no h₁) (fun _ s₂ h₂=>wpAny_bind (wpAny_mono (no h₂) (fun _ s₃ h₃=>wpAny_bind (wpAny_mono (no h₃) (fun ok s₄ h₄=>?_) fun _ _ z=>z)) fun _ _ z=>z)) fun _ _ z=>z)
  cases ok with
  | false=>exact wpAny_pure ⟨rfl,h₄⟩
  | true=>exact wpAny_bind (wpAny_bind (wpAny_mono (no h₄) (fun x s₅ h₅=>wpAny_bind (wpAny_mono (no h₅) (fun _ s₆ h₆=>wpAny_pure (wpAny_pure ⟨rfl,h₆⟩)) fun _ _ z=>z)) fun _ _ z=>z))
def cg:aH -> Bool
 | []=>true
 | some (.own _) :: _=>false
 | _ :: r=>cg r
theorem dv:∀ {τ:aH} {i:Nat} {ts:List T},cg τ=true -> τ[i]? ≠ some (some (.own ts))
 | [],i,ts,_=>by simp
 | some (.own _) :: _,i,ts,h=>by cases h
 | some (.sh t) :: r,0,ts,h=>by simp
 | none :: r,0,ts,h=>by simp
 | some (.sh t) :: r,i + 1,ts,h=>by rw [List.getElem?_cons_succ]; exact dv (τ:=r) h
 | none :: r,i + 1,ts,h=>by rw [List.getElem?_cons_succ]; exact dv (τ:=r) h
def fm (fg:FG) (ft:FT) (fe:FE):List T -> aH -> List T -> Option (List T)
 | [],_,acc=>some acc
 | t :: ts,τ,acc=>(fg t τ).bind fun τ1=>(ft τ1).bind fun p=>if p.1=true then (fe p.2).bind fun q=>if cg q.2=true /\ acc.length < sizeLine then fm fg ft fe ts q.2 (acc ++ [q.1]) else none
  else if cg p.2=true then fm fg ft fe ts p.2 acc else none
def frz1 (j:Nat) (τ:aH):aH:=match τ[j]? with
 | some (some (.own ts))=>τ.set j (some (.sh (.lst ts)))
 | _=>τ
def frzAll:List Nat -> aH -> aH
 | [],τ=>τ
 | j :: r,τ=>frzAll r (frz1 j τ)
def uv {α:Type} (l:List (Option α)) (j:Nat):Option α:=match l[j]? with
 | some x=>x
 | none=>none
def cE {α:Type} (no:Nat) (cap:List Nat) (l:List (Option α)):List (Option α):=List.replicate no none ++ cap.map (uv l)
def bR (no:Nat) (cap:List Nat) (fi:FA) (fg:FG) (ft:FT) (fe:FE):FE:=fun τ=>(fi τ).bind fun p =>
 if cg (cE no cap (frzAll cap p.2))=true then (fm fg ft fe p.1 (cE no cap (frzAll cap p.2)) []).bind fun us=>some (.lst us,frzAll cap p.2) else none
def av:FT:=fun τ=>some (true,τ)
def Cq (X:Cx) (ifs:List Expr) (ft:FT):Prop:=∀ F₀ H₀ pins s σ H Q,Inv X pins σ H s -> tT X.K F₀ H₀ ft σ H Q -> wpAny (model X.prog X.w) X.A (zy ifs X.env) (TP X pins σ Q) X.xe s
theorem bC {X:Cx}:Cq X [] av:=fun F₀ H₀ pins s σ H Q I hq__=>by
 obtain ⟨F,τ,b,τ',E,e,q⟩:=hq__
 cases e
 exact wpAny_tests_nil ⟨H,I,q F H E (aO.refl _)⟩
theorem Eg {X:Cx} {c:Expr} {ft:FT} (h:ST X c ft):Cq X [c] ft:=fun F₀ H₀ pins s σ H Q I q=>wpAny_tests_one (h F₀ H₀ pins s σ H Q I q)
section
variable {K:PySem.W.Frag} {F₀ H₀ F H:Hp} {σ:L2.St} {τ:aH}
theorem aB.frz1 (E:aB K F₀ H₀ F H σ τ) (j:Nat):∃ F',aB K F₀ H₀ F' H σ (TM.frz1 j τ) /\ aO F F':=by
 unfold TM.frz1
 split
 ·next ts e =>
  obtain ⟨F',v,_,E',s',_⟩:=E.freeze e
  exact ⟨F',E',s'⟩
 ·exact ⟨F,E,aO.refl _⟩
theorem aB.frzAll:∀ (cap:List Nat) {F:Hp} {τ:aH},aB K F₀ H₀ F H σ τ -> ∃ F',aB K F₀ H₀ F' H σ (TM.frzAll cap τ) /\ aO F F'
 | [],F,τ,E=>⟨F,E,aO.refl _⟩
 | j :: r,F,τ,E=>by
  obtain ⟨F1,E1,s1⟩:=E.frz1 j
  obtain ⟨F2,E2,s2⟩:=aB.frzAll r E1
  exact ⟨F2,E2,s1.trans s2⟩
theorem aB.rebase {H':Hp} (E:aB K F₀ H₀ F H σ τ) (ha:cg τ=true) (s:aO F H'):aB K F H' F H' σ τ:=by
 refine ⟨bj.refl s,E.len,fun i sl e=>?_,fun i j ts us p _ e1=>absurd e1 (dv ha)⟩
 obtain ⟨v,h1,h2⟩:=E.sl i sl e
 cases sl with
 | sh t=>exact ⟨v,h1,h2⟩
 | own ts=>exact absurd e (dv ha)
theorem lS {α:Type} {no:Nat} {cap:List Nat} {l:List (Option α)} {i:Nat} {x:α} (h:(cE no cap l)[i]? = some (some x)):∃ k j:Nat,i=no + k /\ cap[k]? = some j /\ l[j]? = some (some x):=by
 unfold cE at h
 by_cases hi:i < no
 ·rw [List.getElem?_append_left (by simpa using hi),List.getElem?_replicate] at h
  split at h <;> cases h
 ·rw [List.getElem?_append_right (by simpa using hi),List.length_replicate,List.getElem?_map] at h
  cases e:cap[i - no]? with
  | none=>rw [e] at h; cases h
  | some j =>
   rw [e] at h
   have h':uv l j=some x:=Option.some.inj h
   unfold uv at h'
   split at h'
   ·next y ey=>exact ⟨i - no,j,by omega,e,by rw [ey,h']⟩
   ·cases h'
theorem zL {α:Type} {no:Nat} {cap:List Nat} {l:List (Option α)} {k j:Nat} {x:α} (h1:cap[k]? = some j) (h2:l[j]? = some (some x)):(cE no cap l)[no + k]? = some (some x):=by
 unfold cE
 rw [List.getElem?_append_right (by simp),List.length_replicate,Nat.add_sub_cancel_left,List.getElem?_map,h1]
 show some (uv l j)=_
 unfold uv
 rw [h2]
theorem aB.block {H':Hp} {no:Nat} {cap:List Nat} (E:aB K F₀ H₀ F H σ τ) (ha:cg (cE no cap τ)=true) (s:aO F H'):aB K F H' F H' (cE no cap σ) (cE no cap τ):=by
 refine ⟨bj.refl s,by simp [cE],fun i sl e=>?_,fun i j ts us p _ e1=>absurd e1 (dv ha)⟩
 obtain ⟨k,j,rfl,hk,hj⟩:=lS e
 obtain ⟨v,h1,h2⟩:=E.sl j sl hj
 refine ⟨v,zL hk h1,?_⟩
 cases sl with
 | sh t=>exact h2
 | own ts=>exact absurd e (dv ha)
end
section
variable {X:Cx}
structure CompEnd (X:Cx) (pins:List (Addr × Obj)) (σ:L2.St) (F₀ H₀ F:Hp) (τ:aH) (rs:List T) (D C:Addr) (s:Shared):Prop where
 ex:∃ (H F3:Hp) (vs:List V),Inv X pins σ H s /\ aB X.K F₀ H₀ F3 H σ τ /\ aO F F3 /\ F3 D=none /\ H D=some (.lst vs) /\ H₀ D=none /\ aU X.K F3 rs vs /\ H C=none
 ns:∃ m,s.heap.Ns C m
 cl:C ≠ X.env.locals
 c0:X.s₀.heap.objs.size ≤ C
 cc:∀ x c,X.env.cells.lookup x=some c -> c ≠ C
 cp:∀ p ∈ X.pn ++ pins,p.1 ≠ C
 ow:∀ (j:Nat) us p,τ[j]? = some (some (.own us)) -> σ[j]? = some (some (.ref p)) -> p ≠ D
theorem qD {elt tg iter:Expr} {ifs:List Expr} {scope:Scope} {pos:Pos} {N':List Str} {no:Nat} {cap:List Nat} {fi:FA} {fg:FG} {ft:FT} {fe:FE} (hx:X.xe=fun _ _=>False) (hc:X.calm=true) (B:gm X scope) (hN:N'.length=no + cap.length)
  (hcap:∀ (k j:Nat),cap[k]? = some j -> ∃ x,N'[no + k]? = some x /\ X.N[j]? = some x /\ (x,NameKind.free) ∈ scope.names) (hi:SI X tg iter fi)
  (hg:∀ C cs s₀ H₀ fp pins,SG (rh X scope N' C cs s₀ H₀ fp pins) tg fg) (ht:∀ C cs s₀ H₀ fp pins,Cq (rh X scope N' C cs s₀ H₀ fp pins) ifs ft) (he:∀ C cs s₀ H₀ fp pins,SE (rh X scope N' C cs s₀ H₀ fp pins) elt fe)
  {F₀ H₀ F H:Hp} {pins:List (Addr × Obj)} {s:Shared} {σ:L2.St} {τ τ1:aH} {ts rs:List T} (I:Inv X pins σ H s) (E:aB X.K F₀ H₀ F H σ τ) (e2:fi τ=some (ts,τ1)) (ha:cg (cE no cap (frzAll cap τ1))=true) (e3:fm fg ft fe ts (cE no cap (frzAll cap τ1)) []=some rs)
  {post:Value -> Addr -> Result -> Shared -> Prop} (hpost:∀ D C s',CompEnd X pins σ F₀ H₀ F (frzAll cap τ1) rs D C s' -> post (.ref D) C (.ok .next) s') :
  wpAny (model X.prog X.w) X.A (eval iter X.env) (fun x s₁=>wpAny (model X.prog X.w) X.A (pyIter x) (fun it s₂=>wpAny (model X.prog X.w) X.A (newList []) (fun acc s₃ =>
   wpAny (model X.prog X.w) X.A (newFunctionEnv scope X.env.globals (lT X.env scope.names []) [] X.env.qual none .none (some X.env)) (fun cenv s₄ =>
    codeAny (model X.prog X.w) X.A (.compStart (.ListComp elt [⟨tg,iter,ifs,0⟩] scope pos) 0 it acc { cenv with scope:=relabel scope X.env }) (post acc cenv.locals) s₄) X.xe s₃) X.xe s₂) X.xe s₁) X.xe s:=by
 refine cM (hi F₀ H₀ pins s σ H (fun J H1=>∃ F1,aB X.K F₀ H₀ F1 H1 σ τ1 /\ aO F F1 /\ Walks X.K F1 ts J) I ⟨F,τ,ts,τ1,E,e2,fun F1 H1 J E1 s1 W=>⟨F1,E1,s1,W⟩⟩) fun v s1 h1=>cM h1 fun itv s2 h2=>?_
 obtain ⟨it,fp,tn,J,H1,rfl,I2,Tn,st2,f2,F1,E1,sF1,W⟩:=h2
 obtain ⟨F2,E2,sF2⟩:=E1.frzAll cap
 have W2:Walks X.K F2 ts J:=⟨fun i t F3 H3 e a b=>W.go i t F3 H3 e (sF2.trans a) b,fun i t F3 H3 x H4 e a b y=>W.yld i t F3 H3 x H4 e (sF2.trans a) b y,fun F3 H3 a b=>W.stop F3 H3 (sF2.trans a) b⟩
 refine wpAny_newObj_type ?_
 have hz:(s2.heap.push jU).objs.size=s2.heap.objs.size + 1:=Heap.size_push ..
 have hz2:((s2.heap.push jU).push uz).objs.size=s2.heap.objs.size + 2:=by rw [Heap.size_push,hz]
 simp only [newFunctionEnv,Option.isSome_some,if_true]
 refine wpAny_bind (wpAny_alloc ?_)
 refine wpAny_bind (wpAny_layCells _ (fun name kind cells=>by cases hkc:kind == NameKind.cell <;> simp [hkc]) _ _ _ _ ?_)
 simp only [List.forIn_nil]
 refine wpAny_bind (wpAny_pure (wpAny_pure ?_))
 have loop:codeAny (model X.prog X.w) X.A (.compLoop (.ListComp elt [⟨tg,iter,ifs,0⟩] scope pos) 0 (.ref it) (.ref s2.heap.objs.size) (gX X scope (s2.heap.objs.size + 1) (cellsFrom (s2.heap.objs.size + 2) scope.names (lT X.env scope.names []))))
   (post (.ref s2.heap.objs.size) (s2.heap.objs.size + 1)) { s2 with heap:=h0 s2.heap scope }:=by
  have Ib:=qz (N':=N') (σ':=cE no cap σ) (tk:=s2.toks) I2 B f2 (fun b hb=>by obtain ⟨o,e,_⟩:=Tn.obj 0 _ st2 b hb; exact ⟨o,e⟩) (by simp [cE,hN]) (fun i x v a1 a2=>by
   obtain ⟨k,j,rfl,hk,hj⟩:=lS a2
   obtain ⟨x',b1,b2,b3⟩:=hcap k j hk
   rw [a1] at b1; cases b1
   exact .inl ⟨b3,j,b2,hj⟩)
  generalize hX':rh X scope N' (s2.heap.objs.size + 1) (cellsFrom (s2.heap.objs.size + 2) scope.names (lT X.env scope.names [])) s2 H1 fp pins=X' at Ib
  have hg':SG X' tg fg:=by rw [<- hX']; exact hg _ _ _ _ _ _
  have ht':Cq X' ifs ft:=by rw [<- hX']; exact ht _ _ _ _ _ _
  have he':SE X' elt fe:=by rw [<- hX']; exact he _ _ _ _ _ _
  have xP:X'.prog=X.prog:=by rw [<- hX']; rfl
  have xw:X'.w=X.w:=by rw [<- hX']; rfl
  have xK:X'.K=X.K:=by rw [<- hX']; rfl
  have xA:X'.A=X.A:=by rw [<- hX']; rfl
  have xc:X'.calm=true:=by rw [<- hX']; exact hc
  have xx:X'.xe=fun _ _=>False:=by rw [<- hX']; rfl
  have xe':X'.env=gX X scope (s2.heap.objs.size + 1) (cellsFrom (s2.heap.objs.size + 2) scope.names (lT X.env scope.names [])):=by rw [<- hX']; rfl
  have xex:X'.ex=fp:=by rw [<- hX']; rfl
  have xfs:X'.fs=zQ X.stack:=by rw [<- hX']; rfl
  have xpn:X'.pn=X.pn ++ pins:=by rw [<- hX']; rfl
  have xs0:X'.s₀=s2:=by rw [<- hX']; rfl
  have xH0:X'.H₀=H1:=by rw [<- hX']; rfl
  have xl:X'.env.locals=s2.heap.objs.size + 1:=by rw [<- hX']; rfl
  rw [<- xe',<- xP,<- xw,<- xA]
  have hD1:H1 s2.heap.objs.size=none:=I2.fresh
  have fpk:∀ {Hc:Hp} {σc:L2.St} {pc:List (Addr × Obj)} {sc:Shared},Inv X' pc σc Hc sc -> (∀ b ∈ fp,Hc b=none) -> ∀ b ∈ fp,pX X' [] Hc b:=fun {Hc σc pc sc} Ic hn b hb=>by
   have q1:=Ic.ok.exf b (by rw [xex]; exact hb)
   have q2:=Ic.ok.exfs b (by rw [xex]; exact hb)
   refine ⟨hn b hb,q1.1,q2,.inl (by rw [xex]; exact hb),q1.2,fun p hp=>?_⟩
   rw [xpn,List.append_nil] at hp
   exact (f2 b hb).2.2.2.2.2 p hp
  refine qE (fun n s3=>∃ i σ3 H3 F3 τ3 us vs,Inv X' [] σ3 H3 s3 /\ tn i s3.heap /\ (∀ b ∈ fp,H3 b=none) /\ aB X.K F3 H3 F3 H3 σ3 τ3 /\ cg τ3=true /\ F3 s2.heap.objs.size=none /\ H3 s2.heap.objs.size=some (.lst vs) /\ aU X.K F3 us vs /\ aO F2 F3 /\ aO H1 H3 /\
   (∀ a o,F3 a=some o -> F2 a=some o \/ H1 a=none) /\ i ≤ ts.length /\ n=ts.length - i /\ fm fg ft fe (ts.drop i) τ3 us=some rs) ?_ ts.length ?_
  ·rintro n s3 ⟨i,σ3,H3,F3,τ3,us,vs,I3,st3,fr3,E3,ha3,fD,hD,rv,sF,sH,nw,hi',rfl,ec⟩
   by_cases hlt:i < ts.length
   ·have hgi:ts[i]? = some ts[i]:=List.getElem?_eq_getElem hlt
    rw [List.drop_eq_getElem_cons hlt] at ec
    obtain ⟨τ4,e4,ec⟩:=bind_some ec
    obtain ⟨⟨b,τ5⟩,e5,ec⟩:=bind_some ec
    have go:=W2.go i _ F3 H3 hgi sF E3.g.fh
    have itm:=(xP ▸ xw ▸ xK ▸ Tn:Turn X'.prog X'.w X'.K tg J fp it tn).item X' rfl rfl rfl xc i [] s3 σ3 H3 (fun _ _=>False) I3 (fpk I3 fr3) st3 go
    refine cM itm fun r s4 ⟨u,hr,h4⟩=>?_
    subst hr
    refine cM h4 fun _ s5 ⟨x,H5,I5,r5,y5,st5,fr5⟩=>?_
    have I5':=I5.pinned (fpk I5 fr5) (Tn.obj _ _ st5)
    obtain ⟨F5,gr,rx⟩:=W2.yld i _ F3 H3 x H5 hgi sF E3.g.fh y5
    have a1:=hg' F3 H3 _ s5 σ3 H5 x u (fun σ6 H6=>∃ F6,aB X.K F3 H3 F6 H6 σ6 τ4 /\ aO F5 F6) I5' r5 (by rw [xK]; exact ⟨F5,τ3,ts[i],τ4,E3.grow gr,rx,e4,fun F6 H6 σ6 E6 s6=>⟨F6,E6,s6⟩⟩)
    rw [xx] at a1
    refine cM a1 fun _ s6 ⟨σ6,H6,I6,F6,E6,sF6⟩=>?_
    have a2:=ht' F3 H3 _ s6 σ6 H6 (fun b' H7=>b'=b /\ ∃ F7,aB X.K F3 H3 F7 H7 σ6 τ5 /\ aO F6 F7) I6 (by rw [xK]; exact ⟨F6,τ4,b,τ5,E6,e5,fun F7 H7 E7 s7=>⟨rfl,F7,E7,s7⟩⟩)
    rw [xx] at a2
    refine cM a2 fun ok s7 ⟨H7,I7,hok,F7,E7,sF7⟩=>?_
    subst hok
    have tail:∀ {σc:L2.St} {Hc:Hp} {sc:Shared},Inv X' ([] ++ mf fp s5.heap) σc Hc sc -> tn (i + 1) sc.heap /\ ∀ b ∈ fp,Hc b=none:=fun {σc Hc sc} Ic=>by
     refine ⟨Tn.keep _ _ _ st5 fun b hb o e=>(Ic.pin (b,o) (List.mem_append_right _ (List.mem_append_right _ (fA hb e)))).1,fun b hb=>?_⟩
     obtain ⟨o,e,d⟩:=Tn.obj _ _ st5 b hb
     exact (Ic.pin (b,o) (List.mem_append_right _ (List.mem_append_right _ (fA hb e)))).2.1
    have keepD:∀ {Fc Hc:Hp} {σc:L2.St} {τc:aH},aB X.K F3 H3 Fc Hc σc τc -> Fc s2.heap.objs.size=none:=fun {Fc Hc σc τc} Ec=>by
     cases eF:Fc s2.heap.objs.size with
     | none=>rfl
     | some o =>
      rcases Ec.g.nw _ o eF with z | z
      ·rw [fD] at z; cases z
      ·rw [hD] at z; cases z
    have newF:∀ {Fc Hc:Hp} {σc:L2.St} {τc:aH},aB X.K F3 H3 Fc Hc σc τc -> ∀ a o,Fc a=some o -> F2 a=some o \/ H1 a=none:=fun {Fc Hc σc τc} Ec a o eF=>by
     rcases Ec.g.nw a o eF with z | z
     ·exact nw a o z
     ·exact .inr (sH.free z)
    cases b':ok with
    | false =>
     subst b'
     dsimp only at ec
     rw [if_neg (by decide)] at ec
     split at ec
     ·next ha =>
      rw [if_neg (by decide)]
      obtain ⟨t1,t2⟩:=tail I7
      exact ⟨ts.length - (i + 1),by omega,i + 1,σ6,H7,F7,τ5,us,vs,I7.unpinned,t1,t2,E7.rebase ha E7.g.fh,ha,keepD E7,E7.g.sH _ _ hD,aU.mono E7.g.sF rv,sF.trans E7.g.sF,sH.trans E7.g.sH,newF E7,hlt,rfl,ec⟩
     ·cases ec
    | true =>
     subst b'
     dsimp only at ec
     rw [if_pos rfl] at ec
     rw [if_pos rfl]
     obtain ⟨⟨y0,τ6⟩,e6,ec⟩:=bind_some ec
     dsimp only at ec
     split at ec
     ·next ha =>
      have a3:=he' F3 H3 _ s7 σ6 H7 (fun y H8=>∃ F8,aB X.K F3 H3 F8 H8 σ6 τ6 /\ Rep X.K F8 y0 y) I7 (by rw [xK]; exact ⟨F7,τ5,y0,τ6,E7,e6,fun F8 H8 y E8 s8 r8=>⟨F8,E8,r8⟩⟩)
      rw [xx] at a3
      refine cM a3 fun yv s8 ⟨y,H8,I8,ry,F8,E8,rp⟩=>?_
      have dD:H8 s2.heap.objs.size=some (.lst vs):=E8.g.sH _ _ hD
      have a4:=jG (X:=X') _ s8 σ6 H8 (.ref s2.heap.objs.size) [y] (.ref s2.heap.objs.size) [yv] (fun _ H9=>H9=upd H8 s2.heap.objs.size (.lst (vs ++ [y]))) I8 rfl (.cons ry .nil) ⟨s2.heap.objs.size,vs,y,rfl,rfl,dD,by rw [rv.length]; exact ha.2,rfl⟩
      rw [xx] at a4
      refine cM a4 fun _ s9 ⟨_,H9,I9,_,e9⟩=>?_
      subst e9
      obtain ⟨t1,t2⟩:=tail I9
      have kD:=keepD E8
      have sm:aO F8 (upd H8 s2.heap.objs.size (.lst (vs ++ [y]))):=fun c o z=>by rw [aJ (fun w=>by subst w; rw [kD] at z; cases z)]; exact E8.g.fh _ _ z
      have sm1:aO H1 (upd H8 s2.heap.objs.size (.lst (vs ++ [y]))):=fun c o z=>by rw [aJ (fun w=>by subst w; rw [hD1] at z; cases z)]; exact E8.g.sH _ _ (sH _ _ z)
      exact ⟨ts.length - (i + 1),by omega,i + 1,σ6,_,F8,τ6,us ++ [y0],vs ++ [y],I9.unpinned,t1,t2,E8.rebase ha.1 sm,ha.1,kD,aR,(aU.mono E8.g.sF rv).append (.one rp),sF.trans E8.g.sF,sm1,newF E8,hlt,rfl,ec⟩
     ·cases ec
   ·have hie:i=ts.length:=by omega
    subst hie
    rw [List.drop_length] at ec
    cases ec
    have dn:=(xP ▸ xw ▸ xK ▸ Tn:Turn X'.prog X'.w X'.K tg J fp it tn).done X' rfl rfl rfl xc ts.length [] s3 σ3 H3 (fun _ _=>False) I3 (fpk I3 fr3) st3 (W2.stop F3 H3 sF E3.g.fh)
    refine cM dn fun r s4 ⟨hr,I4⟩=>?_
    subst hr
    obtain ⟨m4,hm4,_⟩:=I4.loc
    rw [xl] at hm4
    have un:=I4.base
    rw [xfs,xex,xH0,xs0] at un
    have ox:=I4.os
    rw [xs0] at ox
    have hok4:=I4.hok
    rw [xP,xw] at hok4
    have IX:Inv X pins σ H3 s4:=I2.call' ox un hok4 I4.bare fun b hb=>⟨(f2 b hb).2.2.2.1,(f2 b hb).2.1,(f2 b hb).2.2.2.2.1,(f2 b hb).2.2.2.2.2⟩
    have hC:H3 (s2.heap.objs.size + 1)=none:=by have:=I4.free; rw [xl] at this; exact this
    have lC:@LT.lt Nat _ X.env.locals s2.heap.objs.size:=I2.lt
    have gr:bj F2 H1 F3 H3:=⟨sF,sH,E3.g.fh,nw⟩
    refine hpost _ _ _ ⟨⟨H3,F3,vs,IX,E2.grow gr,(sF1.trans sF2).trans sF,fD,hD,E2.g.sH.free hD1,rv,hC⟩,⟨m4,hm4⟩,Nat.ne_of_gt (Nat.lt_succ_of_lt lC),Nat.le_trans I2.sz (Nat.le_succ _),
     fun x c hxc=>by obtain ⟨v,z⟩:=I2.cell x c hxc; exact Nat.ne_of_lt (Nat.lt_succ_of_lt z.lt),fun p hp=>Nat.ne_of_lt (Nat.lt_succ_of_lt (Heap.lt_size (I2.pin p hp).1)),fun j us p j1 j2=>?_⟩
    obtain ⟨v,k1,p',vs',rfl,k2,_⟩:=E2.sl j _ j1
    rw [j2] at k1; cases k1
    exact bK k2 hD1
  ·refine ⟨0,cE no cap σ,upd H1 s2.heap.objs.size (.lst []),F2,cE no cap (frzAll cap τ1),[],[],Ib,Tn.keep _ _ _ st2 fun b hb o e=>gf e,fun b hb=>?_,E2.block ha (E2.g.fh.trans (ck hD1)),ha,E2.g.fh.free hD1,aR,rfl,aO.refl _,ck hD1,fun a o z=>.inl z,Nat.zero_le _,rfl,e3⟩
   obtain ⟨o,e,_⟩:=Tn.obj 0 _ st2 b hb
   rw [aJ (Nat.ne_of_lt (Heap.lt_size e))]
   exact (f2 b hb).1
 have fin:∀ {C:Addr} {cs:List (Str × Addr)},C=s2.heap.objs.size + 1 -> cs=cellsFrom (s2.heap.objs.size + 2) scope.names (lT X.env scope.names []) ->
   codeAny (model X.prog X.w) X.A (.compStart (.ListComp elt [⟨tg,iter,ifs,0⟩] scope pos) 0 (.ref it) (.ref s2.heap.objs.size) (gX X scope C cs)) (post (.ref s2.heap.objs.size) C) { s2 with heap:=h0 s2.heap scope }:=fun {C cs} h1 h2=>by
  subst h1 h2
  exact codeAny_compStart_list loop (Tn.self _ 0 _ _ _ (Tn.keep _ _ _ st2 fun b hb o e=>gf e) loop)
 exact fin hz (by rw [<- hz2])
theorem bT {elt tg iter:Expr} {ifs:List Expr} {scope:Scope} {pos:Pos} {N':List Str} {no:Nat} {cap:List Nat} {fi:FA} {fg:FG} {ft:FT} {fe:FE} (hx:X.xe=fun _ _=>False) (hc:X.calm=true) (B:gm X scope) (hN:N'.length=no + cap.length)
  (hcap:∀ (k j:Nat),cap[k]? = some j -> ∃ x,N'[no + k]? = some x /\ X.N[j]? = some x /\ (x,NameKind.free) ∈ scope.names) (hi:SI X tg iter fi)
  (hg:∀ C cs s₀ H₀ fp pins,SG (rh X scope N' C cs s₀ H₀ fp pins) tg fg) (ht:∀ C cs s₀ H₀ fp pins,Cq (rh X scope N' C cs s₀ H₀ fp pins) ifs ft) (he:∀ C cs s₀ H₀ fp pins,SE (rh X scope N' C cs s₀ H₀ fp pins) elt fe)
  (hs:∀ x,foldedSetIterable iter X.env x=pure x:=by intro _; rfl):SE X (.ListComp elt [⟨tg,iter,ifs,0⟩] scope pos) (bR no cap fi fg ft fe):=by
 intro F₀ H₀ pins s σ H Q I ⟨F,τ,t,τ',E,e1,q⟩
 obtain ⟨⟨ts,τ1⟩,e2,e1⟩:=bind_some e1
 dsimp only at e1
 split at e1
 ·next ha =>
  obtain ⟨rs,e3,e1⟩:=bind_some e1
  cases e1
  have hfree:∀ y ∈ scope.names,y.2=.free -> ∃ c,X.env.cells.lookup y.1=some c:=fun y hy hk=>I.ok.has y.1 (B.free y hy hk).1
  rw [eval_ListComp]
  refine wpAny_comprehension_free (use:=none) rfl hs (ki hfree) B.kind B.names (qD hx hc B hN hcap hi hg ht he I E e2 ha e3 fun D C s' Z=>?_)
  obtain ⟨H3,F3,vs,IX,E3,sF,fD,hD,h0D,rv,hC⟩:=Z.ex
  obtain ⟨m,hm⟩:=Z.ns
  refine ⟨m,hm,fun h' sb=>⟨.ref D,H3,IX.turned (t':=s'.toks) (it:=C) (fun b o hb e=>(sb.2 b hb).trans e) hC Z.cl (.inr Z.c0) Z.cc Z.cp,rfl,?_⟩⟩
  have gr:bj F3 H3 (upd F3 D (.lst vs)) H3 \/ True:=.inr trivial
  have sU:aO F3 (upd F3 D (.lst vs)):=ck fD
  refine q (upd F3 D (.lst vs)) H3 (.ref D) ⟨⟨E3.g.sF.trans sU,E3.g.sH,fun c o z=>?_,fun c o z=>?_⟩,E3.len,fun j sl ej=>?_,E3.dj⟩ (sF.trans sU) ⟨D,vs,rfl,aR,aU.mono sU rv⟩
  ·by_cases w:c=D
   ·subst w; rw [aR] at z; cases z; exact hD
   ·rw [aJ w] at z; exact E3.g.fh _ _ z
  ·by_cases w:c=D
   ·subst w; exact .inr h0D
   ·rw [aJ w] at z; exact E3.g.nw _ _ z
  ·obtain ⟨v,k1,k2⟩:=E3.sl j sl ej
   refine ⟨v,k1,?_⟩
   cases sl with
   | sh t=>exact Rep.mono sU k2
   | own us =>
    obtain ⟨p,ws,rfl,g2,g3,g4,g5⟩:=k2
    exact ⟨p,ws,rfl,g2,by rw [aJ (Z.ow j us p ej k1)]; exact g3,g4,aU.mono sU g5⟩
 ·cases e1
theorem aB.putOwn {K:PySem.W.Frag} {F₀ H₀ F H:Hp} {σ:L2.St} {τ:aH} {i:Nat} {rs:List T} {vs:List V} {D:Addr} (E:aB K F₀ H₀ F H σ τ) (fD:F D=none) (hD:H D=some (.lst vs)) (h0:H₀ D=none) (r:aU K F rs vs)
  (ow:∀ (j:Nat) us p,τ[j]? = some (some (.own us)) -> σ[j]? = some (some (.ref p)) -> p ≠ D):aB K F₀ H₀ F H (σ.set i (some (.ref D))) (τ.set i (some (.own rs))):=by
 refine ⟨E.g,by simp [E.len],fun j s e=>?_,fun j k ts' us q hjk e1 e2 e3 e4=>?_⟩
 ·by_cases hj:i=j
  ·subst hj
   by_cases hl:i < τ.length
   ·rw [List.getElem?_set_self hl] at e
    cases e
    exact ⟨.ref D,List.getElem?_set_self (by rw [E.len]; exact hl),D,vs,rfl,hD,fD,h0,r⟩
   ·rw [List.getElem?_eq_none (by simp; omega)] at e; cases e
  ·rw [List.getElem?_set_ne hj] at e
   rw [List.getElem?_set_ne hj]
   exact E.sl j s e
 ·by_cases hj:i=j
  ·subst hj
   rw [List.getElem?_set_ne hjk] at e2 e4
   by_cases hl:i < τ.length
   ·rw [List.getElem?_set_self (by rw [E.len]; exact hl)] at e3
    cases e3
    exact ow k us _ e2 e4 rfl
   ·rw [List.getElem?_eq_none (by simp; omega)] at e1; cases e1
  ·rw [List.getElem?_set_ne hj] at e1 e3
   by_cases hk:i=k
   ·subst hk
    by_cases hl:i < τ.length
    ·rw [List.getElem?_set_self (by rw [E.len]; exact hl)] at e4
     cases e4
     exact ow j ts' _ e1 e3 rfl
    ·rw [List.getElem?_eq_none (by simp; omega)] at e2; cases e2
   ·rw [List.getElem?_set_ne hk] at e2 e4
    exact E.dj j k ts' us q hjk e1 e2 e3 e4
def ou (i no:Nat) (cap:List Nat) (fi:FA) (fg:FG) (ft:FT) (fe:FE):FS:=fun τ=>(fi τ).bind fun p =>
 if cg (cE no cap (frzAll cap p.2))=true then (fm fg ft fe p.1 (cE no cap (frzAll cap p.2)) []).bind fun us=>some (.nx ((frzAll cap p.2).set i (some (.own us)))) else none
theorem xO {i:Nat} {y:Str} {py spos:Pos} {elt tg iter:Expr} {ifs:List Expr} {scope:Scope} {pos:Pos} {N':List Str} {no:Nat} {cap:List Nat} {fi:FA} {fg:FG} {ft:FT} {fe:FE} (hNd:X.N.Nodup) (hiy:X.N[i]? = some y) (hy:X.env.scope.names.lookup y=some .local)
  (hx:X.xe=fun _ _=>False) (hc:X.calm=true) (B:gm X scope) (hN:N'.length=no + cap.length)
  (hcap:∀ (k j:Nat),cap[k]? = some j -> ∃ x,N'[no + k]? = some x /\ X.N[j]? = some x /\ (x,NameKind.free) ∈ scope.names) (hi:SI X tg iter fi)
  (hg:∀ C cs s₀ H₀ fp pins,SG (rh X scope N' C cs s₀ H₀ fp pins) tg fg) (ht:∀ C cs s₀ H₀ fp pins,Cq (rh X scope N' C cs s₀ H₀ fp pins) ifs ft) (he:∀ C cs s₀ H₀ fp pins,SE (rh X scope N' C cs s₀ H₀ fp pins) elt fe)
  (hsw:swapsWith (.ListComp elt [⟨tg,iter,ifs,0⟩] scope pos) (some (.Name y py)) spos.line X.env=pure true:=by rfl) (hs:∀ x,foldedSetIterable iter X.env x=pure x:=by intro _; rfl) :
  SS X (.Assign [.Name y py] (.ListComp elt [⟨tg,iter,ifs,0⟩] scope pos) spos) (ou i no cap fi fg ft fe):=by
 intro F₀ H₀ pins s σ H Dn I ⟨F,τ,r,E,e1,q⟩
 obtain ⟨⟨ts,τ1⟩,e2,e1⟩:=bind_some e1
 dsimp only at e1
 split at e1
 ·next ha =>
  obtain ⟨rs,e3,e1⟩:=bind_some e1
  cases e1
  have hfree:∀ y ∈ scope.names,y.2=.free -> ∃ c,X.env.cells.lookup y.1=some c:=fun y hy hk=>I.ok.has y.1 (B.free y hy hk).1
  rw [exec_Assign_Name_used _ _ _ _ hsw]
  refine wpAny_bind (wpAny_standAt (wpAny_bind (?_:wpAny _ X.A (do let _ <- comprehension (.ListComp elt [⟨tg,iter,ifs,0⟩] scope pos) scope X.env _ (newList []) false (eval iter X.env) (some (assign (.Name y py) X.env))) _ _ s)))
  refine wpAny_bind (cM (wpAny_comprehension_free (use:=some (assign (.Name y py) X.env)) (Q:=fun _ s'=>SP X pins Dn .next s') rfl hs (ki hfree) B.kind B.names (qD hx hc B hN hcap hi hg ht he I E e2 ha e3 fun D C s' Z=>?_)) fun _ s' hq=>wpAny_pure (wpAny_pure hq))
  obtain ⟨H3,F3,vs,IX,E3,sF,fD,hD,h0D,rv,hC⟩:=Z.ex
  obtain ⟨m,hm⟩:=Z.ns
  refine (wpAny_assign_Name (qR IX hNd hiy (.inl hy) (v:=.ref D) rfl (fun s'' I'' w=>?_) (.inr hy)):wpAny _ X.A (assign (.Name y py) X.env (.ref D)) _ _ _)
  obtain ⟨a,sb,hab⟩:=w
  have aC:C ≠ a:=fun z=>by
   subst z
   rcases hab with z | z
   ·exact Z.cl z
   ·exact Z.cc _ _ z rfl
  refine ⟨m,hm.sameBut sb aC,fun h' sb'=>⟨_,H3,I''.turned (t':=s''.toks) (it:=C) (fun b o hb e=>(sb'.2 b hb).trans e) hC Z.cl (.inr Z.c0) Z.cc Z.cp,?_⟩⟩
  exact q F3 H3 _ (E3.putOwn fD hD h0D rv Z.ow) sF
 ·cases e1
end
def uu (sc scope:Scope):Bool:=scope.kind == .function && scope.names.all fun y=>(y.2 != .local || scope.names.lookup y.1 == some .local) &&
 (y.2 != .free || ((sc.names.lookup y.1 == some .cell || sc.names.lookup y.1 == some .free) && scope.names.all (fun z=>!(z.1 == y.1 && z.2 == .cell)) && scope.names.lookup y.1 == some .free))
theorem aM {X:Cx} {scope:Scope} (h:uu X.env.scope scope=true):gm X scope:=by
 unfold uu at h
 simp only [Bool.and_eq_true,List.all_eq_true,Bool.or_eq_true,bne_iff_ne,beq_iff_eq,Bool.not_eq_true',Bool.and_eq_false_iff,ne_eq] at h
 refine ⟨h.1,fun y hy hk=>?_,fun y hy hk=>?_⟩
 ·rcases (h.2 y hy).1 with z | z
  ·exact absurd hk z
  ·exact z
 ·rcases (h.2 y hy).2 with z | ⟨⟨z1,z2⟩,z3⟩
  ·exact absurd hk z
  ·refine ⟨z1,fun m=>?_,z3⟩
   rcases z2 _ m with w | w
   ·simp at w
   ·simp at w
def oa (N N':List Str) (scope:Scope) (no:Nat):List Nat -> Bool
 | []=>true
 | j :: r=>(match N'[no]?,N[j]? with | some x,some y=>x == y && scope.names.any (fun z=>z.1 == x && z.2 == .free) | _,_=>false) && oa N N' scope (no + 1) r
theorem bP {N N':List Str} {scope:Scope}:∀ {no:Nat} {cap:List Nat},oa N N' scope no cap=true -> ∀ (k j:Nat),cap[k]? = some j -> ∃ x,N'[no + k]? = some x /\ N[j]? = some x /\ (x,NameKind.free) ∈ scope.names
 | no,[],_,k,j,e=>by simp at e
 | no,c :: r,h,k,j,e=>by
  simp only [oa,Bool.and_eq_true] at h
  cases k with
  | zero =>
   simp at e
   subst e
   have h1:=h.1
   split at h1
   ·next x y ex ey =>
    simp only [Bool.and_eq_true,beq_iff_eq,List.any_eq_true] at h1
    obtain ⟨rfl,z,hz,z1,z2⟩:=h1
    refine ⟨x,ex,ey,?_⟩
    obtain ⟨a,b⟩:=z
    dsimp only at z1 z2
    subst z1 z2
    exact hz
   ·cases h1
  | succ k =>
   obtain ⟨x,h1,h2,h3⟩:=bP h.2 k j (by simpa using e)
   exact ⟨x,by rw [show no + (k + 1)=no + 1 + k by omega]; exact h1,h2,h3⟩
open PySem PySem.Spec PyProof.Rows L2
inductive O where
 | val (t:T) | lst (os:List O)
mutual
def cv (K:PySem.W.Frag) (F H:Hp):O -> V -> List Addr -> Prop
 | .val t,v,A=>A=[] /\ Rep K F t v
 | .lst os,v,A=>∃ p vs B,v=.ref p /\ A=p :: B /\ H p=some (.lst vs) /\ F p=none /\ aP K F H os vs B
def aP (K:PySem.W.Frag) (F H:Hp):List O -> List V -> List Addr -> Prop
 | [],vs,A=>vs=[] /\ A=[]
 | o :: os,vs,A=>∃ v r B C,vs=v :: r /\ A=B ++ C /\ cv K F H o v B /\ aP K F H os r C
end
mutual
def O.tr:O -> T
 | .val t=>t
 | .lst os=>.lst (O.trs os)
def O.trs:List O -> List T
 | []=>[]
 | o :: os=>o.tr :: O.trs os
end
section
variable {K:PySem.W.Frag} {F H F' H':Hp}
mutual
theorem cv.move (sF:aO F F'):∀ {o:O} {v:V} {A:List Addr},(∀ a ∈ A,H' a=H a /\ F' a=none) -> cv K F H o v A -> cv K F' H' o v A
 | .val t,v,A,_,h=>⟨h.1,Rep.mono sF h.2⟩
 | .lst os,v,A,hA,h=>by
  obtain ⟨p,vs,B,rfl,rfl,h1,h2,h3⟩:=h
  have hp:=hA p List.mem_cons_self
  exact ⟨p,vs,B,rfl,rfl,hp.1.trans h1,hp.2,aP.move sF (fun a ha=>hA a (List.mem_cons_of_mem _ ha)) h3⟩
theorem aP.move (sF:aO F F'):∀ {os:List O} {vs:List V} {A:List Addr},(∀ a ∈ A,H' a=H a /\ F' a=none) -> aP K F H os vs A -> aP K F' H' os vs A
 | [],vs,A,_,h=>h
 | o :: os,vs,A,hA,h=>by
  obtain ⟨v,r,B,C,rfl,rfl,h1,h2⟩:=h
  exact ⟨v,r,B,C,rfl,rfl,cv.move sF (fun a ha=>hA a (List.mem_append_left _ ha)) h1,aP.move sF (fun a ha=>hA a (List.mem_append_right _ ha)) h2⟩
end
mutual
theorem cv.at:∀ {o:O} {v:V} {A:List Addr},cv K F H o v A -> ∀ a ∈ A,F a=none /\ ∃ vs,H a=some (.lst vs)
 | .val t,v,A,h,a,ha=>by rw [h.1] at ha; cases ha
 | .lst os,v,A,h,a,ha=>by
  obtain ⟨p,vs,B,rfl,rfl,h1,h2,h3⟩:=h
  rcases List.mem_cons.mp ha with rfl | ha
  ·exact ⟨h2,vs,h1⟩
  ·exact aP.at h3 a ha
theorem aP.at:∀ {os:List O} {vs:List V} {A:List Addr},aP K F H os vs A -> ∀ a ∈ A,F a=none /\ ∃ vs,H a=some (.lst vs)
 | [],vs,A,h,a,ha=>by rw [h.2] at ha; cases ha
 | o :: os,vs,A,h,a,ha=>by
  obtain ⟨v,r,B,C,rfl,rfl,h1,h2⟩:=h
  rcases List.mem_append.mp ha with ha | ha
  ·exact cv.at h1 a ha
  ·exact aP.at h2 a ha
end
mutual
theorem cv.rep (sF:aO F F'):∀ {o:O} {v:V} {A:List Addr},(∀ a ∈ A,F' a=H a) -> cv K F H o v A -> Rep K F' o.tr v
 | .val t,v,A,_,h=>Rep.mono sF h.2
 | .lst os,v,A,hA,h=>by
  obtain ⟨p,vs,B,rfl,rfl,h1,h2,h3⟩:=h
  exact ⟨p,vs,rfl,(hA p List.mem_cons_self).trans h1,aP.rep sF (fun a ha=>hA a (List.mem_cons_of_mem _ ha)) h3⟩
theorem aP.rep (sF:aO F F'):∀ {os:List O} {vs:List V} {A:List Addr},(∀ a ∈ A,F' a=H a) -> aP K F H os vs A -> aU K F' (O.trs os) vs
 | [],vs,A,_,h=>h.1
 | o :: os,vs,A,hA,h=>by
  obtain ⟨v,r,B,C,rfl,rfl,h1,h2⟩:=h
  exact ⟨v,r,rfl,cv.rep sF (fun a ha=>hA a (List.mem_append_left _ ha)) h1,aP.rep sF (fun a ha=>hA a (List.mem_append_right _ ha)) h2⟩
end
theorem aP.app:∀ {os us:List O} {vs ws:List V} {A B:List Addr},aP K F H os vs A -> aP K F H us ws B -> aP K F H (os ++ us) (vs ++ ws) (A ++ B)
 | [],_,_,_,_,_,h,h'=>by obtain ⟨rfl,rfl⟩:=h; exact h'
 | o :: os,_,_,_,_,_,h,h'=>by
  obtain ⟨v,r,B,C,rfl,rfl,h1,h2⟩:=h
  exact ⟨v,r ++ _,B,C ++ _,rfl,by rw [List.append_assoc],h1,aP.app h2 h'⟩
theorem aP.one {o:O} {v:V} {A:List Addr} (h:cv K F H o v A):aP K F H [o] [v] A:=⟨v,[],A,[],rfl,by simp,h,rfl,rfl⟩
theorem aP.length:∀ {os:List O} {vs:List V} {A:List Addr},aP K F H os vs A -> vs.length=os.length
 | [],_,_,h=>by rw [h.1]; rfl
 | o :: os,_,_,h=>by
  obtain ⟨v,r,B,C,rfl,rfl,h1,h2⟩:=h
  simp [aP.length h2]
theorem aP.split:∀ {os:List O} {vs:List V} {A:List Addr} {k:Nat} {o:O},aP K F H os vs A -> os[k]? = some o ->
  ∃ (ws:List V) (v:V) (xs:List V) (B C D:List Addr),vs=ws ++ v :: xs /\ ws.length=k /\ A=B ++ (C ++ D) /\ aP K F H (os.take k) ws B /\ cv K F H o v C /\ aP K F H (os.drop (k + 1)) xs D
 | [],_,_,k,o,h,e=>by simp at e
 | o :: os,_,_,0,o',h,e=>by
  obtain ⟨v,r,B,C,rfl,rfl,h1,h2⟩:=h
  simp at e; subst e
  exact ⟨[],v,r,[],B,C,rfl,rfl,rfl,⟨rfl,rfl⟩,h1,by simpa using h2⟩
 | o :: os,_,_,k + 1,o',h,e=>by
  obtain ⟨v,r,B,C,rfl,rfl,h1,h2⟩:=h
  obtain ⟨ws,w,xs,B',C',D',rfl,rfl,rfl,g1,g2,g3⟩:=aP.split (k:=k) h2 (by simpa using e)
  exact ⟨v :: ws,w,xs,B ++ B',C',D',rfl,rfl,by simp [List.append_assoc],⟨v,ws,B,B',rfl,rfl,h1,g1⟩,g2,by simpa using g3⟩
def frzO (F H:Hp) (A:List Addr):Hp:=fun a=>if a ∈ A then H a else F a
theorem cI {A:List Addr} {a:Addr} (h:a ∈ A):frzO F H A a=H a:=if_pos h
theorem bB {A:List Addr} {a:Addr} (h:a ∉ A):frzO F H A a=F a:=if_neg h
theorem cG {A:List Addr} (h:∀ a ∈ A,F a=none):aO F (frzO F H A):=fun a o e=>by
 rw [bB (fun m=>by rw [h a m] at e; cases e)]; exact e
theorem cv.frz {o:O} {v:V} {A:List Addr} (h:cv K F H o v A):Rep K (frzO F H A) o.tr v:=cv.rep (cG fun a ha=>(h.at a ha).1) (fun a ha=>cI ha) h
theorem bj.frzO {F₀ H₀:Hp} {A:List Addr} (g:bj F₀ H₀ F H) (h:∀ a ∈ A,F a=none) (h0:∀ a ∈ A,H₀ a=none):bj F₀ H₀ (frzO F H A) H:=by
 refine ⟨g.sF.trans (cG h),g.sH,fun a o e=>?_,fun a o e=>?_⟩
 ·by_cases m:a ∈ A
  ·rw [cI m] at e; exact e
  ·rw [bB m] at e; exact g.fh _ _ e
 ·by_cases m:a ∈ A
  ·exact .inr (h0 a m)
  ·rw [bB m] at e; exact g.nw _ _ e
end
section
variable {K:PySem.W.Frag} {F₀ H₀ F H F' H':Hp} {σ:L2.St} {τ:aH} {A:List Addr}
def Apart (σ:L2.St) (τ:aH) (A:List Addr):Prop:=∀ (j:Nat) us p,τ[j]? = some (some (.own us)) -> σ[j]? = some (some (.ref p)) -> p ∉ A
theorem aB.frzO (E:aB K F₀ H₀ F H σ τ) (h:∀ a ∈ A,F a=none) (h0:∀ a ∈ A,H₀ a=none) (ow:Apart σ τ A):aB K F₀ H₀ (TM.frzO F H A) H σ τ:=by
 refine ⟨E.g.frzO h h0,E.len,fun i s e=>?_,E.dj⟩
 obtain ⟨v,h1,h2⟩:=E.sl i s e
 refine ⟨v,h1,?_⟩
 cases s with
 | sh t=>exact Rep.mono (cG h) h2
 | own ts =>
  obtain ⟨p,vs,rfl,k2,k3,k4,k5⟩:=h2
  exact ⟨p,vs,rfl,k2,by rw [bB (ow i ts p e h1)]; exact k3,k4,aU.mono (cG h) k5⟩
theorem aB.hp (E:aB K F₀ H₀ F H σ τ) (s:aO H H'):aB K F₀ H₀ F H' σ τ:=by
 refine ⟨⟨E.g.sF,E.g.sH.trans s,E.g.fh.trans s,E.g.nw⟩,E.len,fun i sl e=>?_,E.dj⟩
 obtain ⟨v,h1,h2⟩:=E.sl i sl e
 refine ⟨v,h1,?_⟩
 cases sl with
 | sh t=>exact h2
 | own ts =>
  obtain ⟨p,vs,rfl,k2,k3,k4,k5⟩:=h2
  exact ⟨p,vs,rfl,s _ _ k2,k3,k4,k5⟩
end
abbrev lL:=aH -> Option (O × aH)
def Le (K:PySem.W.Frag) (F₀ H₀:Hp) (f:lL):TE:=fun σ H Q=>∃ F τ o τ',aB K F₀ H₀ F H σ τ /\ f τ=some (o,τ') /\
 ∀ F' H' v A,aB K F₀ H₀ F' H' σ τ' -> aO F F' -> cv K F' H' o v A -> A.Nodup -> (∀ a ∈ A,H₀ a=none) -> Apart σ τ' A -> Q v H'
def wk (X:Cx) (e:Expr) (f:lL):Prop:=∀ F₀ H₀,PE X e (Le X.K F₀ H₀ f)
section
variable {X:Cx} {e:Expr} {pos:Pos}
def Ls (f:lL):FE:=fun τ=>(f τ).bind fun p=>some (p.1.tr,p.2)
theorem wk.se {f:lL} (h:wk X e f):SE X e (Ls f):=fun F₀ H₀=>PE.weak (h F₀ H₀) fun σ H Q hq__=>by
 obtain ⟨F,τ,t,τ',E,e1,q⟩:=hq__
 obtain ⟨⟨o,τ1⟩,e2,e1⟩:=bind_some e1
 cases e1
 refine ⟨F,τ,o,τ1,E,e2,fun F' H' v A E' s' r nd h0 ow=>?_⟩
 have hF:∀ a ∈ A,F' a=none:=fun a ha=>(r.at a ha).1
 exact q _ H' v (E'.frzO hF h0 ow) (s'.trans (cG hF)) r.frz
def m9 (f:FE):lL:=fun τ=>(f τ).bind fun p=>some (.val p.1,p.2)
theorem SE.seo {f:FE} (h:SE X e f):wk X e (m9 f):=fun F₀ H₀=>PE.weak (h F₀ H₀) fun σ H Q hq__=>by
 obtain ⟨F,τ,t,τ',E,e1,q⟩:=hq__
 obtain ⟨⟨o,τ1⟩,e2,e1⟩:=bind_some e1
 cases e1
 exact ⟨F,τ,o,τ1,E,e2,fun F' H' v E' s' r=>q F' H' v [] E' s' ⟨rfl,r⟩ List.nodup_nil (fun a ha=>by cases ha) (fun j us p _ _ m=>by cases m)⟩
theorem aP.vals {K:PySem.W.Frag} {F H:Hp}:∀ {ts:List T} {vs:List V},aU K F ts vs -> aP K F H (ts.map O.val) vs []
 | [],_,h=>⟨h,rfl⟩
 | t :: ts,_,h=>by
  obtain ⟨v,r,rfl,h2,h3⟩:=h
  exact ⟨v,r,[],[],rfl,rfl,⟨rfl,h2⟩,aP.vals h3⟩
theorem cv.new {K:PySem.W.Frag} {F H:Hp} {p:Addr} {ts:List T} {vs:List V} (s:aO F H) (n:H p=none) (r:aU K F ts vs):cv K F (upd H p (.lst vs)) (.lst (ts.map O.val)) (.ref p) [p]:=
 ⟨p,vs,[],rfl,rfl,aR,s.free n,.vals r⟩
theorem apart_new {K:PySem.W.Frag} {F₀ H₀ F H:Hp} {σ:L2.St} {τ:aH} {p:Addr} (E:aB K F₀ H₀ F H σ τ) (n:H p=none):Apart σ τ [p]:=fun j us q e1 e2 m=>by
 rw [List.mem_singleton] at m
 subst m
 obtain ⟨v,k1,p',vs',rfl,k2,_⟩:=E.sl j _ e1
 rw [e2] at k1; cases k1
 rw [n] at k2; cases k2
end
open PySem PySem.Spec PyProof.Rows L2
def gZ (fg:FG) (ft:FT) (fe:lL):List T -> aH -> List O -> Option (List O)
 | [],_,acc=>some acc
 | t :: ts,τ,acc=>(fg t τ).bind fun τ1=>(ft τ1).bind fun p=>if p.1=true then (fe p.2).bind fun q=>if cg q.2=true /\ acc.length < sizeLine then gZ fg ft fe ts q.2 (acc ++ [q.1]) else none
  else if cg p.2=true then gZ fg ft fe ts p.2 acc else none
section
variable {X:Cx}
structure nW (X:Cx) (pins:List (Addr × Obj)) (σ:L2.St) (F₀ H₀ F:Hp) (τ:aH) (rs:List O) (D C:Addr) (s:Shared):Prop where
 ex:∃ (H F3:Hp) (vs:List V) (As:List Addr),Inv X pins σ H s /\ aB X.K F₀ H₀ F3 H σ τ /\ aO F F3 /\ F3 D=none /\ H D=some (.lst vs) /\ H₀ D=none /\ aP X.K F3 H rs vs As /\ As.Nodup /\ (∀ a ∈ As,H₀ a=none /\ a ≠ D) /\ Apart σ τ As /\ H C=none
 ns:∃ m,s.heap.Ns C m
 cl:C ≠ X.env.locals
 c0:X.s₀.heap.objs.size ≤ C
 cc:∀ x c,X.env.cells.lookup x=some c -> c ≠ C
 cp:∀ p ∈ X.pn ++ pins,p.1 ≠ C
 ow:∀ (j:Nat) us p,τ[j]? = some (some (.own us)) -> σ[j]? = some (some (.ref p)) -> p ≠ D
theorem wB {elt tg iter:Expr} {ifs:List Expr} {scope:Scope} {pos:Pos} {N':List Str} {no:Nat} {cap:List Nat} {fi:FA} {fg:FG} {ft:FT} {fe:lL} (hx:X.xe=fun _ _=>False) (hc:X.calm=true) (B:gm X scope) (hN:N'.length=no + cap.length)
  (hcap:∀ (k j:Nat),cap[k]? = some j -> ∃ x,N'[no + k]? = some x /\ X.N[j]? = some x /\ (x,NameKind.free) ∈ scope.names) (hi:SI X tg iter fi)
  (hg:∀ C cs s₀ H₀ fp pins,SG (rh X scope N' C cs s₀ H₀ fp pins) tg fg) (ht:∀ C cs s₀ H₀ fp pins,Cq (rh X scope N' C cs s₀ H₀ fp pins) ifs ft) (he:∀ C cs s₀ H₀ fp pins,wk (rh X scope N' C cs s₀ H₀ fp pins) elt fe)
  {F₀ H₀ F H:Hp} {pins:List (Addr × Obj)} {s:Shared} {σ:L2.St} {τ τ1:aH} {ts:List T} {rs:List O} (I:Inv X pins σ H s) (E:aB X.K F₀ H₀ F H σ τ) (e2:fi τ=some (ts,τ1)) (ha:cg (cE no cap (frzAll cap τ1))=true) (e3:gZ fg ft fe ts (cE no cap (frzAll cap τ1)) []=some rs)
  {post:Value -> Addr -> Result -> Shared -> Prop} (hpost:∀ D C s',nW X pins σ F₀ H₀ F (frzAll cap τ1) rs D C s' -> post (.ref D) C (.ok .next) s') :
  wpAny (model X.prog X.w) X.A (eval iter X.env) (fun x s₁=>wpAny (model X.prog X.w) X.A (pyIter x) (fun it s₂=>wpAny (model X.prog X.w) X.A (newList []) (fun acc s₃ =>
   wpAny (model X.prog X.w) X.A (newFunctionEnv scope X.env.globals (lT X.env scope.names []) [] X.env.qual none .none (some X.env)) (fun cenv s₄ =>
    codeAny (model X.prog X.w) X.A (.compStart (.ListComp elt [⟨tg,iter,ifs,0⟩] scope pos) 0 it acc { cenv with scope:=relabel scope X.env }) (post acc cenv.locals) s₄) X.xe s₃) X.xe s₂) X.xe s₁) X.xe s:=by
 refine cM (hi F₀ H₀ pins s σ H (fun J H1=>∃ F1,aB X.K F₀ H₀ F1 H1 σ τ1 /\ aO F F1 /\ Walks X.K F1 ts J) I ⟨F,τ,ts,τ1,E,e2,fun F1 H1 J E1 s1 W=>⟨F1,E1,s1,W⟩⟩) fun v s1 h1=>cM h1 fun itv s2 h2=>?_
 obtain ⟨it,fp,tn,J,H1,rfl,I2,Tn,st2,f2,F1,E1,sF1,W⟩:=h2
 obtain ⟨F2,E2,sF2⟩:=E1.frzAll cap
 have W2:Walks X.K F2 ts J:=⟨fun i t F3 H3 e a b=>W.go i t F3 H3 e (sF2.trans a) b,fun i t F3 H3 x H4 e a b y=>W.yld i t F3 H3 x H4 e (sF2.trans a) b y,fun F3 H3 a b=>W.stop F3 H3 (sF2.trans a) b⟩
 refine wpAny_newObj_type ?_
 have hz:(s2.heap.push jU).objs.size=s2.heap.objs.size + 1:=Heap.size_push ..
 have hz2:((s2.heap.push jU).push uz).objs.size=s2.heap.objs.size + 2:=by rw [Heap.size_push,hz]
 simp only [newFunctionEnv,Option.isSome_some,if_true]
 refine wpAny_bind (wpAny_alloc ?_)
 refine wpAny_bind (wpAny_layCells _ (fun name kind cells=>by cases hkc:kind == NameKind.cell <;> simp [hkc]) _ _ _ _ ?_)
 simp only [List.forIn_nil]
 refine wpAny_bind (wpAny_pure (wpAny_pure ?_))
 have loop:codeAny (model X.prog X.w) X.A (.compLoop (.ListComp elt [⟨tg,iter,ifs,0⟩] scope pos) 0 (.ref it) (.ref s2.heap.objs.size) (gX X scope (s2.heap.objs.size + 1) (cellsFrom (s2.heap.objs.size + 2) scope.names (lT X.env scope.names []))))
   (post (.ref s2.heap.objs.size) (s2.heap.objs.size + 1)) { s2 with heap:=h0 s2.heap scope }:=by
  have Ib:=qz (N':=N') (σ':=cE no cap σ) (tk:=s2.toks) I2 B f2 (fun b hb=>by obtain ⟨o,e,_⟩:=Tn.obj 0 _ st2 b hb; exact ⟨o,e⟩) (by simp [cE,hN]) (fun i x v a1 a2=>by
   obtain ⟨k,j,rfl,hk,hj⟩:=lS a2
   obtain ⟨x',b1,b2,b3⟩:=hcap k j hk
   rw [a1] at b1; cases b1
   exact .inl ⟨b3,j,b2,hj⟩)
  generalize hX':rh X scope N' (s2.heap.objs.size + 1) (cellsFrom (s2.heap.objs.size + 2) scope.names (lT X.env scope.names [])) s2 H1 fp pins=X' at Ib
  have hg':SG X' tg fg:=by rw [<- hX']; exact hg _ _ _ _ _ _
  have ht':Cq X' ifs ft:=by rw [<- hX']; exact ht _ _ _ _ _ _
  have he':wk X' elt fe:=by rw [<- hX']; exact he _ _ _ _ _ _
  have xP:X'.prog=X.prog:=by rw [<- hX']; rfl
  have xw:X'.w=X.w:=by rw [<- hX']; rfl
  have xK:X'.K=X.K:=by rw [<- hX']; rfl
  have xA:X'.A=X.A:=by rw [<- hX']; rfl
  have xc:X'.calm=true:=by rw [<- hX']; exact hc
  have xx:X'.xe=fun _ _=>False:=by rw [<- hX']; rfl
  have xe':X'.env=gX X scope (s2.heap.objs.size + 1) (cellsFrom (s2.heap.objs.size + 2) scope.names (lT X.env scope.names [])):=by rw [<- hX']; rfl
  have xex:X'.ex=fp:=by rw [<- hX']; rfl
  have xfs:X'.fs=zQ X.stack:=by rw [<- hX']; rfl
  have xpn:X'.pn=X.pn ++ pins:=by rw [<- hX']; rfl
  have xs0:X'.s₀=s2:=by rw [<- hX']; rfl
  have xH0:X'.H₀=H1:=by rw [<- hX']; rfl
  have xl:X'.env.locals=s2.heap.objs.size + 1:=by rw [<- hX']; rfl
  rw [<- xe',<- xP,<- xw,<- xA]
  have hD1:H1 s2.heap.objs.size=none:=I2.fresh
  have fpk:∀ {Hc:Hp} {σc:L2.St} {pc:List (Addr × Obj)} {sc:Shared},Inv X' pc σc Hc sc -> (∀ b ∈ fp,Hc b=none) -> ∀ b ∈ fp,pX X' [] Hc b:=fun {Hc σc pc sc} Ic hn b hb=>by
   have q1:=Ic.ok.exf b (by rw [xex]; exact hb)
   have q2:=Ic.ok.exfs b (by rw [xex]; exact hb)
   refine ⟨hn b hb,q1.1,q2,.inl (by rw [xex]; exact hb),q1.2,fun p hp=>?_⟩
   rw [xpn,List.append_nil] at hp
   exact (f2 b hb).2.2.2.2.2 p hp
  refine qE (fun n s3=>∃ i σ3 H3 F3 τ3 us vs As,Inv X' [] σ3 H3 s3 /\ tn i s3.heap /\ (∀ b ∈ fp,H3 b=none) /\ aB X.K F3 H3 F3 H3 σ3 τ3 /\ cg τ3=true /\ F3 s2.heap.objs.size=none /\ H3 s2.heap.objs.size=some (.lst vs) /\ (aP X.K F3 H3 us vs As /\ As.Nodup /\ ∀ a ∈ As,H1 a=none /\ a ≠ s2.heap.objs.size) /\ aO F2 F3 /\ aO H1 H3 /\
   (∀ a o,F3 a=some o -> F2 a=some o \/ H1 a=none) /\ i ≤ ts.length /\ n=ts.length - i /\ gZ fg ft fe (ts.drop i) τ3 us=some rs) ?_ ts.length ?_
  ·rintro n s3 ⟨i,σ3,H3,F3,τ3,us,vs,As,I3,st3,fr3,E3,ha3,fD,hD,⟨rv,nd,fr⟩,sF,sH,nw,hi',rfl,ec⟩
   by_cases hlt:i < ts.length
   ·have hgi:ts[i]? = some ts[i]:=List.getElem?_eq_getElem hlt
    rw [List.drop_eq_getElem_cons hlt] at ec
    obtain ⟨τ4,e4,ec⟩:=bind_some ec
    obtain ⟨⟨b,τ5⟩,e5,ec⟩:=bind_some ec
    have go:=W2.go i _ F3 H3 hgi sF E3.g.fh
    have itm:=(xP ▸ xw ▸ xK ▸ Tn:Turn X'.prog X'.w X'.K tg J fp it tn).item X' rfl rfl rfl xc i [] s3 σ3 H3 (fun _ _=>False) I3 (fpk I3 fr3) st3 go
    refine cM itm fun r s4 ⟨u,hr,h4⟩=>?_
    subst hr
    refine cM h4 fun _ s5 ⟨x,H5,I5,r5,y5,st5,fr5⟩=>?_
    have I5':=I5.pinned (fpk I5 fr5) (Tn.obj _ _ st5)
    obtain ⟨F5,gr,rx⟩:=W2.yld i _ F3 H3 x H5 hgi sF E3.g.fh y5
    have a1:=hg' F3 H3 _ s5 σ3 H5 x u (fun σ6 H6=>∃ F6,aB X.K F3 H3 F6 H6 σ6 τ4 /\ aO F5 F6) I5' r5 (by rw [xK]; exact ⟨F5,τ3,ts[i],τ4,E3.grow gr,rx,e4,fun F6 H6 σ6 E6 s6=>⟨F6,E6,s6⟩⟩)
    rw [xx] at a1
    refine cM a1 fun _ s6 ⟨σ6,H6,I6,F6,E6,sF6⟩=>?_
    have a2:=ht' F3 H3 _ s6 σ6 H6 (fun b' H7=>b'=b /\ ∃ F7,aB X.K F3 H3 F7 H7 σ6 τ5 /\ aO F6 F7) I6 (by rw [xK]; exact ⟨F6,τ4,b,τ5,E6,e5,fun F7 H7 E7 s7=>⟨rfl,F7,E7,s7⟩⟩)
    rw [xx] at a2
    refine cM a2 fun ok s7 ⟨H7,I7,hok,F7,E7,sF7⟩=>?_
    subst hok
    have tail:∀ {σc:L2.St} {Hc:Hp} {sc:Shared},Inv X' ([] ++ mf fp s5.heap) σc Hc sc -> tn (i + 1) sc.heap /\ ∀ b ∈ fp,Hc b=none:=fun {σc Hc sc} Ic=>by
     refine ⟨Tn.keep _ _ _ st5 fun b hb o e=>(Ic.pin (b,o) (List.mem_append_right _ (List.mem_append_right _ (fA hb e)))).1,fun b hb=>?_⟩
     obtain ⟨o,e,d⟩:=Tn.obj _ _ st5 b hb
     exact (Ic.pin (b,o) (List.mem_append_right _ (List.mem_append_right _ (fA hb e)))).2.1
    have keepD:∀ {Fc Hc:Hp} {σc:L2.St} {τc:aH},aB X.K F3 H3 Fc Hc σc τc -> Fc s2.heap.objs.size=none:=fun {Fc Hc σc τc} Ec=>by
     cases eF:Fc s2.heap.objs.size with
     | none=>rfl
     | some o =>
      rcases Ec.g.nw _ o eF with z | z
      ·rw [fD] at z; cases z
      ·rw [hD] at z; cases z
    have newF:∀ {Fc Hc:Hp} {σc:L2.St} {τc:aH},aB X.K F3 H3 Fc Hc σc τc -> ∀ a o,Fc a=some o -> F2 a=some o \/ H1 a=none:=fun {Fc Hc σc τc} Ec a o eF=>by
     rcases Ec.g.nw a o eF with z | z
     ·exact nw a o z
     ·exact .inr (sH.free z)
    have mv:∀ {Fc Hc Hd:Hp} {σc:L2.St} {τc:aH},aB X.K F3 H3 Fc Hc σc τc -> (∀ a,a ≠ s2.heap.objs.size -> Hd a=Hc a) -> aP X.K Fc Hd us vs As:=fun {Fc Hc Hd σc τc} Ec hd=>by
     refine aP.move Ec.g.sF (fun a ha=>?_) rv
     obtain ⟨f1,ws,f2⟩:=rv.at a ha
     refine ⟨by rw [hd a (fr a ha).2,Ec.g.sH _ _ f2,f2],?_⟩
     cases eF:Fc a with
     | none=>rfl
     | some o =>
      rcases Ec.g.nw _ o eF with z | z
      ·rw [f1] at z; cases z
      ·rw [f2] at z; cases z
    cases b':ok with
    | false =>
     subst b'
     dsimp only at ec
     rw [if_neg (by decide)] at ec
     split at ec
     ·next ha =>
      rw [if_neg (by decide)]
      obtain ⟨t1,t2⟩:=tail I7
      exact ⟨ts.length - (i + 1),by omega,i + 1,σ6,H7,F7,τ5,us,vs,As,I7.unpinned,t1,t2,E7.rebase ha E7.g.fh,ha,keepD E7,E7.g.sH _ _ hD,⟨mv E7 (fun _ _=>rfl),nd,fr⟩,sF.trans E7.g.sF,sH.trans E7.g.sH,newF E7,hlt,rfl,ec⟩
     ·cases ec
    | true =>
     subst b'
     dsimp only at ec
     rw [if_pos rfl] at ec
     rw [if_pos rfl]
     obtain ⟨⟨y0,τ6⟩,e6,ec⟩:=bind_some ec
     dsimp only at ec
     split at ec
     ·next ha =>
      have a3:=he' F3 H3 _ s7 σ6 H7 (fun y H8=>∃ F8 Ay,aB X.K F3 H3 F8 H8 σ6 τ6 /\ cv X.K F8 H8 y0 y Ay /\ Ay.Nodup /\ ∀ a ∈ Ay,H3 a=none) I7 (by rw [xK]; exact ⟨F7,τ5,y0,τ6,E7,e6,fun F8 H8 y Ay E8 s8 r8 n8 h8 _=>⟨F8,Ay,E8,r8,n8,h8⟩⟩)
      rw [xx] at a3
      refine cM a3 fun yv s8 ⟨y,H8,I8,ry,F8,Ay,E8,rp,ndy,hy8⟩=>?_
      have dD:H8 s2.heap.objs.size=some (.lst vs):=E8.g.sH _ _ hD
      have a4:=jG (X:=X') _ s8 σ6 H8 (.ref s2.heap.objs.size) [y] (.ref s2.heap.objs.size) [yv] (fun _ H9=>H9=upd H8 s2.heap.objs.size (.lst (vs ++ [y]))) I8 rfl (.cons ry .nil) ⟨s2.heap.objs.size,vs,y,rfl,rfl,dD,by rw [rv.length]; exact ha.2,rfl⟩
      rw [xx] at a4
      refine cM a4 fun _ s9 ⟨_,H9,I9,_,e9⟩=>?_
      subst e9
      obtain ⟨t1,t2⟩:=tail I9
      have kD:=keepD E8
      have sm:aO F8 (upd H8 s2.heap.objs.size (.lst (vs ++ [y]))):=fun c o z=>by rw [aJ (fun w=>by subst w; rw [kD] at z; cases z)]; exact E8.g.fh _ _ z
      have sm1:aO H1 (upd H8 s2.heap.objs.size (.lst (vs ++ [y]))):=fun c o z=>by rw [aJ (fun w=>by subst w; rw [hD1] at z; cases z)]; exact E8.g.sH _ _ (sH _ _ z)
      have yD:∀ a ∈ Ay,a ≠ s2.heap.objs.size:=fun a ha z=>by have:=hy8 a ha; rw [z,hD] at this; cases this
      have rp9:cv X.K F8 (upd H8 s2.heap.objs.size (.lst (vs ++ [y]))) y0 y Ay:=cv.move (aO.refl _) (fun a ha=>⟨aJ (yD a ha),(rp.at a ha).1⟩) rp
      have all9:aP X.K F8 (upd H8 s2.heap.objs.size (.lst (vs ++ [y]))) (us ++ [y0]) (vs ++ [y]) (As ++ Ay):=(mv E8 (fun a ha=>aJ ha)).app (.one rp9)
      have nd9:(As ++ Ay).Nodup:=List.nodup_append.mpr ⟨nd,ndy,fun a ha b hb z=>by subst z; obtain ⟨_,ws,f2⟩:=rv.at a ha; rw [hy8 a hb] at f2; cases f2⟩
      have fr9:∀ a ∈ As ++ Ay,H1 a=none /\ a ≠ s2.heap.objs.size:=fun a ha=>by
       rcases List.mem_append.mp ha with ha | ha
       ·exact fr a ha
       ·exact ⟨sH.free (hy8 a ha),yD a ha⟩
      exact ⟨ts.length - (i + 1),by omega,i + 1,σ6,_,F8,τ6,us ++ [y0],vs ++ [y],As ++ Ay,I9.unpinned,t1,t2,E8.rebase ha.1 sm,ha.1,kD,aR,⟨all9,nd9,fr9⟩,sF.trans E8.g.sF,sm1,newF E8,hlt,rfl,ec⟩
     ·cases ec
   ·have hie:i=ts.length:=by omega
    subst hie
    rw [List.drop_length] at ec
    cases ec
    have dn:=(xP ▸ xw ▸ xK ▸ Tn:Turn X'.prog X'.w X'.K tg J fp it tn).done X' rfl rfl rfl xc ts.length [] s3 σ3 H3 (fun _ _=>False) I3 (fpk I3 fr3) st3 (W2.stop F3 H3 sF E3.g.fh)
    refine cM dn fun r s4 ⟨hr,I4⟩=>?_
    subst hr
    obtain ⟨m4,hm4,_⟩:=I4.loc
    rw [xl] at hm4
    have un:=I4.base
    rw [xfs,xex,xH0,xs0] at un
    have ox:=I4.os
    rw [xs0] at ox
    have hok4:=I4.hok
    rw [xP,xw] at hok4
    have IX:Inv X pins σ H3 s4:=I2.call' ox un hok4 I4.bare fun b hb=>⟨(f2 b hb).2.2.2.1,(f2 b hb).2.1,(f2 b hb).2.2.2.2.1,(f2 b hb).2.2.2.2.2⟩
    have hC:H3 (s2.heap.objs.size + 1)=none:=by have:=I4.free; rw [xl] at this; exact this
    have lC:@LT.lt Nat _ X.env.locals s2.heap.objs.size:=I2.lt
    have gr:bj F2 H1 F3 H3:=⟨sF,sH,E3.g.fh,nw⟩
    have ap3:Apart σ (frzAll cap τ1) As:=fun j us p j1 j2 m=>by
     obtain ⟨v,k1,p',vs',rfl,k2,_⟩:=E2.sl j _ j1
     rw [j2] at k1; cases k1
     rw [(fr _ m).1] at k2; cases k2
    refine hpost _ _ _ ⟨⟨H3,F3,vs,As,IX,E2.grow gr,(sF1.trans sF2).trans sF,fD,hD,E2.g.sH.free hD1,rv,nd,fun a ha=>⟨E2.g.sH.free (fr a ha).1,(fr a ha).2⟩,ap3,hC⟩,⟨m4,hm4⟩,Nat.ne_of_gt (Nat.lt_succ_of_lt lC),Nat.le_trans I2.sz (Nat.le_succ _),
     fun x c hxc=>by obtain ⟨v,z⟩:=I2.cell x c hxc; exact Nat.ne_of_lt (Nat.lt_succ_of_lt z.lt),fun p hp=>Nat.ne_of_lt (Nat.lt_succ_of_lt (Heap.lt_size (I2.pin p hp).1)),fun j us p j1 j2=>?_⟩
    obtain ⟨v,k1,p',vs',rfl,k2,_⟩:=E2.sl j _ j1
    rw [j2] at k1; cases k1
    exact bK k2 hD1
  ·refine ⟨0,cE no cap σ,upd H1 s2.heap.objs.size (.lst []),F2,cE no cap (frzAll cap τ1),[],[],[],Ib,Tn.keep _ _ _ st2 fun b hb o e=>gf e,fun b hb=>?_,E2.block ha (E2.g.fh.trans (ck hD1)),ha,E2.g.fh.free hD1,aR,⟨⟨rfl,rfl⟩,List.nodup_nil,fun a ha=>by cases ha⟩,aO.refl _,ck hD1,fun a o z=>.inl z,Nat.zero_le _,rfl,e3⟩
   obtain ⟨o,e,_⟩:=Tn.obj 0 _ st2 b hb
   rw [aJ (Nat.ne_of_lt (Heap.lt_size e))]
   exact (f2 b hb).1
 have fin:∀ {C:Addr} {cs:List (Str × Addr)},C=s2.heap.objs.size + 1 -> cs=cellsFrom (s2.heap.objs.size + 2) scope.names (lT X.env scope.names []) ->
   codeAny (model X.prog X.w) X.A (.compStart (.ListComp elt [⟨tg,iter,ifs,0⟩] scope pos) 0 (.ref it) (.ref s2.heap.objs.size) (gX X scope C cs)) (post (.ref s2.heap.objs.size) C) { s2 with heap:=h0 s2.heap scope }:=fun {C cs} h1 h2=>by
  subst h1 h2
  exact codeAny_compStart_list loop (Tn.self _ 0 _ _ _ (Tn.keep _ _ _ st2 fun b hb o e=>gf e) loop)
 exact fin hz (by rw [<- hz2])
def ef (no:Nat) (cap:List Nat) (fi:FA) (fg:FG) (ft:FT) (fe:lL):lL:=fun τ=>(fi τ).bind fun p =>
 if cg (cE no cap (frzAll cap p.2))=true then (gZ fg ft fe p.1 (cE no cap (frzAll cap p.2)) []).bind fun us=>some (.lst us,frzAll cap p.2) else none
theorem nW.fin {pins:List (Addr × Obj)} {σ:L2.St} {F₀ H₀ F:Hp} {τ:aH} {rs:List O} {D C:Addr} {s:Shared} (Z:nW X pins σ F₀ H₀ F τ rs D C s) :
  ∃ (H F3:Hp) (As:List Addr),Inv X pins σ H s /\ aB X.K F₀ H₀ F3 H σ τ /\ aO F F3 /\ cv X.K F3 H (.lst rs) (.ref D) As /\ As.Nodup /\ (∀ a ∈ As,H₀ a=none) /\ Apart σ τ As /\ H C=none:=by
 obtain ⟨H,F3,vs,As,IX,E3,sF,fD,hD,h0D,rv,nd,h0,ap,hC⟩:=Z.ex
 refine ⟨H,F3,D :: As,IX,E3,sF,⟨D,vs,As,rfl,rfl,hD,fD,rv⟩,List.nodup_cons.mpr ⟨fun m=>(h0 D m).2 rfl,nd⟩,fun a ha=>?_,fun j us p e1 e2 m=>?_,hC⟩
 ·rcases List.mem_cons.mp ha with rfl | ha
  ·exact h0D
  ·exact (h0 a ha).1
 ·rcases List.mem_cons.mp m with rfl | m
  ·exact Z.ow j us _ e1 e2 rfl
  ·exact ap j us p e1 e2 m
theorem il {elt tg iter:Expr} {ifs:List Expr} {scope:Scope} {pos:Pos} {N':List Str} {no:Nat} {cap:List Nat} {fi:FA} {fg:FG} {ft:FT} {fe:lL} (hx:X.xe=fun _ _=>False) (hc:X.calm=true) (B:gm X scope) (hN:N'.length=no + cap.length)
  (hcap:∀ (k j:Nat),cap[k]? = some j -> ∃ x,N'[no + k]? = some x /\ X.N[j]? = some x /\ (x,NameKind.free) ∈ scope.names) (hi:SI X tg iter fi)
  (hg:∀ C cs s₀ H₀ fp pins,SG (rh X scope N' C cs s₀ H₀ fp pins) tg fg) (ht:∀ C cs s₀ H₀ fp pins,Cq (rh X scope N' C cs s₀ H₀ fp pins) ifs ft) (he:∀ C cs s₀ H₀ fp pins,wk (rh X scope N' C cs s₀ H₀ fp pins) elt fe)
  (hs:∀ x,foldedSetIterable iter X.env x=pure x:=by intro _; rfl):wk X (.ListComp elt [⟨tg,iter,ifs,0⟩] scope pos) (ef no cap fi fg ft fe):=by
 intro F₀ H₀ pins s σ H Q I ⟨F,τ,t,τ',E,e1,q⟩
 obtain ⟨⟨ts,τ1⟩,e2,e1⟩:=bind_some e1
 dsimp only at e1
 split at e1
 ·next ha =>
  obtain ⟨rs,e3,e1⟩:=bind_some e1
  cases e1
  have hfree:∀ y ∈ scope.names,y.2=.free -> ∃ c,X.env.cells.lookup y.1=some c:=fun y hy hk=>I.ok.has y.1 (B.free y hy hk).1
  rw [eval_ListComp]
  refine wpAny_comprehension_free (use:=none) rfl hs (ki hfree) B.kind B.names (wB hx hc B hN hcap hi hg ht he I E e2 ha e3 fun D C s' Z=>?_)
  obtain ⟨H3,F3,As,IX,E3,sF,ro,nd,h0,ap,hC⟩:=Z.fin
  obtain ⟨m,hm⟩:=Z.ns
  refine ⟨m,hm,fun h' sb=>⟨.ref D,H3,IX.turned (t':=s'.toks) (it:=C) (fun b o hb e=>(sb.2 b hb).trans e) hC Z.cl (.inr Z.c0) Z.cc Z.cp,rfl,?_⟩⟩
  exact q F3 H3 (.ref D) As E3 sF ro nd h0 ap
 ·cases e1
end
open PySem PySem.Spec PyProof.Rows L2
def oo (H:Hp) (A:List Addr):Hp:=fun a=>if a ∈ A then none else H a
theorem kM {H:Hp} {A:List Addr} {a:Addr} (h:a ∈ A):oo H A a=none:=if_pos h
theorem dO {H:Hp} {A:List Addr} {a:Addr} (h:a ∉ A):oo H A a=H a:=if_neg h
theorem zN {H:Hp} {A:List Addr}:aO (oo H A) H:=fun a o e=>by
 by_cases m:a ∈ A
 ·rw [kM m] at e; cases e
 ·rw [dO m] at e; exact e
def LB (K:PySem.W.Frag) (n:Nat) (d:O -> List T -> Option T):Sp:=fun vs H Q _=>vs.length=n /\ ∃ F o v ws ts A t,aO F H /\ vs=v :: ws /\ cv K F H o v A /\ A.Nodup /\ aU K F ts ws /\ d o ts=some t /\
 ∀ F' H' v',bj F (oo H A) F' H' -> Rep K F' t v' -> Q v' H'
structure zI (P:Program) (w:World) (K:PySem.W.Frag) (mg:Str -> Option Value) (base:Heap) (k:Nat) (x:Str) (n:Nat) (d:O -> List T -> Option T):Prop where
 ex:∃ f fd ps,gb P w K mg base nC k f fd ps (LB K n d) /\ Binds K fd ps [] /\ PySem.W.keepIn K (.ref f)=true /\ mg x=some (.ref f) /\ ps.length=n
theorem zI.imp {P:Program} {w:World} {K:PySem.W.Frag} {mg:Str -> Option Value} {base:Heap} {k n:Nat} {x:Str} {d d':O -> List T -> Option T} (D:zI P w K mg base k x n d) (h:∀ o ts t,d' o ts=some t -> d o ts=some t):zI P w K mg base k x n d':=by
 obtain ⟨f,fd,ps,F,r⟩:=D.ex
 exact ⟨f,fd,ps,F.imp fun vs H Q E ⟨l,F,o,v,ws,ts,A,t,a,b,c,nd,r,e,q⟩=>⟨l,F,o,v,ws,ts,A,t,a,b,c,nd,r,h _ _ _ e,q⟩,r⟩
theorem zI.mono {P:Program} {w:World} {K:PySem.W.Frag} {mg:Str -> Option Value} {base:Heap} {j k n:Nat} {x:Str} {d:O -> List T -> Option T} (D:zI P w K mg base j x n d) (h:j ≤ k):zI P w K mg base k x n d:=by
 obtain ⟨f,fd,ps,F,r⟩:=D.ex
 exact ⟨f,fd,ps,F.mono h,r⟩
section
variable {K:PySem.W.Frag} {F₀ H₀ F₁ H₁ F H F' H':Hp} {σ:L2.St} {τ:aH}
theorem aB.back (E:aB K F₁ H₁ F H σ τ) (ha:cg τ=true) (g:bj F₀ H₀ F₁ H₁):aB K F₀ H₀ F H σ τ:=by
 refine ⟨g.trans E.g,E.len,fun i sl e=>?_,fun i j ts us p _ e1=>absurd e1 (dv ha)⟩
 obtain ⟨v,h1,h2⟩:=E.sl i sl e
 cases sl with
 | sh t=>exact ⟨v,h1,h2⟩
 | own ts=>exact absurd e (dv ha)
theorem aB.to (E:aB K F₁ H₁ F H σ τ) (ha:cg τ=true) (sF:aO F F') (g:bj F₀ H₀ F' H'):aB K F₀ H₀ F' H' σ τ:=by
 refine ⟨g,E.len,fun i sl e=>?_,fun i j ts us p _ e1=>absurd e1 (dv ha)⟩
 obtain ⟨v,h1,h2⟩:=E.sl i sl e
 cases sl with
 | sh t=>exact ⟨v,h1,Rep.mono sF h2⟩
 | own ts=>exact absurd e (dv ha)
theorem cv.over {o:O} {v:V} {A:List Addr} (g:bj F H F' H') (h:cv K F H o v A):cv K F' H' o v A:=by
 refine cv.move g.sF (fun a ha=>?_) h
 obtain ⟨f1,ws,f2⟩:=h.at a ha
 refine ⟨by rw [g.sH _ _ f2,f2],?_⟩
 cases eF:F' a with
 | none=>rfl
 | some o =>
  rcases g.nw _ o eF with z | z
  ·rw [f1] at z; cases z
  ·rw [f2] at z; cases z
end
section
variable {X:Cx} {e:Expr} {f:FE} {ft:FT} {es:List Expr} {g:FA}
theorem SE.any (h:SE X e f):PE X e (fun σ H Q=>∃ F₀ H₀,tE X.K F₀ H₀ f σ H Q):=fun pins s σ H Q I ⟨F₀,H₀,q⟩=>h F₀ H₀ pins s σ H Q I q
theorem ST.any (h:ST X e ft):PT X e (fun σ H Q=>∃ F₀ H₀,tT X.K F₀ H₀ ft σ H Q):=fun pins s σ H Q I ⟨F₀,H₀,q⟩=>h F₀ H₀ pins s σ H Q I q
theorem SA.any (h:SA X es g):PA X es (fun σ H Q=>∃ F₀ H₀,tA X.K F₀ H₀ g σ H Q):=fun p pins s σ H Q I ⟨F₀,H₀,q⟩=>h F₀ H₀ p pins s σ H Q I q
theorem ud.any {ss:List Stmt} {fs:FS} (h:ud X ss fs):ir X ss (fun D σ H=>∃ F₀ H₀,tS X.K F₀ H₀ fs D σ H):=fun pins s σ H D I ⟨F₀,H₀,q⟩=>h F₀ H₀ pins s σ H D I q
end
open PySem PySem.Spec PyProof.Rows L2
section
variable {X:Cx}
def boolsOf:List T -> Option (List Bool)
 | []=>some []
 | .bl b :: r=>(boolsOf r).bind fun bs=>some (b :: bs)
 | _=>none
def om:List T -> Option T
 | [.lst ts]=>(boolsOf ts).bind fun bs=>some (.bl (bs.all id))
 | _=>none
theorem qA {K:PySem.W.Frag} {F:Hp}:∀ {ts:List T} {bs:List Bool} {vs:List V} {its:List Value},boolsOf ts=some bs -> aU K F ts vs -> Vals vs its -> its=bs.map Value.bool
 | [],bs,vs,its,e,r,z=>by
  cases e; cases r; cases z; rfl
 | t :: ts,bs,vs,its,e,r,z=>by
  obtain ⟨v,rr,rfl,h1,h2⟩:=r
  unfold boolsOf at e
  split at e
  ·next he=>cases he
  ·next b r0 he =>
   cases he
   obtain ⟨bs',e1,e2⟩:=bind_some e
   cases e2
   cases h1
   cases z with
   | cons rz zz =>
    cases rz
    rw [qA e1 h2 zz]
    rfl
  ·cases e
theorem De {s:Shared} {h':Heap} {o:Obj} (hk:∀ b x,b ∉ [s.heap.objs.size] -> (s.heap.push o).get? b=some x -> h'.get? b=some x):∀ b x,s.heap.get? b=some x -> h'.get? b=some x:=
 fun b x e=>hk b x (fun hm=>by rw [List.mem_singleton.mp hm] at e; exact Nat.lt_irrefl _ (Heap.lt_size e)) (Heap.get?_push_of_some _ e)
theorem range_all (bs:List Bool):((List.range bs.length).all fun i=>(bs[i]?).getD true)=bs.all id:=by
 induction bs with
 | nil=>rfl
 | cons b bs ih =>
  rw [List.length_cons,List.range_succ_eq_map,List.all_cons,List.all_map]
  simp only [List.all_cons,List.getElem?_cons_zero,Option.getD_some,id]
  rw [<- ih]
  congr 1
theorem wC (hc:X.calm=true):jS X (.builtin "all") om:=by
 intro pins s σ H xs us Q I rx ⟨F,ts,t,sm,r,e,q⟩
 unfold om at e
 split at e
 ·next ts =>
  obtain ⟨bs,e1,e2⟩:=bind_some e
  cases e2
  obtain ⟨v,rr,rfl,⟨p,vs,rfl,h1,h2⟩,rfl⟩:=r
  obtain ⟨u,rfl,ru⟩:=Vals.one rx
  cases ru
  obtain ⟨its,rv,pl,hz⟩:=I.list (eZ.of (sm _ _ h1))
  have hb:=qA e1 h2 rv
  subst hb
  have hl:=pl.isList
  have hlt:@LT.lt Nat _ p s.heap.objs.size:=by obtain ⟨_,e,_⟩:=hl; exact Heap.lt_size e
  refine call_all_walk (wpAny_pyIter_list hl ?_)
  refine ⟨s.heap.objs.size,[s.heap.objs.size,p],[s.heap.objs.size],(bs.map Value.bool).toArray.size,_,_,fun i=>(bs[i]?).getD true,rfl,PySem.Walks.list (A:=X.A.in1) (I.ok.hd hc) _ p (Nat.ne_of_lt hlt) (bs.map Value.bool).toArray,
   ⟨⟨_,Heap.get?_push_size _ rfl,rfl,rfl⟩,hl.push _⟩,fun i v s' Q' E' hP hQ=>?_,fun h' tk hk=>?_⟩
  ·have hP':(bs.map Value.bool)[i]? = some v:=by simpa using hP
   rw [List.getElem?_map] at hP'
   cases eb:bs[i]? with
   | none=>rw [eb] at hP'; cases hP'
   | some b =>
    rw [eb] at hP'
    have:v=.bool b:=(Option.some.inj hP').symm
    subst this
    simp only [eb,Option.getD_some] at hQ
    exact wpAny_truthy_bool hQ
  ·have e:((List.range (bs.map Value.bool).toArray.size).all fun i=>(bs[i]?).getD true)=bs.all id:=by
    rw [List.size_toArray,List.length_map]
    exact range_all bs
   rw [e]
   exact ⟨.bl _,H,I.kept (t':=tk) (De hk),rfl,q F H _ (bj.refl sm) rfl⟩
 ·cases e
def iC:List T -> Option T
 | [.lst ts]=>some (.tup ts)
 | [.tup ts]=>some (.tup ts)
 | _=>none
theorem oi:jS X (.type "tuple") iC:=kK jW fun vs H Q hq__=>by
 obtain ⟨F,ts,t,sm,r,e,q⟩:=hq__
 unfold iC at e
 split at e
 ·obtain ⟨v,rr,rfl,⟨p,xs,rfl,h1,h2⟩,rfl⟩:=r
  cases e
  refine ⟨p,xs,rfl,.inl ⟨eZ.of (sm _ _ h1),fun l hl=>?_⟩⟩
  have gr:=bj.new (.tup xs) sm hl
  exact q _ _ _ gr ⟨l,xs,rfl,kc.of aR,aU.mono gr.sF h2⟩
 ·obtain ⟨v,rr,rfl,⟨p,xs,rfl,h1,h2⟩,rfl⟩:=r
  cases e
  exact ⟨p,xs,rfl,.inr ⟨bV sm h1,q F H _ (bj.refl sm) ⟨p,xs,rfl,h1,h2⟩⟩⟩
 ·cases e
theorem Dm:Ez X "int.bit_length" (fun x vs H Q=>∃ i,x=.int i /\ vs=[] /\ Q (.int (Builtin.Int.intBits i)) H):=by
 intro pins s σ H x vs v us Q I rx rv ⟨i,hx,hvs,q⟩
 subst hx; subst hvs
 obtain ⟨t,rfl⟩:=rx
 have:=rv.zero
 subst this
 exact PyProof.Rows.call_int_bit_length ⟨.int _,H,I.tok _,⟨_,rfl⟩,q⟩
def iP:T -> Option T
 | .int i=>some (.int (Builtin.Int.intBits i))
 | _=>none
theorem jK {e:Expr} {f:FE} {p2 p3:Pos} (he:SE X e f) (hbase:attributeBase e "bit_length" X.env (eval e X.env)=eval e X.env:=by rfl) (hline:(p2.endLine == p3.line)=true:=by rfl) :
  SE X (.Call (.Attribute e "bit_length" p2) [] [] p3) (ub iP f):=fun F₀ H₀ =>
 PE.weak (tD PySem.F.plainAttrs_int PySem.F.slot_int_bit_length PySem.F.type_int_bit_length Dm (he F₀ H₀) hbase hline) fun σ H Q hq__=>by
  obtain ⟨F,τ,t,τ',E,e1,q⟩:=hq__
  obtain ⟨⟨x,τ1⟩,e2,e1⟩:=bind_some e1
  obtain ⟨z,e4,e1⟩:=bind_some e1
  cases e1
  refine ⟨F,τ,x,_,E,e2,fun F1 H1 v1 E1 s1 r1=>?_⟩
  dsimp only at e4
  unfold iP at e4
  split at e4
  ·cases e4; cases r1
   exact ⟨rfl,_,rfl,rfl,q F1 H1 _ E1 s1 rfl⟩
  ·cases e4
theorem fR {x:Str} {i:Int} {t:Tok} {pos:Pos} (hg:Gl X x) (hm:X.mg x=some (.int i t)) (hd:(x == ("__debug__" : Str))=false:=by decide):SE X (.Name x pos) (fC (.int i)):=jw (yV (v:=.int i) hg hm ⟨_,rfl⟩ hd) fun _=>rfl
def aW (f:FE):FA:=fun τ=>(f τ).bind fun p=>match p.1 with | .lst ts=>some (ts,p.2) | .scr ts=>some (ts,p.2) | .tup ts=>some (ts,p.2) | _=>none
theorem cm {tg l:Expr} {f:FE} (h:SE X l f):SI X tg l (aW f):=by
 intro F₀ H₀ pins s σ H R I ⟨F,τ,ts,τ',E,e1,q⟩
 obtain ⟨⟨x,τ1⟩,e2,e1⟩:=bind_some e1
 dsimp only at e1
 split at e1
 ·exact zj h F₀ H₀ pins s σ H R I ⟨F,τ,ts,τ',E,by unfold wJ; rw [e2]; exact e1,q⟩
 ·exact zj h F₀ H₀ pins s σ H R I ⟨F,τ,ts,τ',E,by unfold wJ; rw [e2]; exact e1,q⟩
 ·exact G4 h F₀ H₀ pins s σ H R I ⟨F,τ,ts,τ',E,by unfold A7; rw [e2]; exact e1,q⟩
 ·cases e1
end
theorem CZ {P:Program} {w:World} {K:PySem.W.Frag} {mg:Str -> Option Value} {base:Heap} {x qual:Str} {st:Stmt} {f:Addr} {fd:FuncData} {N ps:List Str} {k:Nat} {fb:FS} (F:eY K x qual st f fd) (S:aQ N ps (aw st))
  (h:∀ (cdv:Value) (A:Around) (outer:List Env) (s:Shared) (H:Hp) (E:XK),dz k (A.deeper (envOfC qual (aw st) s.heap.objs.size f cdv)) -> ud (m5 nC P w K mg base N qual (aw st) f cdv A outer s H E).nox (dF st) fb) :
  gb P w K mg base nC (k + 1) f fd ps (spT K ps.length (cz N.length ps.length fb)):=by
 refine F.ok S (fun vs H Q E z=>z.1) (fun cdv A outer s H vs Q E hr z=>?_)
 obtain ⟨hl,F1,ts,t,sm,r,e,q⟩:=z
 unfold cz at e
 split at e
 ·next hn =>
  obtain ⟨r',e1,e⟩:=bind_some e
  refine ⟨_,h cdv A outer s H E hr F1 H,F1,_,r',?_,e1,?_⟩
  ·have:=gk (N:=N) sm r
   rw [hn] at this
   exact this
  ·cases r' with
   | rt u=>cases e; exact fun F' H' v g r'=>q F' H' v g r'
   | nx τ=>cases e; exact fun F' H' σ' E' s'=>q F' H' .non E'.g rfl
   | bk τ=>cases e
   | ct τ=>cases e
 ·cases e
open PySem PySem.Spec PyProof.Rows L2
theorem SS.any {X:Cx} {st:Stmt} {fs:FS} (h:SS X st fs):PS X st (fun D σ H=>∃ F₀ H₀,tS X.K F₀ H₀ fs D σ H):=fun pins s σ H D I ⟨F₀,H₀,q⟩=>h F₀ H₀ pins s σ H D I q
structure eO (K:PySem.W.Frag) (F0 H0 F H:Hp) (p:Addr) (os:List O) (A:List Addr):Prop where
 g:bj F0 H0 F H
 r:cv K F H (.lst os) (.ref p) A
 nd:A.Nodup
 h0:∀ a ∈ A,H0 a=none
section
variable {K:PySem.W.Frag} {F0 H0 F H F1 H1:Hp} {p:Addr} {os:List O} {A:List Addr}
theorem eO.hp (S:eO K F0 H0 F H p os A) (s:aO H H1):eO K F0 H0 F H1 p os A:=
 ⟨⟨S.g.sF,S.g.sH.trans s,S.g.fh.trans s,S.g.nw⟩,cv.move (aO.refl _) (fun a ha=>by obtain ⟨f1,ws,f2⟩:=S.r.at a ha; exact ⟨by rw [s _ _ f2,f2],f1⟩) S.r,S.nd,S.h0⟩
theorem eO.over (S:eO K F0 H0 F H p os A) (g:bj F H F1 H1):eO K F0 H0 F1 H1 p os A:=⟨S.g.trans g,S.r.over g,S.nd,S.h0⟩
theorem eO.root (S:eO K F0 H0 F H p os A):∃ vs B,A=p :: B /\ H p=some (.lst vs) /\ F p=none /\ aP K F H os vs B:=by
 obtain ⟨p',vs,B,e,rfl,h1,h2,h3⟩:=S.r
 cases e
 exact ⟨vs,B,rfl,h1,h2,h3⟩
theorem eO.fin (S:eO K F0 H0 F H p os A):∃ F',bj F0 H0 F' H /\ Rep K F' (.lst (O.trs os)) (.ref p):=
 ⟨frzO F H A,S.g.frzO (fun a ha=>(S.r.at a ha).1) S.h0,S.r.frz⟩
theorem D3 {α:Type} (a:List α) (x y:α) (b:List α):(a ++ x :: b).set a.length y=a ++ y :: b:=by
 rw [List.set_append_right _ _ (Nat.le_refl _),Nat.sub_self,List.set_cons_zero]
theorem zc {os:List O} {j:Nat} {o:O} (o':O) (e:os[j]? = some o):os.set j o'=os.take j ++ ([o'] ++ os.drop (j + 1)):=by
 rw [List.set_eq_take_append_cons_drop,if_pos (List.getElem?_eq_some_iff.mp e).1]
 rfl
theorem eO.put (S:eO K F0 H0 F H p os A) {j:Nat} {o:O} {vs:List V} {t:T} {v:V} (e:os[j]? = some o) (hp:H p=some (.lst vs)) (r:Rep K F t v):∃ A',eO K F0 H0 F (upd H p (.lst (vs.set j v))) p (os.set j (.val t)) A':=by
 obtain ⟨vs',B,rfl,h1,h2,h3⟩:=S.root
 rw [hp] at h1; cases h1
 obtain ⟨ws,v0,xs,B1,C,D,rfl,rfl,rfl,g1,g2,g3⟩:=h3.split e
 have nd:=List.nodup_cons.mp S.nd
 have mv:∀ {us:List O} {zs:List V} {E:List Addr},(∀ a ∈ E,a ∈ B1 ++ (C ++ D)) -> aP K F H us zs E -> aP K F (upd H p (.lst ((ws ++ v0 :: xs).set ws.length v))) us zs E:=fun sub h=>aP.move (aO.refl _) (fun a ha=>⟨aJ (fun z=>nd.1 (z ▸ sub a ha)),(h.at a ha).1⟩) h
 have s1:∀ a ∈ B1,a ∈ B1 ++ (C ++ D):=fun a ha=>List.mem_append_left _ ha
 have s2:∀ a ∈ D,a ∈ B1 ++ (C ++ D):=fun a ha=>List.mem_append_right _ (List.mem_append_right _ ha)
 have p0:H0 p=none:=S.h0 p List.mem_cons_self
 refine ⟨p :: (B1 ++ ([] ++ D)),⟨⟨S.g.sF,fun a o' ha=>?_,fun a o' ha=>?_,S.g.nw⟩,⟨p,_,_,rfl,rfl,aR,h2,?_⟩,?_,fun a ha=>?_⟩⟩
 ·rw [aJ (fun z=>by subst z; rw [p0] at ha; cases ha)]; exact S.g.sH _ _ ha
 ·rw [aJ (fun z=>by subst z; rw [h2] at ha; cases ha)]; exact S.g.fh _ _ ha
 ·rw [zc (.val t) e]
  have all:=(mv s1 g1).app ((aP.one (K:=K) (F:=F) (H:=upd H p (.lst ((ws ++ v0 :: xs).set ws.length v))) (o:=.val t) ⟨rfl,r⟩).app (mv s2 g3))
  have e2:(ws ++ v0 :: xs).set ws.length v=ws ++ ([v] ++ xs):=D3 ws v0 v xs
  rw [<- e2] at all
  exact all
 ·refine List.nodup_cons.mpr ⟨fun m=>nd.1 ?_,?_⟩
  ·rcases List.mem_append.mp m with m | m
   ·exact s1 _ m
   ·exact s2 _ m
  ·rw [List.nil_append]
   obtain ⟨n1,n2,n3⟩:=List.nodup_append.mp nd.2
   obtain ⟨n4,n5,n6⟩:=List.nodup_append.mp n2
   exact List.nodup_append.mpr ⟨n1,n5,fun a ha b hb=>n3 a ha b (List.mem_append_right _ hb)⟩
 ·rcases List.mem_cons.mp ha with rfl | ha
  ·exact p0
  ·refine S.h0 a (List.mem_cons_of_mem _ ?_)
   rcases List.mem_append.mp ha with m | m
   ·exact s1 _ m
   ·exact s2 _ m
theorem eO.more (S:eO K F0 H0 F H p os A) {vs:List V} {t:T} {v:V} (hp:H p=some (.lst vs)) (r:Rep K F t v):eO K F0 H0 F (upd H p (.lst (vs ++ [v]))) p (os ++ [.val t]) A:=by
 obtain ⟨vs',B,rfl,h1,h2,h3⟩:=S.root
 rw [hp] at h1; cases h1
 have nd:=List.nodup_cons.mp S.nd
 have p0:H0 p=none:=S.h0 p List.mem_cons_self
 refine ⟨⟨S.g.sF,fun a o' ha=>?_,fun a o' ha=>?_,S.g.nw⟩,⟨p,_,_,rfl,rfl,aR,h2,?_⟩,S.nd,S.h0⟩
 ·rw [aJ (fun z=>by subst z; rw [p0] at ha; cases ha)]; exact S.g.sH _ _ ha
 ·rw [aJ (fun z=>by subst z; rw [h2] at ha; cases ha)]; exact S.g.fh _ _ ha
 ·have m1:aP K F (upd H p (.lst (vs ++ [v]))) os vs B:=aP.move (aO.refl _) (fun a ha=>⟨aJ (fun z=>nd.1 (z ▸ ha)),(h3.at a ha).1⟩) h3
  have all:=m1.app (aP.one (K:=K) (F:=F) (H:=upd H p (.lst (vs ++ [v]))) (o:=.val t) ⟨rfl,r⟩)
  rw [List.append_nil] at all
  exact all
def jb:List O -> Bool
 | []=>true
 | .val _ :: r=>jb r
 | _ :: _=>false
theorem aP.plain:∀ {ro:List O} {ws:List V} {C:List Addr},jb ro=true -> aP K F H ro ws C -> C=[] /\ aU K F (O.trs ro) ws
 | [],ws,C,_,h=>⟨h.2,h.1⟩
 | .val t :: r,ws,C,ha,h=>by
  obtain ⟨v,q,B,D,rfl,rfl,⟨rfl,h1⟩,h2⟩:=h
  obtain ⟨rfl,h3⟩:=aP.plain (ro:=r) ha h2
  exact ⟨rfl,v,q,rfl,h1,h3⟩
 | .lst _ :: r,ws,C,ha,h=>by cases ha
theorem eO.row (S:eO K F0 H0 F H p os A) {j:Nat} {ro:List O} (e:os[j]? = some (.lst ro)) (ha:jb ro=true):∃ vs q ws,H p=some (.lst vs) /\ vs[j]? = some (.ref q) /\ H q=some (.lst ws) /\ aU K F (O.trs ro) ws /\ vs.length=os.length:=by
 obtain ⟨vs,B,rfl,h1,h2,h3⟩:=S.root
 have hl:=h3.length
 obtain ⟨ws,v0,xs,B1,C,D,rfl,rfl,rfl,g1,⟨q,zs,C',rfl,rfl,k1,k2,k3⟩,g3⟩:=h3.split e
 obtain ⟨rfl,k4⟩:=k3.plain ha
 exact ⟨_,q,zs,h1,by rw [List.getElem?_append_right (Nat.le_refl _),Nat.sub_self,List.getElem?_cons_zero],k1,k4,hl⟩
theorem eO.turn (S:eO K F0 H0 F H p os A) {j:Nat} {ro:List O} {vs:List V} {q:Addr} {ts:List T} {ws:List V} (e:os[j]? = some (.lst ro)) (ha:jb ro=true) (hp:H p=some (.lst vs)) (hq:vs[j]? = some (.ref q)) (r:aU K F ts ws) :
  eO K F0 H0 F (upd H q (.lst ws)) p (os.set j (.lst (ts.map O.val))) A:=by
 obtain ⟨vs',B,rfl,h1,h2,h3⟩:=S.root
 rw [hp] at h1; cases h1
 obtain ⟨us,v0,xs,B1,C,D,rfl,rfl,rfl,g1,⟨q',zs,C',rfl,rfl,k1,k2,k3⟩,g3⟩:=h3.split e
 rw [List.getElem?_append_right (Nat.le_refl _),Nat.sub_self,List.getElem?_cons_zero] at hq
 cases hq
 obtain ⟨rfl,k4⟩:=k3.plain ha
 have nd:=List.nodup_cons.mp S.nd
 obtain ⟨n1,n2,n3⟩:=List.nodup_append.mp nd.2
 obtain ⟨n4,n5,n6⟩:=List.nodup_append.mp n2
 have q0:H0 q=none:=S.h0 q (List.mem_cons_of_mem _ (List.mem_append_right _ (List.mem_append_left _ List.mem_cons_self)))
 have qp:p ≠ q:=fun z=>nd.1 (z ▸ (List.mem_append_right _ (List.mem_append_left _ List.mem_cons_self)))
 have mv:∀ {us:List O} {zs:List V} {E:List Addr},(∀ a ∈ E,a ≠ q) -> aP K F H us zs E -> aP K F (upd H q (.lst ws)) us zs E:=fun sub h=>aP.move (aO.refl _) (fun a ha=>⟨aJ (sub a ha),(h.at a ha).1⟩) h
 have s1:∀ a ∈ B1,a ≠ q:=fun a ha=>n3 a ha q (List.mem_append_left _ List.mem_cons_self)
 have s2:∀ a ∈ D,a ≠ q:=fun a ha z=>n6 q List.mem_cons_self a ha z.symm
 refine ⟨⟨S.g.sF,fun a o' ha=>?_,fun a o' ha=>?_,S.g.nw⟩,⟨p,_,_,rfl,rfl,(aJ qp).trans hp,h2,?_⟩,S.nd,S.h0⟩
 ·rw [aJ (fun z=>by subst z; rw [q0] at ha; cases ha)]; exact S.g.sH _ _ ha
 ·rw [aJ (fun z=>by subst z; rw [k2] at ha; cases ha)]; exact S.g.fh _ _ ha
 ·rw [zc _ e]
  exact (mv s1 g1).app ((aP.one (K:=K) (F:=F) (H:=upd H q (.lst ws)) (o:=.lst (ts.map O.val)) ⟨q,ws,[],rfl,rfl,aR,k2,.vals r⟩).app (mv s2 g3))
theorem iq:∀ (ts:List T),O.trs (ts.map O.val)=ts
 | []=>rfl
 | t :: ts=>by rw [List.map_cons,O.trs,iq ts]; rfl
theorem lH:∀ (a:List O),(O.trs a).length=a.length
 | []=>rfl
 | x :: a=>by simp [O.trs,lH a]
end
open PySem PySem.Spec PyProof.Rows L2
def LD (K:PySem.W.Frag) (n:Nat) (d:List T -> Option O):Sp:=fun vs H Q _=>vs.length=n /\ ∃ F ts o,aO F H /\ aU K F ts vs /\ d ts=some o /\
 ∀ F' H' v A,bj F H F' H' -> cv K F' H' o v A -> A.Nodup -> (∀ a ∈ A,H a=none) -> Q v H'
structure iU (P:Program) (w:World) (K:PySem.W.Frag) (mg:Str -> Option Value) (base:Heap) (k:Nat) (x:Str) (n:Nat) (d:List T -> Option O):Prop where
 ex:∃ f fd ps,gb P w K mg base nC k f fd ps (LD K n d) /\ Binds K fd ps [] /\ PySem.W.keepIn K (.ref f)=true /\ mg x=some (.ref f) /\ ps.length=n
section
variable {P:Program} {w:World} {K:PySem.W.Frag} {mg:Str -> Option Value} {base:Heap} {j k n:Nat} {x:Str}
theorem iU.imp {d d':List T -> Option O} (D:iU P w K mg base k x n d) (h:∀ ts o,d' ts=some o -> d ts=some o):iU P w K mg base k x n d':=by
 obtain ⟨f,fd,ps,F,r⟩:=D.ex
 exact ⟨f,fd,ps,F.imp fun vs H Q E ⟨l,F,ts,o,a,b,c,q⟩=>⟨l,F,ts,o,a,b,h _ _ c,q⟩,r⟩
theorem iU.mono {d:List T -> Option O} (D:iU P w K mg base j x n d) (h:j ≤ k):iU P w K mg base k x n d:=by
 obtain ⟨f,fd,ps,F,r⟩:=D.ex
 exact ⟨f,fd,ps,F.mono h,r⟩
theorem iU.plain {d:List T -> Option O} (D:iU P w K mg base k x n d):Def P w K mg base k x n (fun ts=>(d ts).bind fun o=>some o.tr):=by
 obtain ⟨f,fd,ps,F,r⟩:=D.ex
 refine ⟨f,fd,ps,F.imp fun vs H Q E ⟨l,F,ts,t,a,b,c,q⟩=>?_,r⟩
 obtain ⟨o,e1,e2⟩:=bind_some c
 cases e2
 exact ⟨l,F,ts,o,a,b,e1,fun F' H' v A g ro nd h0=>q _ H' v (g.frzO (fun a ha=>(ro.at a ha).1) h0) ro.frz⟩
end
section
variable {X:Cx} {e:Expr} {es:List Expr} {pos:Pos} {g:FA}
def iE (d:List T -> Option O) (g:FA):lL:=fun τ=>(g τ).bind fun p=>(d p.1).bind fun o=>some (o,p.2)
theorem uh {K:PySem.W.Frag} {F₀ H₀ F H:Hp} {σ:L2.St} {τ:aH} {A:List Addr} (E:aB K F₀ H₀ F H σ τ) (n:∀ a ∈ A,H a=none):Apart σ τ A:=fun j us q e1 e2 m=>by
 obtain ⟨v,k1,p',vs',rfl,k2,_⟩:=E.sl j _ e1
 rw [e2] at k1; cases k1
 rw [n _ m] at k2; cases k2
theorem vQ {k n:Nat} {x:Str} {p:Pos} {d:List T -> Option O} (D:iU X.prog X.w X.K X.mg X.base k x n d) (hr:dz k X.A) (hg:Gl X x) (ha:SA X (e :: es) g) (hl:∀ τ ts τ',g τ=some (ts,τ') -> ts.length=n) (hdb:(x == ("__debug__" : Str))=false:=by decide)
  (he:starEach (e :: es) X.env=(false,eval e X.env) :: starEach es X.env:=by rfl) (hpl:(backTo pos (starEach es X.env)).any (·.1)=false:=by rfl):wk X (.Call (.Name x p) (e :: es) [] pos) (iE d g):=by
 obtain ⟨f,fd,ps,F,hb,hk,hm,hn⟩:=D.ex
 intro F₀ H₀
 refine PE.weak (yU (E:=E0) (CX:=nC) F hr hg hm hk hb .nil vB (ha F₀ H₀) hdb he hpl) fun σ H Q h=>?_
 obtain ⟨F,τ,c,τ',E,e1,q⟩:=h
 obtain ⟨⟨z,τ1⟩,e2,e1⟩:=bind_some e1
 have hz:=hl _ _ _ e2
 obtain ⟨u,e4,e1⟩:=bind_some e1
 cases e1
 refine ⟨F,τ,z,_,E,e2,fun F1 H1 vs E1 s1 r1=>⟨by rw [List.append_nil,r1.length]; exact hz,F1,z,c,E1.g.fh,by rw [List.append_nil]; exact r1,e4,fun F3 H3 v3 A g3 r3 nd h0=>?_⟩⟩
 exact q F3 H3 v3 A (E1.grow g3) (s1.trans g3.sF) r3 nd (fun a ha=>E1.g.sH.free (h0 a ha)) (uh E1 h0)
abbrev zJ:=aH -> Option O
def LL (K:PySem.W.Frag) (F₀ H₀:Hp) (f:zJ):TS:=fun D σ H=>∃ F τ o,aB K F₀ H₀ F H σ τ /\ f τ=some o /\ ∀ F' H' v A,bj F₀ H₀ F' H' -> cv K F' H' o v A -> A.Nodup -> (∀ a ∈ A,H₀ a=none) -> D.rt v H'
def HH (X:Cx) (ss:List Stmt) (f:zJ):Prop:=∀ F₀ H₀,ir X ss (LL X.K F₀ H₀ f)
def ot (f:lL):zJ:=fun τ=>(f τ).bind fun p=>some p.1
theorem zu {f:lL} (h:wk X e f):HH X [.Return (some e) pos] (ot f):=fun F₀ H₀=>ir.weak (iH (tJ (h F₀ H₀))) fun D σ H hq__=>by
 obtain ⟨F,τ,o,E,e1,q⟩:=hq__
 obtain ⟨⟨x,τ1⟩,e2,e1⟩:=bind_some e1
 cases e1
 exact ⟨F,τ,_,τ1,E,e2,fun F' H' v A E' _ r nd h0 _=>q F' H' v A E'.g r nd h0⟩
def mK (t:FS) (u:zJ):zJ:=fun τ=>(t τ).bind fun r=>match r with | .nx τ'=>u τ' | _=>none
theorem pI {st:Stmt} {rest:List Stmt} {t:FS} {u:zJ} (h1:SS X st t) (h2:HH X rest u):HH X (st :: rest) (mK t u):=fun F₀ H₀=>ir.weak (cX (h1 F₀ H₀) (h2 F₀ H₀)) fun D σ H hq__=>by
 obtain ⟨F,τ,o,E,e1,q⟩:=hq__
 obtain ⟨x,e2,e1⟩:=bind_some e1
 refine ⟨F,τ,x,E,e2,?_⟩
 cases x with
 | nx τ1=>exact fun F1 H1 σ1 E1 s1=>⟨F1,τ1,o,E1,e1,q⟩
 | rt t=>cases e1
 | bk t=>cases e1
 | ct t=>cases e1
end
def lU (m n:Nat) (fb:zJ):List T -> Option O:=fun ts=>if ts.length=n then fb (ts.map (fun t=>some (Sl.sh t)) ++ List.replicate (m - n) none) else none
section
variable {P:Program} {w:World} {K:PySem.W.Frag} {mg:Str -> Option Value} {base:Heap}
theorem rH {x qual:Str} {st:Stmt} {f:Addr} {fd:FuncData} {N ps:List Str} {k:Nat} {fb:zJ} (F:eY K x qual st f fd) (S:aQ N ps (aw st)) (hb:Binds K fd ps []) (hm:mg x=some (.ref f))
  (h:∀ (cdv:Value) (A:Around) (outer:List Env) (s:Shared) (H:Hp) (E:XK),dz k (A.deeper (envOfC qual (aw st) s.heap.objs.size f cdv)) -> HH (m5 nC P w K mg base N qual (aw st) f cdv A outer s H E).nox (dF st) fb) :
  iU P w K mg base (k + 1) x ps.length (lU N.length ps.length fb):=by
 refine ⟨f,fd,ps,F.ok S (fun vs H Q E z=>z.1) (fun cdv A outer s H vs Q E hr z=>?_),hb,F.kp,hm,rfl⟩
 obtain ⟨hl,F1,ts,o,sm,r,e,q⟩:=z
 unfold lU at e
 split at e
 ·next hn =>
  refine ⟨_,h cdv A outer s H E hr F1 H,F1,_,o,?_,e,fun F' H' v A g ro nd h0=>q F' H' v A g ro nd h0⟩
  have:=gk (N:=N) sm r
  rw [hn] at this
  exact this
 ·cases e
end
section
variable {X:Cx} {e:Expr} {es:List Expr} {pos:Pos} {g:FA}
def FK (fo:lL) (g:FA) (d:O -> List T -> Option T):FE:=fun τ=>(fo τ).bind fun p=>if cg p.2=true then (g p.2).bind fun r=>if cg r.2=true then (d p.1 r.1).bind fun t=>some (t,r.2) else none else none
def A0 (fo:lL) (f:FE):FS:=fun τ=>(fo τ).bind fun p=>match p.1 with
 | .lst os=>if cg p.2=true /\ os.length < sizeLine then (f p.2).bind fun r=>if cg r.2=true then some (.nx r.2) else none else none
 | _=>none
theorem BW {x:Str} {a:Addr} {i j:Int} {t t':Tok} {od:Option Addr} {n:Nat} {sl:Array (Option Value)} {pos:Pos} (hg:Gl X x) (hm:X.mg x=some (.ref a)) (hK:X.K.lookup a=some ⟨.type "tuple", od,.seq #[.int i t,.int j t'] n,sl⟩) (hd:(x == ("__debug__" : Str))=false:=by decide) :
  SE X (.Name x pos) (fC (.tup [.int i,.int j])):=
 jw (yV (v:=.ref a) hg hm rfl hd) fun F=>⟨a,[.int i,.int j],rfl,.inr ⟨_,_,n,hK,rfl,rfl,da (n:=2) (by decide),.cons ⟨_,rfl⟩ (.cons ⟨_,rfl⟩ .nil)⟩,⟨_,_,rfl,rfl,_,_,rfl,rfl,rfl⟩⟩
def wL:T -> T -> Option T
 | .lst ts,.int k=>if (-(2 ^ 63) ≤ k /\ k < 2 ^ 63) /\ ts.length * k.toNat ≤ sizeLine then some (.lst (List.replicate k.toNat ts).flatten) else none
 | _,_=>none
theorem vI {K:PySem.W.Frag} {F:Hp} {ts:List T} {vs:List V} (h:aU K F ts vs):∀ k:Nat,aU K F (List.replicate k ts).flatten (List.replicate k vs).flatten
 | 0=>rfl
 | k + 1=>by
  rw [List.replicate_succ,List.replicate_succ,List.flatten_cons,List.flatten_cons]
  exact h.append (vI h k)
theorem GC:lM X (binaryOp .Mult) wL:=by
 intro pins s σ H x y v u Q I rx ry ⟨F,a,b,t,sm,ra,rb,e,q⟩
 unfold wL at e
 split at e
 ·next ts k =>
  split at e
  ·next hc =>
   cases e
   obtain ⟨p,xs,rfl,h1,h2⟩:=ra
   cases rb
   refine GA pins s σ H _ _ v u Q I rx ry ⟨p,k,xs,rfl,rfl,sm _ _ h1,hc.1.1,hc.1.2,by rw [h2.length]; exact hc.2,fun l hl=>?_⟩
   have gr:=bj.new (.lst (List.replicate k.toNat xs).flatten) sm hl
   exact q _ _ _ gr ⟨l,_,rfl,aR,aU.mono gr.sF (vI h2 _)⟩
  ·cases e
 ·cases e
end
open PySem PySem.Spec PyProof.Rows L2
section
variable {X:Cx}
def AS:List T -> Option T
 | [.lst ts]=>(intsOf ts).bind fun ns=>some (.int ns.sum)
 | _=>none
theorem ints_get {K:PySem.W.Frag} {F:Hp}:∀ {ns:List Int} {vs:List V} {its:List Value},aU K F (ns.map T.int) vs -> Vals vs its -> ∃ xs:List (Int × Tok),its=xs.map (fun p=>Value.int p.1 p.2) /\ xs.map (·.1)=ns
 | [],vs,its,r,z=>by
  cases r; cases z; exact ⟨[],rfl,rfl⟩
 | n :: ns,vs,its,r,z=>by
  obtain ⟨v,rr,rfl,h1,h2⟩:=r
  cases h1
  cases z with
  | cons rz zz =>
   obtain ⟨t,rfl⟩:=rz
   obtain ⟨xs,e1,e2⟩:=ints_get h2 zz
   exact ⟨(n,t) :: xs,by rw [e1]; rfl,by rw [List.map_cons,e2]⟩
theorem AL (hc:X.calm=true):jS X (.builtin "sum") AS:=by
 intro pins s σ H xs us Q I rx ⟨F,ts,t,sm,r,e,q⟩
 unfold AS at e
 split at e
 ·next ts =>
  obtain ⟨ns,e1,e2⟩:=bind_some e
  cases e2
  have et:=km e1
  subst et
  obtain ⟨v,rr,rfl,⟨p,vs,rfl,h1,h2⟩,rfl⟩:=r
  obtain ⟨u,rfl,ru⟩:=Vals.one rx
  cases ru
  obtain ⟨its,rv,pl,hz⟩:=I.list (eZ.of (sm _ _ h1))
  obtain ⟨xs,ex,en⟩:=ints_get h2 rv
  have hl:s.heap.IsList p (intItems xs.toArray):=by
   have:=pl.isList
   rw [ex] at this
   simpa [intItems] using this
  refine sum_intListG (I.ok.hd hc) hl fun h' tk t' hk=>?_
  have e2:preSum (numAt xs.toArray) xs.toArray.size=ns.sum:=by
   rw [preSum_eq,List.take_of_length_le (by simp),<- en]
  rw [e2]
  exact ⟨.int _,H,I.kept (t':=tk) hk,⟨t',rfl⟩,q F H _ (bj.refl sm) rfl⟩
 ·cases e
end
open PySem PySem.Spec PyProof.Rows L2
section
variable {prog:Program} {w:World} {A:Around} {E:Value -> Shared -> Prop} {s:Shared}
end
section
variable {X:Cx}
end
open PySem PySem.Spec PyProof.Rows L2
section
variable {prog:Program} {w:World} {A:Around} {R:Result -> Shared -> Prop} {I:Addr} {fp wr:List Addr} {n:Nat} {P:Nat -> Value -> Prop} {St:Nat -> Heap -> Prop} {kw:List (Str × Value)}
abbrev lQ (a:Array Value) (c:Nat):Obj:={ cls:=.type "list", dict:=none,data:=.seq a c,slots:=#[] }
theorem nO:(toString "max" ++ toString ".loop" : String) = "max.loop" := by decide
theorem Du (W:PySem.Walks prog w A.in1 I fp wr n P St) (bt:Nat -> Nat -> Bool) (hcmp:CmpOf prog w A.in1 .Gt P bt) (S:Addr) (hSf:S ∉ fp) (k:Nat) :
  ∀ (j:Nat) (s:Shared) (vb:Value) (c:Nat),n - (j + 1)=k -> j + 1 ≤ n -> St (j + 1) s.heap -> P (argBest bt j) vb -> s.heap.get? S=some (lQ #[vb,vb] c) ->
  (∀ v h' tk,P (argBest bt (n - 1)) v -> (∀ b o,b ∉ wr -> b ≠ S -> s.heap.get? b=some o -> h'.get? b=some o) -> R (.ok (.ret v)) { s with heap:=h',toks:=tk }) -> codeAny (model prog w) A (.builtin "max.loop" ⟨[.ref I,.none,.ref S],kw⟩) R s:=by
 have hSw:S ∉ wr:=fun h=>hSf (W.sub _ h)
 induction k with
 | zero =>
  intro j s vb c hk hj hst hPb hS hR
  have hin:j + 1=n:=by omega
  refine codeAny_builtin F.entry_max_loop (?_:_); rw [Around.under_plainId F.plain_max_loop _]
  show wpAny _ A.in1 (seqItems? (.ref S) >>= _) _ _ s; refine wpAny_bind (wpAny_seqItems hS rfl ?_)
  show wpAny _ A.in1 (tryCatch (pyNext (.ref I)) _ >>= _) _ _ s; refine wpAny_bind (wpAny_tryCatch (W.done s _ _ (hin ▸ hst) fun h' tk hk'=>?_))
  show wpAny _ A.in1 (updateSeq S (fun _=>#[]) >>= _) _ _ _; refine wpAny_bind (wpAny_updateSeq (hk' S _ hSw hS) rfl (wpAny_bind (wpAny_letGo (wpAny_pure ?_))))
  exact hR vb _ tk (by rw [<- hin]; exact hPb) fun b o hbw hbS e=>(Heap.get?_update_other _ _ (Ne.symm hbS)).trans (hk' b o hbw e)
 | succ k ih =>
  intro j s vb c hk hj hst hPb hS hR
  have hlt:j + 1 < n:=by omega
  refine codeAny_builtin F.entry_max_loop (?_:_); rw [Around.under_plainId F.plain_max_loop _]
  show wpAny _ A.in1 (seqItems? (.ref S) >>= _) _ _ s; refine wpAny_bind (wpAny_seqItems hS rfl ?_)
  show wpAny _ A.in1 (tryCatch (pyNext (.ref I)) _ >>= _) _ _ s; refine wpAny_bind (wpAny_tryCatch (W.item (j + 1) s _ _ hlt hst fun v h' tk hP hst' hk'=>?_))
  have hS':=hk' S _ hSw hS
  show wpAny _ A.in1 (tryCatch (holding [v,v] (richCompare .Gt v vb >>= _)) _ >>= _) _ _ _; refine wpAny_bind (wpAny_tryCatch (wpAny_holding (wpAny_bind (hcmp (j + 1) (argBest bt j) v vb _ _ _ hP hPb (wpAny_bind (wpAny_holding (wpAny_truthy_bool (wpAny_bind (wpAny_letGo (wpAny_pure ?_))))))))))
  cases hb:bt (j + 1) (argBest bt j) with
  | true =>
   simp only [if_true]
   refine wpAny_bind (wpAny_updateSeq hS' rfl (wpAny_bind (wpAny_letGo (?_:_)))); rw [nO]
   refine wpAny_pure ⟨plainId_quiet F.plain_max_loop _,ih (j + 1) _ v _ (by omega) hlt (W.frame _ _ _ hst' fun b hbf o e=>(Heap.get?_update_other _ _ (fun h:S=b=>hSf (by rw [h]; exact hbf))).trans e) (by simp only [argBest,hb,if_true]; exact hP) (Heap.get?_update_self _ hS' rfl) fun v' h'' tk'' hP' hk''=>?_⟩
   exact hR v' h'' tk'' hP' fun b o hbw hbS e=>hk'' b o hbw hbS ((Heap.get?_update_other _ _ (Ne.symm hbS)).trans (hk' b o hbw e))
  | false =>
   simp only [Bool.false_eq_true,if_false]
   refine wpAny_bind (wpAny_letGo (?_:_)); rw [nO]
   refine wpAny_pure ⟨plainId_quiet F.plain_max_loop _,ih (j + 1) _ vb c (by omega) hlt hst' (by simp only [argBest,hb,Bool.false_eq_true,if_false]; exact hPb) hS' fun v' h'' tk'' hP' hk''=>?_⟩
   exact hR v' h'' tk'' hP' fun b o hbw hbS e=>hk'' b o hbw hbS (hk' b o hbw e)
theorem By (W:PySem.Walks prog w A.in1 I fp wr n P St) (bt:Nat -> Nat -> Bool) (hcmp:CmpOf prog w A.in1 .Gt P bt) (S:Addr) (hSf:S ∉ fp) (hn:0 < n) {s:Shared} {c:Nat} (hst:St 0 s.heap) (hS:s.heap.get? S=some (lQ #[] c))
  (hR:∀ v h' tk,P (argBest bt (n - 1)) v -> (∀ b o,b ∉ wr -> b ≠ S -> s.heap.get? b=some o -> h'.get? b=some o) -> R (.ok (.ret v)) { s with heap:=h',toks:=tk }):codeAny (model prog w) A (.builtin "max.loop" ⟨[.ref I,.none,.ref S],kw⟩) R s:=by
 have hSw:S ∉ wr:=fun h=>hSf (W.sub _ h)
 refine codeAny_builtin F.entry_max_loop (?_:_); rw [Around.under_plainId F.plain_max_loop _]
 show wpAny _ A.in1 (seqItems? (.ref S) >>= _) _ _ s; refine wpAny_bind (wpAny_seqItems hS rfl ?_)
 show wpAny _ A.in1 (tryCatch (pyNext (.ref I)) _ >>= _) _ _ s; refine wpAny_bind (wpAny_tryCatch (W.item 0 s _ _ hn hst fun v h' tk hP hst' hk'=>?_))
 have hS':=hk' S _ hSw hS
 show wpAny _ A.in1 (updateSeq S (fun _=>#[v,v]) >>= _) _ _ _; refine wpAny_bind (wpAny_updateSeq hS' rfl (?_:_)); rw [nO]
 refine wpAny_pure ⟨plainId_quiet F.plain_max_loop _,Du W bt hcmp S hSf _ 0 _ v _ rfl hn (W.frame _ _ _ hst' fun b hbf o e=>(Heap.get?_update_other _ _ (fun h:S=b=>hSf (by rw [h]; exact hbf))).trans e) hP (Heap.get?_update_self _ hS' rfl) fun v' h'' tk'' hP' hk''=>?_⟩
 exact hR v' h'' tk'' hP' fun b o hbw hbS e=>hk'' b o hbw hbS ((Heap.get?_update_other _ _ (Ne.symm hbS)).trans (hk' b o hbw e))
theorem Ds (W:PySem.Walks prog w A.in1 I fp wr n P St) (hn:n=0) (S:Addr) (hSf:S ∉ fp) {d:Value} {s:Shared} {c:Nat} (hst:St 0 s.heap) (hS:s.heap.get? S=some (lQ #[] c))
  (hR:∀ h' tk,(∀ b o,b ∉ wr -> b ≠ S -> s.heap.get? b=some o -> h'.get? b=some o) -> R (.ok (.ret d)) { s with heap:=h',toks:=tk }):codeAny (model prog w) A (.builtin "max.loop" ⟨[.ref I,.none,.ref S],[("default", d)]⟩) R s:=by
 refine codeAny_builtin F.entry_max_loop (?_:_); rw [Around.under_plainId F.plain_max_loop _]
 show wpAny _ A.in1 (seqItems? (.ref S) >>= _) _ _ s; refine wpAny_bind (wpAny_seqItems hS rfl ?_)
 show wpAny _ A.in1 (tryCatch (pyNext (.ref I)) _ >>= _) _ _ s; refine wpAny_bind (wpAny_tryCatch (W.done s _ _ (hn.symm ▸ hst) fun h' tk hk'=>?_))
 exact wpAny_bind (wpAny_rule (wpAny_pure (hR h' tk fun b o hbw _ e=>hk' b o hbw e)))
end
def bestOf (ns:List Int):Int:=ns.getD (argBest (fun i j=>decide (ns.getD i 0 > ns.getD j 0)) (ns.length - 1)) 0
theorem zK (a v:Value):argsOk "max" ⟨[a],[(Str.ofString "default", v)]⟩:=by unfold argsOk; kernel_rfl
theorem oR (xs:List (Int × Tok)) (i:Nat):numAt xs.toArray i=(xs.map (·.1)).getD i 0:=by
 unfold numAt
 rw [List.getElem?_toArray,List.getD_eq_getElem?_getD,List.getElem?_map]
section
variable {prog:Program} {w:World} {A:Around} {E:Value -> Shared -> Prop} {s:Shared}
theorem Dp {l:Addr} {xs:List (Int × Tok)} {d:Value} {Q:Value -> Shared -> Prop} (hh:A.handled=none) (hl:s.heap.IsList l (intItems xs.toArray))
  (h:∀ v h' tk,(∀ b o,s.heap.get? b=some o -> h'.get? b=some o) -> (xs=[] /\ v=d \/ xs ≠ [] /\ ∃ t,v=Value.int (bestOf (xs.map (·.1))) t) -> Q v { s with heap:=h',toks:=tk }) :
  wpAny (model prog w) A (call (.builtin "max") [.ref l] [(Str.ofString "default", d)]) Q E s:=by
 obtain ⟨ol,hol,_⟩:=id hl
 have hll:@LT.lt Nat _ l s.heap.objs.size:=Heap.lt_size hol
 refine kmk_tree PySem.F.kind_max PySem.F.plain_max PySem.F.entry_max (zK _ _) ?_
 show wpAny _ A.in1 (Builtin.Builtins.bindParams "max" ["key", "default"] 0 ⟨[],[(Str.ofString "default", d)]⟩ >>= _) _ _ s
 refine wpAny_bind (wpAny_of_eq (show Builtin.Builtins.bindParams "max" ["key", "default"] 0 ⟨[],[(Str.ofString "default", d)]⟩=pure [none,some d] from rfl) ?_)
 refine wpAny_bind (wpAny_pure (wpAny_bind (wpAny_pyIter_list hl (wpAny_bind (wpAny_newObj_type ?_)))))
 rw [nO]
 have hz:(s.heap.push { cls:=.type "list_iterator", data:=.fields #[.ref l,.int 0 0] }).objs.size=s.heap.objs.size + 1:=Heap.size_push ..
 have W:=PySem.Walks.list (prog:=prog) (w:=w) (A:=A.in1) hh s.heap.objs.size l (Nat.ne_of_lt hll) (intItems xs.toArray)
 have st0:((s.heap.push { cls:=.type "list_iterator", data:=.fields #[.ref l,.int 0 0] }).push (lQ #[] 0)).IsListIter s.heap.objs.size l 0 /\ ((s.heap.push { cls:=.type "list_iterator", data:=.fields #[.ref l,.int 0 0] }).push (lQ #[] 0)).IsList l (intItems xs.toArray):=
  ⟨⟨_,Heap.get?_push_of_some _ (Heap.get?_push_size _ rfl),rfl,rfl⟩,(hl.push _).push _⟩
 have hSf:(s.heap.push { cls:=.type "list_iterator", data:=.fields #[.ref l,.int 0 0] }).objs.size ∉ [s.heap.objs.size,l]:=fun m=>by
  rw [hz] at m
  rcases List.mem_cons.mp m with m | m
  ·exact absurd m (Nat.succ_ne_self _)
  ·rw [List.mem_singleton] at m; rw [<- m] at hll; exact absurd hll (by omega)
 have keep:∀ {h':Heap},(∀ b o,b ∉ [s.heap.objs.size] -> b ≠ (s.heap.push { cls:=.type "list_iterator", data:=.fields #[.ref l,.int 0 0] }).objs.size -> ((s.heap.push { cls:=.type "list_iterator", data:=.fields #[.ref l,.int 0 0] }).push (lQ #[] 0)).get? b=some o -> h'.get? b=some o) -> ∀ b o,s.heap.get? b=some o -> h'.get? b=some o:=fun k b o e=>by
  have hb:@LT.lt Nat _ b s.heap.objs.size:=Heap.lt_size e
  exact k b o (fun m=>by rw [List.mem_singleton.mp m] at hb; exact Nat.lt_irrefl _ hb) (fun m=>by rw [m,hz] at hb; omega) (Heap.get?_push_of_some _ (Heap.get?_push_of_some _ e))
 cases xs with
 | nil=>exact wpAny_pure ⟨plainId_quiet F.plain_max_loop _,Ds W (by simp [intItems]) _ hSf st0 (Heap.get?_push_size _ rfl) fun h' tk hk=>h d h' tk (keep hk) (.inl ⟨rfl,rfl⟩)⟩
 | cons x xs =>
  have val:∀ i v,(intItems (x :: xs).toArray)[i]? = some v -> ∃ t,v=Value.int (numAt (x :: xs).toArray i) t:=fun i v e=>intItems_at e
  refine wpAny_pure ⟨plainId_quiet F.plain_max_loop _,By W _ (CmpOf.ints_gt (numAt (x :: xs).toArray) val) _ hSf (by simp [intItems]) st0 (Heap.get?_push_size _ rfl) fun v h' tk hP hk=>h v h' tk (keep hk) (.inr ⟨by simp,?_⟩)⟩
  obtain ⟨t,e⟩:=val _ _ hP
  refine ⟨t,e.trans ?_⟩
  congr 1
  rw [oR]
  unfold bestOf
  simp only [oR]
  congr 2
  simp [intItems]
end
section
variable {X:Cx}
def yF:T -> T -> Option T
 | .lst ts,.int d=>(intsOf ts).bind fun ns=>some (.int (if ns=[] then d else bestOf ns))
 | _,_=>none
theorem D0 {e d:Expr} {f fd:FE} {p pos kp:Pos} (hc:X.calm=true) (hg:Gl X "max") (hm:X.mg "max" = none) (he:SE X e f) (hd:SE X d fd) (hs:starEach [e] X.env=[(false,eval e X.env)]:=by rfl) :
  SE X (.Call (.Name "max" p) [e] [⟨some "default", d,kp⟩] pos) (aG yF f fd):=by
 intro F₀ H₀ pins s σ H Q I h
 obtain ⟨F,τ,t,τ',E,e1,q⟩:=h
 obtain ⟨⟨x,τ1⟩,e2,e1⟩:=bind_some e1
 obtain ⟨⟨y,τ2⟩,e3,e1⟩:=bind_some e1
 obtain ⟨z,e4,e1⟩:=bind_some e1
 cases e1
 refine wpAny_Call_Name_kw (lW I hg hm PyProof.Rows.boot_max (PyProof.Rows.callWith_kw ?_ (by rw [hs]; rfl) (by rw [hs]; rfl)))
 rw [hs]
 refine Calls.spliced_cons (cM (he F₀ H₀ pins s σ H (fun v H1=>∃ F1,aB X.K F₀ H₀ F1 H1 σ τ1 /\ aO F F1 /\ Rep X.K F1 x v) I ⟨F,τ,x,τ1,E,e2,fun F1 H1 v E1 s1 r1=>⟨F1,E1,s1,r1⟩⟩) fun u s1 ⟨v1,H1,I1,ru,F1,E1,sF1,r1⟩=>Calls.spliced_nil ?_)
 refine PyProof.Rows.kws_cons (cM (hd F₀ H₀ pins s1 σ H1 (fun v H2=>∃ F2,aB X.K F₀ H₀ F2 H2 σ _ /\ aO F1 F2 /\ Rep X.K F2 y v) I1 ⟨F1,τ1,y,_,E1,e3,fun F2 H2 v E2 s2 r2=>⟨F2,E2,s2,r2⟩⟩) fun u2 s2 ⟨v2,H2,I2,ru2,F2,E2,sF2,r2⟩=>PyProof.Rows.kws_nil ?_)
 dsimp only at e4
 unfold yF at e4
 split at e4
 ·next ts dd =>
  obtain ⟨ns,e5,e6⟩:=bind_some e4
  cases e6
  have et:=km e5
  subst et
  obtain ⟨pl,vs,rfl,h1,h2⟩:=Rep.mono sF2 r1
  cases ru
  cases r2
  obtain ⟨its,rv,pl',hz⟩:=I2.list (eZ.of (E2.g.fh _ _ h1))
  obtain ⟨xs,ex,en⟩:=ints_get h2 rv
  have hl:s2.heap.IsList pl (intItems xs.toArray):=by
   have:=pl'.isList
   rw [ex] at this
   simpa [intItems] using this
  obtain ⟨td,rfl⟩:=ru2
  refine Dp (I2.ok.hd hc) hl fun v h' tk hk hv=>?_
  have I3:=I2.kept (t':=tk) hk
  rcases hv with ⟨hx,rfl⟩ | ⟨hx,t,rfl⟩
  ·subst hx
   subst en
   exact ⟨V.int _,H2,I3,⟨_,rfl⟩,q F2 H2 _ E2 (sF1.trans sF2) rfl⟩
  ·refine ⟨.int (bestOf (xs.map (·.1))),H2,I3,⟨_,rfl⟩,q F2 H2 _ E2 (sF1.trans sF2) ?_⟩
   have hne:ns ≠ []:=fun z=>hx (by rw [z] at en; simpa using en)
   rw [if_neg hne,<- en]
   rfl
 ·cases e4
end
open PySem PySem.Spec PyProof.Rows L2
section
variable {X:Cx}
end
open PySem PySem.Spec PyProof.Rows L2
def Fits (K:PySem.W.Frag) (F:Hp):L2.St -> aH -> Prop
 | [],[]=>True
 | _ :: σ,none :: τ=>Fits K F σ τ
 | some v :: σ,some (.sh t) :: τ=>Rep K F t v /\ Fits K F σ τ
 | _,_=>False
theorem Fits.len {K:PySem.W.Frag} {F:Hp}:∀ {σ:L2.St} {τ:aH},Fits K F σ τ -> σ.length=τ.length
 | [],[],_=>rfl
 | [],_ :: _,h=>by cases h
 | _ :: _,[],h=>by cases h
 | _ :: σ,none :: τ,h=>by have:Fits K F σ τ:=h; simp [this.len]
 | some v :: σ,some (.sh t) :: τ,h=>by simp [(h.2:Fits K F σ τ).len]
 | none :: σ,some (.sh t) :: τ,h=>by cases h
 | none :: σ,some (.own t) :: τ,h=>by cases h
 | some v :: σ,some (.own t) :: τ,h=>by cases h
theorem Fits.get {K:PySem.W.Frag} {F:Hp}:∀ {σ:L2.St} {τ:aH} {i:Nat} {s:Sl},Fits K F σ τ -> τ[i]? = some (some s) -> ∃ t v,s=.sh t /\ σ[i]? = some (some v) /\ Rep K F t v
 | [],[],i,s,_,e=>by simp at e
 | [],_ :: _,_,_,h,_=>by cases h
 | _ :: _,[],_,_,h,_=>by cases h
 | _ :: σ,none :: τ,0,s,h,e=>by simp at e
 | _ :: σ,none :: τ,i + 1,s,h,e=>Fits.get (σ:=σ) (τ:=τ) (i:=i) h (by simpa using e)
 | some v :: σ,some (.sh t) :: τ,0,s,h,e=>by simp at e; exact ⟨t,v,e.symm,rfl,h.1⟩
 | some v :: σ,some (.sh t) :: τ,i + 1,s,h,e=>Fits.get (σ:=σ) (τ:=τ) (i:=i) h.2 (by simpa using e)
 | none :: σ,some (.sh t) :: τ,_,_,h,_=>by cases h
 | none :: σ,some (.own t) :: τ,_,_,h,_=>by cases h
 | some v :: σ,some (.own t) :: τ,_,_,h,_=>by cases h
abbrev vJ (ts:List T):O:=.lst (ts.map O.val)
theorem vX:∀ tss:List (List T),O.trs (tss.map vJ)=tss.map T.lst
 | []=>rfl
 | ts :: tss=>by
  rw [List.map_cons,List.map_cons,O.trs,vX tss]
  show T.lst (O.trs (ts.map O.val)) :: _=_
  rw [iq]
theorem fv:∀ ts:List T,jb (ts.map O.val)=true
 | []=>rfl
 | _ :: ts=>fv ts
theorem uc {K:PySem.W.Frag} {F:Hp} {t:T} {v:V} (h:Rep K F t v):∀ {ts:List T} {vs:List V} (m:Nat),aU K F ts vs -> aU K F (ts.set m t) (vs.set m v)
 | [],_,_,r=>by cases r; rfl
 | a :: ts,_,0,r=>by obtain ⟨w,q,rfl,h1,h2⟩:=r; exact ⟨v,q,rfl,h,h2⟩
 | a :: ts,_,m + 1,r=>by obtain ⟨w,q,rfl,h1,h2⟩:=r; exact ⟨w,_,rfl,h1,uc h m h2⟩
theorem wk.any {X:Cx} {e:Expr} {f:lL} (h:wk X e f):PE X e (fun σ H Q=>∃ F₀ H₀,Le X.K F₀ H₀ f σ H Q):=fun pins s σ H Q I ⟨F₀,H₀,q⟩=>h F₀ H₀ pins s σ H Q I q
theorem SI.any {X:Cx} {tg e:Expr} {f:FA} (h:SI X tg e f):PI X tg e (fun σ H R=>∃ F₀ H₀,tI X.K F₀ H₀ f σ H R):=fun pins s σ H R I ⟨F₀,H₀,q⟩=>h F₀ H₀ pins s σ H R I q
theorem eO.at {K:PySem.W.Frag} {F0 H0 F H:Hp} {p:Addr} {A:List Addr} {tss:List (List T)} (S:eO K F0 H0 F H p (tss.map vJ) A) {j:Nat} {ts:List T} (e:tss[j]? = some ts) :
  ∃ vs q ws,H p=some (.lst vs) /\ vs[j]? = some (.ref q) /\ H q=some (.lst ws) /\ aU K F ts ws /\ vs.length=tss.length:=by
 obtain ⟨vs,q,ws,h1,h2,h3,h4,h5⟩:=S.row (j:=j) (ro:=ts.map O.val) (by rw [List.getElem?_map,e]; rfl) (fv ts)
 exact ⟨vs,q,ws,h1,h2,h3,by rw [iq] at h4; exact h4,by rw [h5,List.length_map]⟩
theorem eO.turnRow {K:PySem.W.Frag} {F0 H0 F H:Hp} {p:Addr} {A:List Addr} {tss:List (List T)} (S:eO K F0 H0 F H p (tss.map vJ) A) {j:Nat} {ts us:List T} {vs ws:List V} {q:Addr} (e:tss[j]? = some ts) (hp:H p=some (.lst vs)) (hq:vs[j]? = some (.ref q)) (r:aU K F us ws) :
  eO K F0 H0 F (upd H q (.lst ws)) p ((tss.set j us).map vJ) A:=by
 have:=S.turn (j:=j) (ro:=ts.map O.val) (ts:=us) (ws:=ws) (by rw [List.getElem?_map,e]; rfl) (fv ts) hp hq r
 rw [List.map_set]
 exact this
theorem eO.len {K:PySem.W.Frag} {F0 H0 F H:Hp} {p:Addr} {A:List Addr} {os:List O} (S:eO K F0 H0 F H p os A):∃ vs,H p=some (.lst vs) /\ vs.length=os.length:=by
 obtain ⟨vs,B,_,h1,_,h3⟩:=S.root
 exact ⟨vs,h1,h3.length⟩
open PySem PySem.Spec PyProof.Rows L2
def kd:T -> Nat
 | .non=>1 | .bl _=>2 | .int _=>0 | .str _=>3 | .ty _=>4 | .tup _=>5 | .lst _=>5 | .scr _=>5 | .dic=>5 | .obj _ _ _=>5 | .ptr _=>5
def JO (us ts:List T):Bool:=us.length != ts.length || (List.zip us ts).any fun p=>kd p.1 != kd p.2
mutual
def apart (us:List T):T -> Bool
 | .tup ts=>jd us ts
 | .lst ts=>JO us ts && jd us ts
 | .scr _=>false
 | .obj _ _ ts=>jd us ts
 | _=>true
def jd (us:List T):List T -> Bool
 | []=>true
 | t :: ts=>apart us t && jd us ts
end
def Ly:V -> Nat
 | .non=>1 | .bl _=>2 | .int _=>0 | .str _=>3 | .ty _=>4 | .ref _=>5 | _=>6
theorem Iy {K:PySem.W.Frag} {F:Hp} {t:T} {v:V} (h:Rep K F t v):kd t=Ly v:=by
 cases t with
 | non=>rw [show v=_ from h]; rfl
 | bl b=>rw [show v=_ from h]; rfl
 | int b=>rw [show v=_ from h]; rfl
 | str b=>rw [show v=_ from h]; rfl
 | ty b=>rw [show v=_ from h]; rfl
 | tup ts=>obtain ⟨a,xs,e,_⟩:=h; rw [e]; rfl
 | lst ts=>obtain ⟨a,xs,e,_⟩:=h; rw [e]; rfl
 | scr ts=>obtain ⟨a,xs,e,_⟩:=h; rw [e]; rfl
 | dic=>obtain ⟨a,e,_⟩:=h; rw [e]; rfl
 | obj _ _ _=>obtain ⟨a,_,_,e,_⟩:=h; rw [e]; rfl
 | ptr _=>rw [show v=_ from h]; rfl
theorem Gi {K:PySem.W.Frag} {F:Hp} {t u:T} {v:V} (h:Rep K F t v) (h':Rep K F u v):kd t=kd u:=(Iy h).trans (Iy h').symm
theorem yy {K:PySem.W.Frag} {F:Hp}:∀ {us ts:List T} {vs:List V},aU K F us vs -> aU K F ts vs -> JO us ts=false
 | [],[],_,_,_=>rfl
 | [],t :: ts,_,h,h'=>by
  obtain ⟨v,r,e,_⟩:=h'
  rw [show _=[] from h] at e; cases e
 | u :: us,[],_,h,h'=>by
  obtain ⟨v,r,e,_⟩:=h
  rw [show _=[] from h'] at e; cases e
 | u :: us,t :: ts,_,h,h'=>by
  obtain ⟨v,r,rfl,h1,h2⟩:=h
  obtain ⟨v',r',e,h3,h4⟩:=h'
  cases e
  have ih:=yy h2 h4
  unfold JO at ih ⊢
  simp only [List.length_cons,List.zip_cons_cons,List.any_cons,Gi h1 h3,bne_self_eq_false,Bool.false_or] at ih ⊢
  simpa using ih
mutual
theorem Rep.drop {K:PySem.W.Frag} {F:Hp} {a:Addr} {us:List T} {vs:List V} (ha:F a=some (.lst vs)) (hu:aU K F us vs):∀ {t:T} {v:V},apart us t=true -> Rep K F t v -> Rep K (oo F [a]) t v
 | .non,_,_,h=>h
 | .bl _,_,_,h=>h
 | .int _,_,_,h=>h
 | .str _,_,_,h=>h
 | .ty _,_,_,h=>h
 | .tup ts,_,k,h=>by
  obtain ⟨b,xs,h1,h2,h3⟩:=h
  refine ⟨b,xs,h1,?_,aU.drop' ha hu (by simpa [apart] using k) h3⟩
  rcases h2 with (h2 | ⟨o,h2⟩) | h2
  ·refine .inl (.inl ?_)
   rw [dO (fun m=>by rw [List.mem_singleton.mp m,ha] at h2; cases h2)]; exact h2
  ·refine .inl (.inr ⟨o,?_⟩)
   rw [dO (fun m=>by rw [List.mem_singleton.mp m,ha] at h2; cases h2)]; exact h2
  ·exact .inr h2
 | .lst ts,_,k,h=>by
  obtain ⟨b,xs,h1,h2,h3⟩:=h
  have k':JO us ts=true /\ jd us ts=true:=by simpa [apart] using k
  refine ⟨b,xs,h1,?_,aU.drop' ha hu k'.2 h3⟩
  rw [dO (fun m=>by
   rw [List.mem_singleton.mp m,ha] at h2
   cases h2
   rw [yy hu h3] at k'
   exact absurd k'.1 (by decide))]
  exact h2
 | .scr _,_,k,_=>by simp [apart] at k
 | .dic,_,_,h=>by
  obtain ⟨b,h1,h2⟩:=h
  refine ⟨b,h1,?_⟩
  rw [dO (fun m=>by rw [List.mem_singleton.mp m,ha] at h2; cases h2)]
  exact h2
 | .obj C ns ts,_,k,h=>by
  obtain ⟨b,dx,xs,h1,h2,h3,h4⟩:=h
  refine ⟨b,dx,xs,h1,?_,h3,aU.drop' ha hu (by simpa [apart] using k) h4⟩
  rw [dO (fun m=>by rw [List.mem_singleton.mp m,ha] at h2; cases h2)]
  exact h2
 | .ptr _,_,_,h=>h
theorem aU.drop' {K:PySem.W.Frag} {F:Hp} {a:Addr} {us:List T} {vs:List V} (ha:F a=some (.lst vs)) (hu:aU K F us vs):∀ {ts:List T} {ws:List V},jd us ts=true -> aU K F ts ws -> aU K (oo F [a]) ts ws
 | [],_,_,h=>h
 | t :: ts,_,k,h=>by
  obtain ⟨v,r,h1,h2,h3⟩:=h
  have k':apart us t=true /\ jd us ts=true:=by simpa [jd] using k
  exact ⟨v,r,h1,Rep.drop ha hu k'.1 h2,aU.drop' ha hu k'.2 h3⟩
end
section
variable {X:Cx} {e:Expr} {pos:Pos}
end
open PySem PySem.Spec PyProof.Rows L2
structure LP (e it l:Addr) (i:Nat) (h:Heap):Prop where
 he:∃ old,IsEnum h e it (i:Int) old
 hi:h.IsListIter it l i
open PySem PySem.Spec PyProof.Rows L2
def hide:aH -> aH
 | []=>[]
 | some (.own _) :: τ=>none :: hide τ
 | some (.sh t) :: τ=>some (.sh t) :: hide τ
 | none :: τ=>none :: hide τ
theorem eM:∀ τ:aH,(hide τ).length=τ.length
 | []=>rfl
 | some (.own _) :: τ=>by simp [hide,eM τ]
 | some (.sh t) :: τ=>by simp [hide,eM τ]
 | none :: τ=>by simp [hide,eM τ]
theorem ij:∀ {τ:aH} {j:Nat} {s:Sl},(hide τ)[j]? = some (some s) -> τ[j]? = some (some s) /\ ∃ t,s=.sh t
 | [],j,s,h=>by simp [hide] at h
 | some (.own _) :: τ,0,s,h=>by simp [hide] at h
 | some (.sh t) :: τ,0,s,h=>by simp [hide] at h; subst h; exact ⟨rfl,t,rfl⟩
 | none :: τ,0,s,h=>by simp [hide] at h
 | some (.own _) :: τ,j + 1,s,h=>by simpa using ij (τ:=τ) (j:=j) (by simpa [hide] using h)
 | some (.sh t) :: τ,j + 1,s,h=>by simpa using ij (τ:=τ) (j:=j) (by simpa [hide] using h)
 | none :: τ,j + 1,s,h=>by simpa using ij (τ:=τ) (j:=j) (by simpa [hide] using h)
section
variable {K:PySem.W.Frag} {F₀ H₀ F H F' H':Hp} {σ:L2.St} {τ:aH}
theorem aB.look {i:Nat} {us:List T} {vs:List V} {a:Addr} (E:aB K F₀ H₀ F H σ τ) (hs:σ[i]? = some (some (.ref a))) (h2:H a=some (.lst vs)) (h3:F a=none) (h5:aU K F us vs) :
  aB K (upd F a (.lst vs)) H (upd F a (.lst vs)) H σ ((hide τ).set i (some (.sh (.lst us)))):=by
 have sF:aO F (upd F a (.lst vs)):=ck h3
 have sH:aO (upd F a (.lst vs)) H:=fun b o eb=>by
  by_cases hb:b=a
  ·rw [hb,aR] at eb; cases eb; rw [hb]; exact h2
  ·rw [aJ hb] at eb; exact E.g.fh b o eb
 have rp:Rep K (upd F a (.lst vs)) (.lst us) (.ref a):=⟨a,vs,rfl,aR,aU.mono sF h5⟩
 have all:∀ {j:Nat} {s:Sl},((hide τ).set i (some (.sh (.lst us))))[j]? = some (some s) -> (∃ t,s=.sh t) /\ ∃ v,σ[j]? = some (some v) /\ ue K H (upd F a (.lst vs)) H s v:=fun {j s} e=>by
  by_cases hj:i=j
  ·subst hj
   by_cases hl:i < (hide τ).length
   ·rw [List.getElem?_set_self hl] at e; cases e
    exact ⟨⟨_,rfl⟩,_,hs,rp⟩
   ·rw [List.getElem?_eq_none (by simp; omega)] at e; cases e
  ·rw [List.getElem?_set_ne hj] at e
   obtain ⟨e1,t,rfl⟩:=ij e
   obtain ⟨v,k1,k2⟩:=E.sl j _ e1
   exact ⟨⟨t,rfl⟩,v,k1,Rep.mono sF k2⟩
 refine ⟨bj.refl sH,by simp [eM,E.len],fun j s e=>(all e).2,fun j k ts ws p _ e1=>?_⟩
 obtain ⟨t,z⟩:=(all e1).1
 cases z
theorem aB.drop {i:Nat} (E:aB K F₀ H₀ F H σ τ):aB K F₀ H₀ F H σ (τ.set i none):=by
 have key:∀ {j:Nat} {s:Sl},(τ.set i none)[j]? = some (some s) -> τ[j]? = some (some s):=fun {j s} e=>by
  by_cases hj:i=j
  ·subst hj
   by_cases hl:i < τ.length
   ·rw [List.getElem?_set_self hl] at e; cases e
   ·rw [List.getElem?_eq_none (by simp; omega)] at e; cases e
  ·rw [List.getElem?_set_ne hj] at e; exact e
 exact ⟨E.g,by simp [E.len],fun j s e=>E.sl j s (key e),fun j k ts us p hjk e1 e2=>E.dj j k ts us p hjk (key e1) (key e2)⟩
end
section
variable {X:Cx} {e:Expr} {pos:Pos}
theorem aU.put {K:PySem.W.Frag} {F:Hp}:∀ {ts:List T} {vs:List V} {t:T} {v:V} (j:Nat),aU K F ts vs -> Rep K F t v -> aU K F (ts.set j t) (vs.set j v)
 | [],_,_,_,_,h,_=>by cases h; rfl
 | t :: ts,_,_,_,0,h,r=>by
  obtain ⟨v,rr,rfl,h2,h3⟩:=h
  exact ⟨_,rr,rfl,r,h3⟩
 | t :: ts,_,_,_,j + 1,h,r=>by
  obtain ⟨v,rr,rfl,h2,h3⟩:=h
  exact ⟨v,_,rfl,h2,aU.put j h3 r⟩
def oy (i:Nat) (f g:FE):FS:=fun τ=>(f τ).bind fun p=>match p.2[i]? with
 | some (some _)=>(g p.2).bind fun r=>match r.2[i]?,r.1 with
  | some (some (.own us)),.int k=>(yI us.length k).bind fun j=>some (.nx (r.2.set i (some (.own (us.set j p.1)))))
  | _,_=>none
 | _=>none
theorem B5 (i:Nat) {x:Str} {p1 p2:Pos} {v:Expr} {f g:FE} (hv:PE X (.Name x p1) (ip i)) (hf:SE X v f) (hg:SE X e g)
  (ha:∀ u,assign (.Subscript (.Name x p1) e p2) X.env u=(do
   let ov <- holding [u] (eval (.Name x p1) X.env)
   let iv <- holding [u,ov] (eval e X.env)
   standAt p2
   holding [u,ov,iv] (setItem ov iv u)
   release [u,ov,iv] []):=by intro _; rfl)
  (hs:swapsWithSole [.Subscript (.Name x p1) e p2] v pos.line X.env=pure false:=by rfl) (hw:swappedStores [.Subscript (.Name x p1) e p2] v X.env=pure none:=by rfl)
  (h1:(assignEach [.Subscript (.Name x p1) e p2] X.env).map (·.2)=[assign (.Subscript (.Name x p1) e p2) X.env]:=by rfl) :
  SS X (.Assign [.Subscript (.Name x p1) e p2] v pos) (oy i f g):=fun F₀ H₀=>PS.weak (xB (hf F₀ H₀) (GO hv (hg F₀ H₀) set_list ha) hs hw h1) fun D σ H hq__=>by
 obtain ⟨F,τ,r,E,e1,q⟩:=hq__
 obtain ⟨⟨t,τ1⟩,e2,e1⟩:=bind_some e1
 refine ⟨F,τ,t,τ1,E,e2,fun F1 H1 w E1 s1 r1=>?_⟩
 dsimp only at e1
 split at e1
 ·next s e3 =>
  obtain ⟨⟨y,τ2⟩,e4,e1⟩:=bind_some e1
  obtain ⟨v0,g1,_⟩:=E1.sl i _ e3
  refine ⟨v0,g1,F1,τ1,y,τ2,E1,e4,fun F2 H2 w2 E2 s2 r2=>?_⟩
  dsimp only at e1
  split at e1
  ·next _ us k e5 =>
   obtain ⟨j,e7,e1⟩:=bind_some e1
   cases e1
   cases r2
   obtain ⟨v',k1,p,vs,rfl,k2,k3,k4,k5⟩:=E2.sl i _ e5
   rw [g1] at k1; cases k1
   exact ⟨p,vs,k,j,rfl,rfl,k2,by rw [k5.length]; exact e7,q F2 _ σ (E2.turnOwn e5 g1 (k5.put j (Rep.mono s2 r1))) (s1.trans s2)⟩
  ·cases e1
 ·cases e1
end
section
variable {P:Program} {w:World} {K:PySem.W.Frag} {mg:Str -> Option Value} {base:Heap}
end
open PySem PySem.Spec PyProof.Rows L2
section
variable {prog:Program} {w:World} {A:Around} {E:Value -> Shared -> Prop} {s:Shared}
end
section
variable {X:Cx}
end
open PySem PySem.Spec PyProof.Rows L2
section
variable {X:Cx}
end
open PySem PySem.Spec PyProof.Rows L2
def CY (f:Str):List Str -> List T -> Option T
 | n :: ns,t :: ts=>if f=n then some t else CY f ns ts
 | _,_=>none
theorem yE {K:PySem.W.Frag} {F:Hp} {f:Str}:∀ {ns:List Str} {ts:List T} {vs:List V} {t:T},aU K F ts vs -> CY f ns ts=some t -> ∃ v,(ns.zip vs).lookup f=some v /\ Rep K F t v
 | [],_,_,_,_,e=>by cases e
 | n :: ns,[],_,_,_,e=>by cases e
 | n :: ns,t :: ts,_,u,r,e=>by
  obtain ⟨v,rr,rfl,h1,h2⟩:=r
  unfold CY at e
  rw [List.zip_cons_cons,List.lookup_cons]
  by_cases h:f=n
  ·rw [if_pos h] at e
   cases e
   rw [beq_iff_eq.mpr h]
   exact ⟨v,rfl,h1⟩
  ·rw [if_neg h] at e
   rw [beq_eq_false_iff_ne.mpr h]
   exact yE h2 e
theorem ko {f:Str}:∀ {ns:List Str} {vs:List V},f ∉ ns -> (ns.zip vs).lookup f=none
 | [],_,_=>by simp
 | n :: ns,[],_=>by simp
 | n :: ns,v :: vs,h=>by
  rw [List.zip_cons_cons,List.lookup_cons,beq_eq_false_iff_ne.mpr (show f ≠ n from fun z=>h (by rw [z]; exact List.mem_cons_self))]
  exact ko fun m=>h (List.mem_cons_of_mem _ m)
theorem vG {f:Str} {y:V}:∀ {ns:List Str} {vs:List V},f ∉ ns -> vs.length=ns.length -> iI f y (ns.zip vs)=(ns ++ [f]).zip (vs ++ [y])
 | [],[],_,_=>rfl
 | [],_ :: _,_,h=>by cases h
 | _ :: _,[],_,h=>by cases h
 | n :: ns,v :: vs,h,hl=>by
  rw [List.zip_cons_cons,show iI f y ((n,v) :: ns.zip vs)=(if n=f then (n,y) :: ns.zip vs else (n,v) :: iI f y (ns.zip vs)) from rfl,if_neg (show ¬ n=f from fun z=>h (by rw [z]; exact List.mem_cons_self)),vG (fun m=>h (List.mem_cons_of_mem _ m)) (by simpa using hl)]
  rfl
section
variable {X:Cx} {e:Expr} {es:List Expr} {pos:Pos}
def A3 (Cs:List Addr) (f:Str) (fe:FE):FE:=fun τ=>(fe τ).bind fun p=>match p.1 with
 | .obj C ns ts=>if C ∈ Cs then (CY f ns ts).bind fun t=>some (t,p.2) else none
 | _=>none
theorem xH {Cs:List Addr} {f:Str} {fe:FE} (hC:∀ C ∈ Cs,mX X.K C /\ fu X.K C f) (he:SE X e fe) (hb:attributeBase e f X.env (eval e X.env)=eval e X.env:=by rfl):SE X (.Attribute e f pos) (A3 Cs f fe):=
 fun F₀ H₀=>PE.weak (GG (he F₀ H₀) hb) fun σ H Q h=>by
  obtain ⟨F,τ,t,τ',E,e1,q⟩:=h
  obtain ⟨⟨x,τ1⟩,e2,e1⟩:=bind_some e1
  dsimp only at e1
  split at e1
  ·next C ns ts =>
   split at e1
   ·next hm =>
    obtain ⟨u,e3,e1⟩:=bind_some e1
    cases e1
    refine ⟨F,τ,_,_,E,e2,fun F1 H1 v E1 s1 r1=>?_⟩
    obtain ⟨a,dx,vs,rfl,h1,h2,h3⟩:=r1
    obtain ⟨w,l1,l2⟩:=yE h3 e3
    exact ⟨a,C,dx,_,w,rfl,E1.g.fh _ _ h1,(hC C hm).1,(hC C hm).2,l1,q F1 H1 w E1 s1 l2⟩
   ·cases e1
  ·cases e1
end
structure ja (P:Program) (w:World) (K:PySem.W.Frag) (mg:Str -> Option Value) (base:Heap) (k:Nat) (C:Addr) (m:Str) (n:Nat) (d:List T -> Option T):Prop where
 cl:mX K C
 ex:∃ f fd ps,gb P w K mg base nC k f fd ps (spT K n d) /\ Binds K fd ps [] /\ Meth K C m f /\ ps.length=n
section
variable {P:Program} {w:World} {K:PySem.W.Frag} {mg:Str -> Option Value} {base:Heap} {j k n:Nat} {C:Addr} {m:Str}
theorem ja.imp {d d':List T -> Option T} (D:ja P w K mg base k C m n d) (h:∀ ts t,d' ts=some t -> d ts=some t):ja P w K mg base k C m n d':=by
 obtain ⟨f,fd,ps,F,r⟩:=D.ex
 exact ⟨D.cl,f,fd,ps,F.imp fun vs H Q E z=>by
  obtain ⟨l,F,ts,t,a,b,c,q⟩:=z
  exact ⟨l,F,ts,t,a,b,h _ _ c,q⟩,r⟩
theorem ja.mono {d:List T -> Option T} (D:ja P w K mg base j C m n d) (h:j ≤ k):ja P w K mg base k C m n d:=by
 obtain ⟨f,fd,ps,F,r⟩:=D.ex
 exact ⟨D.cl,f,fd,ps,F.mono h,r⟩
theorem yR {x qual:Str} {st:Stmt} {f:Addr} {fd:FuncData} {N ps:List Str} {fb:FS} (F:eY K x qual st f fd) (S:aQ N ps (aw st)) (hb:Binds K fd ps []) (cl:mX K C) (hm:Meth K C m f)
  (h:∀ (cdv:Value) (A:Around) (outer:List Env) (s:Shared) (H:Hp) (E:XK),dz k (A.deeper (envOfC qual (aw st) s.heap.objs.size f cdv)) -> ud (m5 nC P w K mg base N qual (aw st) f cdv A outer s H E).nox (dF st) fb) :
  ja P w K mg base (k + 1) C m ps.length (cz N.length ps.length fb):=by
 refine ⟨cl,f,fd,ps,F.ok S (fun vs H Q E z=>z.1) (fun cdv A outer s H vs Q E hr z=>?_),hb,hm,rfl⟩
 obtain ⟨hl,F1,ts,t,sm,r,e,q⟩:=z
 unfold cz at e
 split at e
 ·next hn =>
  obtain ⟨r',e1,e⟩:=bind_some e
  refine ⟨_,h cdv A outer s H E hr F1 H,F1,_,r',?_,e1,?_⟩
  ·have:=gk (N:=N) sm r
   rw [hn] at this
   exact this
  ·cases r' with
   | rt u=>cases e; exact fun F' H' v g r'=>q F' H' v g r'
   | nx τ=>cases e; exact fun F' H' σ' E' s'=>q F' H' .non E'.g rfl
   | bk τ=>cases e
   | ct τ=>cases e
 ·cases e
end
section
variable {X:Cx} {o e:Expr} {es:List Expr} {pos apos:Pos} {g:FA} {fo:FE} {k n:Nat} {m:Str}
def uA (C:Addr):List (Addr × (List T -> Option T)) -> Option (List T -> Option T)
 | []=>none
 | a :: r=>if C=a.1 then some a.2 else uA C r
theorem qG {C:Addr} {d:List T -> Option T}:∀ {l:List (Addr × (List T -> Option T))},uA C l=some d -> (C,d) ∈ l
 | [],h=>by cases h
 | a :: r,h=>by
  unfold uA at h
  split at h
  ·next e=>cases h; subst e; exact List.mem_cons_self
  ·exact List.mem_cons_of_mem _ (qG h)
def fP (alts:List (Addr × (List T -> Option T))) (m:Str) (fo:FE) (g:FA):FE:=fun τ=>(fo τ).bind fun p=>match p.1 with
 | .obj C ns ts=>if m ∈ ns then none else (uA C alts).bind fun d=>(g p.2).bind fun q=>(d (.obj C ns ts :: q.1)).bind fun t=>some (t,q.2)
 | _=>none
theorem zZ {alts:List (Addr × (List T -> Option T))} {F₀ H₀:Hp} {σ:L2.St} {H:Hp} {Q:VK} (h:tE X.K F₀ H₀ (fP alts m fo g) σ H Q) (hl:∀ τ ts τ',g τ=some (ts,τ') -> ts.length + 1=n) :
  ∃ C d,(C,d) ∈ alts /\ Fd C m (spT X.K n d) [] E0 (tE X.K F₀ H₀ fo) (tA X.K F₀ H₀ g) σ H Q:=by
 obtain ⟨F,τ,t,τ',E,e1,q⟩:=h
 obtain ⟨⟨x,τ1⟩,e2,e1⟩:=bind_some e1
 dsimp only at e1
 split at e1
 ·next C ns ts =>
  split at e1
  ·cases e1
  ·next hm =>
   obtain ⟨d,e3,e1⟩:=bind_some e1
   obtain ⟨⟨us,τ2⟩,e4,e1⟩:=bind_some e1
   obtain ⟨u,e5,e1⟩:=bind_some e1
   cases e1
   refine ⟨C,d,qG e3,F,τ,_,τ1,E,e2,fun F1 H1 v E1 s1 r1=>?_⟩
   obtain ⟨a,dx,vs,rfl,h1,h2,h3⟩:=id r1
   refine ⟨a,dx,_,rfl,E1.g.fh _ _ h1,ko hm,F1,τ1,us,_,E1,e4,fun F2 H2 ws E2 s2 r2=>?_⟩
   refine ⟨by rw [List.append_nil,List.length_cons,r2.length]; exact hl _ _ _ e4,F2,.obj C ns ts :: us,_,E2.g.fh,⟨_,_,rfl,Rep.mono s2 r1,by rw [List.append_nil]; exact r2⟩,e5,fun F3 H3 v3 g3 r3=>?_⟩
   exact q F3 H3 v3 (E2.grow g3) ((s1.trans s2).trans g3.sF) r3
 ·cases e1
theorem lE {pl:Sem Bool} {alts:List (Addr × (List T -> Option T))} (hD:∀ a ∈ alts,ja X.prog X.w X.K X.mg X.base k a.1 m 1 a.2) (hr:dz k X.A) (he:SE X o fo)
  (ht:eval (.Call (.Attribute o m apos) [] [] pos) X.env=(do
   let ov <- eval o X.env
   standAt apos.atName
   let (f,first) <- holding [ov] (getMethod ov m pl)
   callWith pos f first (backTo pos (starEach [] X.env)) (backToKw pos (keywordEach [] X.env))):=by rfl) :
  SE X (.Call (.Attribute o m apos) [] [] pos) (fP alts m fo ao):=by
 intro F₀ H₀ pins s σ H Q I h
 obtain ⟨C,d,hm,h'⟩:=zZ (n:=1) h (fun τ ts τ' e=>by cases e; rfl)
 have D:=hD _ hm
 obtain ⟨f,fd,ps,Fk,hb,hme,hn⟩:=D.ex
 refine vC (E:=E0) (CX:=nC) (he F₀ H₀) D.cl hme Fk hr hb .nil vB ht pins s σ H Q I ?_
 obtain ⟨F,τ,t,τ',E,e1,q⟩:=h'
 refine ⟨F,τ,t,τ',E,e1,fun F1 H1 v E1 s1 r1=>?_⟩
 obtain ⟨a,dx,fs,h1,h2,h3,F2,τ2,us,τ3,E2,e2,q2⟩:=q F1 H1 v E1 s1 r1
 cases e2
 exact ⟨a,dx,fs,h1,h2,h3,q2 F2 H1 [] E2 (aO.refl _) rfl⟩
end
abbrev wg:=List Str × List T
def LC (K:PySem.W.Frag) (C:Addr) (n:Nat) (d:List T -> Option wg):Sp:=fun vs H Q _=>vs.length=n + 1 /\ ∃ F x dx ws ts r,vs=.ref x :: ws /\ H x=some (.ins C dx []) /\ F x=none /\ aO F H /\ aU K F ts ws /\ d ts=some r /\
 ∀ F' H' us,bj F (oo H [x]) F' H' -> H' x=some (.ins C dx (r.1.zip us)) -> F' x=none -> us.length=r.1.length -> aU K F' r.2 us -> Q .non H'
structure nY (P:Program) (w:World) (K:PySem.W.Frag) (mg:Str -> Option Value) (base:Heap) (k:Nat) (x:Str) (C:Addr) (n:Nat) (d:List T -> Option wg):Prop where
 ex:∃ j f fd ps,k=j + 1 /\ Mk K C f /\ gb P w K mg base nC j f fd ps (LC K C n d) /\ Binds K fd ps [] /\ mg x=some (.ref C) /\ ps.length=n + 1
theorem nY.mono {P:Program} {w:World} {K:PySem.W.Frag} {mg:Str -> Option Value} {base:Heap} {j k n:Nat} {x:Str} {C:Addr} {d:List T -> Option wg} (D:nY P w K mg base j x C n d) (h:j ≤ k):nY P w K mg base k x C n d:=by
 obtain ⟨i,f,fd,ps,hj,M,F,r⟩:=D.ex
 exact ⟨k - 1,f,fd,ps,by omega,M,F.mono (by omega),r⟩
theorem nY.imp {P:Program} {w:World} {K:PySem.W.Frag} {mg:Str -> Option Value} {base:Heap} {k n:Nat} {x:Str} {C:Addr} {d d':List T -> Option wg} (D:nY P w K mg base k x C n d) (h:∀ ts r,d' ts=some r -> d ts=some r):nY P w K mg base k x C n d':=by
 obtain ⟨i,f,fd,ps,hj,M,F,r⟩:=D.ex
 exact ⟨i,f,fd,ps,hj,M,F.imp fun vs H Q E z=>by
  obtain ⟨l,F,x,dx,ws,ts,r,a,b,c,dd,e,g,q⟩:=z
  exact ⟨l,F,x,dx,ws,ts,r,a,b,c,dd,e,h _ _ g,q⟩,r⟩
section
variable {X:Cx} {e:Expr} {es:List Expr} {pos:Pos} {g:FA}
def yB (C:Addr) (d:List T -> Option wg) (g:FA):FE:=fun τ=>(g τ).bind fun p=>(d p.1).bind fun r=>some (.obj C r.1 r.2,p.2)
theorem DZ {k n:Nat} {x:Str} {p:Pos} {C:Addr} {d:List T -> Option wg} (D:nY X.prog X.w X.K X.mg X.base k x C n d) (hr:dz k X.A) (hg:Gl X x) (ha:SA X (e :: es) g) (hl:∀ τ ts τ',g τ=some (ts,τ') -> ts.length=n) (hdb:(x == ("__debug__" : Str))=false:=by decide)
  (he:starEach (e :: es) X.env=(false,eval e X.env) :: starEach es X.env:=by rfl) (hpl:(backTo pos (starEach es X.env)).any (·.1)=false:=by rfl):SE X (.Call (.Name x p) (e :: es) [] pos) (yB C d g):=by
 obtain ⟨j,f,fd,ps,hj,M,Fk,hb,hm,hn⟩:=D.ex
 subst hj
 intro F₀ H₀
 refine PE.weak (DK (E:=E0) (CX:=nC) M Fk hr hg hm hb .nil vB (ha F₀ H₀) hdb he hpl) fun σ H Q h=>?_
 obtain ⟨F,τ,t,τ',E,e1,q⟩:=h
 obtain ⟨⟨ts,τ1⟩,e2,e1⟩:=bind_some e1
 obtain ⟨r,e3,e1⟩:=bind_some e1
 cases e1
 refine ⟨F,τ,ts,_,E,e2,fun F1 H1 vs E1 s1 r1=>fun a dx na ndx ne=>?_⟩
 have fa:F1 a=none:=E1.g.fh.free na
 have fd':F1 dx=none:=E1.g.fh.free ndx
 have sm:aO F1 (upd (upd H1 dx (.own a)) a (.ins C dx [])):=fun b o z=>by
  rw [aJ (bK z fa),aJ (bK z fd')]
  exact E1.g.fh b o z
 have sm1:aO H1 (upd (upd H1 dx (.own a)) a (.ins C dx [])):=fun b o z=>by
  rw [aJ (bK z na),aJ (bK z ndx)]
  exact z
 refine ⟨by rw [List.append_nil,List.length_cons,r1.length,hl _ _ _ e2],F1,a,dx,vs,ts,r,by rw [List.append_nil],aR,fa,sm,r1,e3,fun F' H' us gr hx fx hlu ru=>⟨rfl,?_⟩⟩
 have sF:aO F' (upd F' a (.ins C dx (r.1.zip us))):=ck fx
 have g2:bj F1 H1 (upd F' a (.ins C dx (r.1.zip us))) H':=by
  refine ⟨gr.sF.trans sF,fun b o z=>gr.sH b o ?_,fun b o z=>?_,fun b o z=>?_⟩
  ·rw [dO (fun m=>by rw [List.mem_singleton.mp m,na] at z; cases z)]
   exact sm1 b o z
  ·by_cases hb:b=a
   ·rw [hb,aR] at z; cases z; rw [hb]; exact hx
   ·rw [aJ hb] at z; exact gr.fh b o z
  ·by_cases hb:b=a
   ·exact .inr (by rw [hb]; exact na)
   ·rw [aJ hb] at z
    rcases gr.nw b o z with y | y
    ·exact .inl y
    ·rw [dO (fun m=>hb (List.mem_singleton.mp m))] at y
     exact .inr (sm1.free y)
 exact q _ H' (.ref a) (E1.grow g2) (s1.trans g2.sF) ⟨a,dx,us,rfl,aR,hlu,aU.mono sF ru⟩
end
abbrev FI:=aH -> List Str -> List T -> Option wg
def LH (K:PySem.W.Frag) (C x:Addr) (F₀ H₀:Hp) (f:FI):TS:=fun D σ H=>∃ F τ ns us vs dx r,aB K F₀ H₀ F H σ τ /\ cg τ=true /\ τ[0]? = some (some (.sh (.ptr x))) /\ H x=some (.ins C dx (ns.zip vs)) /\ F x=none /\ H₀ x=none /\ vs.length=ns.length /\ ns.length < 1000 /\ aU K F us vs /\ f τ ns us=some r /\
 ∀ F' H' σ' us',bj F₀ H₀ F' H' -> H' x=some (.ins C dx (r.1.zip us')) -> F' x=none -> us'.length=r.1.length -> aU K F' r.2 us' -> D.nx σ' H'
def Hm (X:Cx) (C:Addr) (ss:List Stmt) (f:Addr -> FI):Prop:=∀ x F₀ H₀,ir X ss (LH X.K C x F₀ H₀ (f x))
section
variable {X:Cx} {C:Addr} {e:Expr} {rest:List Stmt} {pos:Pos}
def Iq:Addr -> FI:=fun _ _ ns us=>some (ns,us)
theorem D7:Hm X C [] Iq:=fun x F₀ H₀=>ir.weak tM fun D σ H h=>by
 obtain ⟨F,τ,ns,us,vs,dx,r,E,ha,h0,hx,fx,h0x,hl,hk,ru,e1,q⟩:=h
 cases e1
 exact q F H σ vs E.g hx fx hl ru
def C7 (f:Str) (fe:FE) (fr:Addr -> FI):Addr -> FI:=fun x τ ns us=>(fe τ).bind fun p=>if cg p.2=true /\ ¬ f ∈ ns /\ ns.length < 999 then match (p.2[0]? : Option (Option Sl)) with
 | some (some (.sh (.ptr y)))=>if y=x then fr x p.2 (ns ++ [f]) (us ++ [p.1]) else none
 | _=>none else none
theorem D6 {f:Str} {fe:FE} {fr:Addr -> FI} {y:Str} {p1 p2:Pos} (hc:mX X.K C) (hn:fu X.K C f) (hy:PE X (.Name y p1) (ip 0)) (he:SE X e fe) (hr:Hm X C rest fr)
  (hs:swapsWith e (some (.Attribute (.Name y p1) f p2)) pos.line X.env=pure false:=by rfl):Hm X C (.Assign [.Attribute (.Name y p1) f p2] e pos :: rest) (C7 f fe fr):=fun x F₀ H₀=>ir.weak (cX (GS hy he.any hs) (hr x F₀ H₀)) fun D σ H h=>by
 obtain ⟨F,τ,ns,us,vs,dx,r,E,ha,h0,hx,fx,h0x,hl,hk,ru,e1,q⟩:=h
 obtain ⟨⟨t,τ1⟩,e2,e1⟩:=bind_some e1
 dsimp only at e1
 split at e1
 ·next hc1 =>
  split at e1
  ·next y1 hp1 =>
   split at e1
   ·next hyx =>
    subst hyx
    refine ⟨F,H,F,τ,t,τ1,E.rebase ha E.g.fh,e2,fun F1 H1 w E1 s1 r1=>?_⟩
    have hx1:=E1.g.sH _ _ hx
    have fx1:F1 y1=none:=by
     cases eF:F1 y1 with
     | none=>rfl
     | some o =>
      rcases E1.g.nw _ o eF with z | z
      ·rw [fx] at z; cases z
      ·rw [hx] at z; cases z
    obtain ⟨v0,k1,k2⟩:=E.sl 0 _ h0
    cases (show v0=.ref y1 from k2)
    refine ⟨_,k1,y1,C,dx,_,rfl,hx1,hc,hn,by rw [List.length_zip]; omega,?_⟩
    rw [vG hc1.2.1 hl]
    have E2:aB X.K F₀ H₀ F1 (upd H1 y1 (.ins C dx ((ns ++ [f]).zip (vs ++ [w])))) σ τ1:=by
     refine E1.to hc1.1 (aO.refl _) ⟨E.g.sF.trans E1.g.sF,fun b o z=>?_,fun b o z=>?_,fun b o z=>?_⟩
     ·rw [aJ (fun y=>by rw [y,h0x] at z; cases z)]
      exact E1.g.sH _ _ (E.g.sH _ _ z)
     ·rw [aJ (fun y=>by rw [y,fx1] at z; cases z)]
      exact E1.g.fh _ _ z
     ·rcases E1.g.nw b o z with y | y
      ·exact E.g.nw b o y
      ·exact .inr (E.g.sH.free y)
    refine ⟨F1,τ1,ns ++ [f],us ++ [t],vs ++ [w],dx,r,E2,hc1.1,hp1,aR,fx1,h0x,by simp [hl],by rw [List.length_append]; simp only [List.length_cons,List.length_nil]; omega,(aU.mono E1.g.sF ru).append (.one r1),e1,q⟩
   ·cases e1
  ·cases e1
 ·cases e1
def Bk (t:FS) (fr:Addr -> FI):Addr -> FI:=fun x τ ns us=>(t τ).bind fun r=>match r with
 | .nx τ1=>if cg τ1=true then match (τ1[0]? : Option (Option Sl)) with
  | some (some (.sh (.ptr y)))=>if y=x then fr x τ1 ns us else none
  | _=>none else none
 | _=>none
theorem zk {st:Stmt} {t:FS} {fr:Addr -> FI} (hst:SS X st t) (hr:Hm X C rest fr):Hm X C (st :: rest) (Bk t fr):=fun x F₀ H₀=>ir.weak (cX hst.any (hr x F₀ H₀)) fun D σ H h=>by
 obtain ⟨F,τ,ns,us,vs,dx,r,E,ha,h0,hx,fx,h0x,hl,hk,ru,e1,q⟩:=h
 obtain ⟨r1,e2,e1⟩:=bind_some e1
 refine ⟨F,H,F,τ,r1,E.rebase ha E.g.fh,e2,?_⟩
 cases r1 with
 | nx τ1 =>
  dsimp only at e1
  split at e1
  ·next hs =>
   split at e1
   ·next y1 hp1 =>
    split at e1
    ·next hyx =>
     subst hyx
     refine fun F1 H1 σ1 E1 s1=>?_
     have hx1:=E1.g.sH _ _ hx
     have fx1:F1 y1=none:=by
      cases eF:F1 y1 with
      | none=>rfl
      | some o =>
       rcases E1.g.nw _ o eF with z | z
       ·rw [fx] at z; cases z
       ·rw [hx] at z; cases z
     exact ⟨F1,τ1,ns,us,vs,dx,r,E1.back hs E.g,hs,hp1,hx1,fx1,h0x,hl,hk,aU.mono E1.g.sF ru,e1,q⟩
    ·cases e1
   ·cases e1
  ·cases e1
 | rt t=>cases e1
 | bk t=>cases e1
 | ct t=>cases e1
end
def CO (m n:Nat) (fb:Addr -> FI) (ts:List T) (r:wg):Prop:=ts.length=n /\ ∀ x:Addr,fb x (some (.sh (.ptr x)) :: (ts.map (fun t=>some (Sl.sh t)) ++ List.replicate (m - (n + 1)) none)) [] []=some r
open Classical in
def dI (m n:Nat) (fb:Addr -> FI):List T -> Option wg:=fun ts=>if h:∃ r,CO m n fb ts r then some h.choose else none
theorem HQ {m n:Nat} {fb:Addr -> FI} {ts:List T} {r:wg} (h:CO m n fb ts r):dI m n fb ts=some r:=by
 unfold dI
 have hh:∃ r,CO m n fb ts r:=⟨r,h⟩
 rw [dif_pos hh]
 have h1:=hh.choose_spec.2 0
 rw [h.2 0] at h1
 exact h1.symm
theorem Fu {m n:Nat} {fb:Addr -> FI} {ts:List T} {r:wg} (h:dI m n fb ts=some r):CO m n fb ts r:=by
 unfold dI at h
 split at h
 ·next hh=>cases h; exact hh.choose_spec
 ·cases h
theorem lO:∀ (ts:List T) (j:Nat),cg (ts.map (fun t=>some (Sl.sh t)) ++ List.replicate j none)=true
 | [],0=>rfl
 | [],j + 1=>by rw [List.replicate_succ]; exact lO [] j
 | t :: ts,j=>lO ts j
theorem C8 {P:Program} {w:World} {K:PySem.W.Frag} {mg:Str -> Option Value} {base:Heap} {k n:Nat} {x cx:Str} {C:Addr} {qual:Str} {st:Stmt} {f:Addr} {fd:FuncData} {N ps:List Str} {fb:Addr -> FI} (F:eY K x qual st f fd) (S:aQ N ps (aw st)) (hb:Binds K fd ps []) (M:Mk K C f) (hm:mg cx=some (.ref C)) (hn:ps.length=n + 1)
  (h:∀ (cdv:Value) (A:Around) (outer:List Env) (s:Shared) (H:Hp) (E:XK),dz k (A.deeper (envOfC qual (aw st) s.heap.objs.size f cdv)) -> Hm (m5 nC P w K mg base N qual (aw st) f cdv A outer s H E).nox C (dF st) fb) :
  nY P w K mg base (k + 2) cx C n (dI N.length n fb):=by
 refine ⟨k + 1,f,fd,ps,rfl,M,F.ok S (fun vs H Q E z=>by rw [hn]; exact z.1) (fun cdv A outer s H vs Q E hr z=>?_),hb,hm,hn⟩
 obtain ⟨hl,F1,a,dx,ws,ts,r,rfl,hx,fx,sm,rw1,e,q⟩:=z
 obtain ⟨hlen,hf⟩:=Fu e
 refine ⟨_,h cdv A outer s H E hr a F1 (oo H [a]),?_⟩
 have r1:aU K F1 (.ptr a :: ts) (.ref a :: ws):=⟨_,_,rfl,rfl,rw1⟩
 have E0:=gk (N:=N) sm r1
 have hsh:cg ((T.ptr a :: ts).map (fun t=>some (Sl.sh t)) ++ List.replicate (N.length - (T.ptr a :: ts).length) none)=true:=lO _ _
 have g0:bj F1 (oo H [a]) F1 H:=⟨aO.refl _,zN,sm,fun _ _ z=>.inl z⟩
 have E1:=E0.to hsh (aO.refl _) g0
 refine ⟨F1,_,[],[],[],dx,r,E1,hsh,rfl,hx,fx,kM List.mem_cons_self,rfl,by decide,rfl,?_,fun F' H' σ' us' g' h1 h2 h3 h4=>q F' H' us' g' h1 h2 h3 h4⟩
 have:=hf a
 rw [<- hlen] at this
 exact this
open PySem PySem.Spec PyProof.Rows L2
structure K5 (K:PySem.W.Frag) (Ct C:Addr) (b:Bool):Prop where
 cl:mX K C
 ha:PySem.W.findIn K (.ref C) "__class__" = some (some (.builtin "object.__class__"))
 hn:PySem.W.specialIn K (.builtin "object.__class__") "__get__" = some (some (.builtin "getset_descriptor.__get__"))
 htk:PySem.W.takesIn K (.builtin "object.__class__")=some true
 hm:PySem.W.mroIn K C (.type "object")=some true
 kit:PySem.W.kitOne K (.ref C) (.ref Ct)=some b
section
variable {X:Cx} {e:Expr} {pos:Pos}
structure Ll (K:PySem.W.Frag) (C:Addr):Prop where
 makes:PySem.W.makesIn K C=true
 init:PySem.W.findIn K (.ref C) "__init__" = some (some (.builtin "object.__init__"))
 kp:PySem.W.keepIn K (.ref C)=true
end
open PySem PySem.Spec PyProof.Rows L2
section
variable {X:Cx} {e:Expr} {pos:Pos} {f:FE}
end
open PySem PySem.Spec PyProof.Rows L2
structure pV (K:PySem.W.Frag) (F₀ H₀ F H:Hp) (σ:L2.St) (τ:aH) (x:Nat) (p:Addr) (tss:List (List T)) (A:List Addr):Prop where
 E:aB K F₀ H₀ F H σ τ
 hx:τ[x]? = some (some (.sh (.ptr p)))
 r:cv K F H (.lst (tss.map vJ)) (.ref p) A
 nd:A.Nodup
 h0:∀ a ∈ A,H₀ a=none
 ap:Apart σ τ A
section
variable {K:PySem.W.Frag} {F₀ H₀ F H F' H':Hp} {σ σ':L2.St} {τ τ':aH} {x:Nat} {p:Addr} {tss:List (List T)} {A:List Addr}
theorem pV.lies (D:pV K F₀ H₀ F H σ τ x p tss A) {a:Addr} (ha:a ∈ A):F a=none /\ ∃ vs,H a=some (.lst vs):=D.r.at a ha
theorem pV.lend (D:pV K F₀ H₀ F H σ τ x p tss A):aB K F₀ (frzO H₀ H A) F H σ τ:=by
 refine ⟨⟨D.E.g.sF,fun a o e=>?_,D.E.g.fh,fun a o e=>?_⟩,D.E.len,fun i s e=>?_,D.E.dj⟩
 ·by_cases m:a ∈ A
  ·rw [cI m] at e; exact e
  ·rw [bB m] at e; exact D.E.g.sH _ _ e
 ·have m:a ∉ A:=fun m=>by rw [(D.lies m).1] at e; cases e
  rcases D.E.g.nw a o e with z | z
  ·exact .inl z
  ·exact .inr (by rw [bB m]; exact z)
 ·obtain ⟨v,h1,h2⟩:=D.E.sl i s e
  refine ⟨v,h1,?_⟩
  cases s with
  | sh t=>exact h2
  | own ts =>
   obtain ⟨q,vs,rfl,k1,k2,k3,k4⟩:=h2
   exact ⟨q,vs,rfl,k1,k2,by rw [bB (D.ap i ts q e h1)]; exact k3,k4⟩
theorem pV.back (D:pV K F₀ H₀ F H σ τ x p tss A) (E':aB K F₀ (frzO H₀ H A) F' H' σ' τ') (s:aO F F') (hx:τ'[x]? = some (some (.sh (.ptr p)))):pV K F₀ H₀ F' H' σ' τ' x p tss A:=by
 have out:∀ {a:Addr},frzO H₀ H A a=none -> a ∉ A /\ H₀ a=none:=fun {a} e=>by
  have m:a ∉ A:=fun m=>by
   obtain ⟨vs,k⟩:=(D.lies m).2
   rw [cI m,k] at e; cases e
  exact ⟨m,by rw [bB m] at e; exact e⟩
 refine ⟨⟨⟨E'.g.sF,fun a o e=>?_,E'.g.fh,fun a o e=>?_⟩,E'.len,fun i s e=>?_,E'.dj⟩,hx,cv.move s (fun a ha=>?_) D.r,D.nd,D.h0,fun j us q e1 e2=>?_⟩
 ·have m:a ∉ A:=fun m=>by rw [D.h0 a m] at e; cases e
  exact E'.g.sH _ _ (by rw [bB m]; exact e)
 ·rcases E'.g.nw a o e with z | z
  ·exact .inl z
  ·exact .inr (out z).2
 ·obtain ⟨v,h1,h2⟩:=E'.sl i s e
  refine ⟨v,h1,?_⟩
  cases s with
  | sh t=>exact h2
  | own ts =>
   obtain ⟨q,vs,rfl,k1,k2,k3,k4⟩:=h2
   exact ⟨q,vs,rfl,k1,k2,(out k3).2,k4⟩
 ·obtain ⟨f1,vs,f2⟩:=D.lies ha
  refine ⟨by rw [f2]; exact E'.g.sH _ _ (by rw [cI ha]; exact f2),?_⟩
  cases eF:F' a with
  | none=>rfl
  | some o =>
   rcases E'.g.nw a o eF with z | z
   ·rw [D.E.g.sF _ _ z] at f1; cases f1
   ·exact absurd ha (out z).1
 ·obtain ⟨v,h1,q',vs,rfl,k1,k2,k3,k4⟩:=E'.sl j _ e1
  rw [e2] at h1; cases h1
  exact (out k3).1
theorem pV.grow (D:pV K F₀ H₀ F H σ τ x p tss A) (g:bj F H F' H'):pV K F₀ H₀ F' H' σ τ x p tss A:=⟨D.E.grow g,D.hx,D.r.over g,D.nd,D.h0,D.ap⟩
theorem pV.held (D:pV K F₀ H₀ F H σ τ x p tss A):eO K F₀ H₀ F H p (tss.map vJ) A:=⟨D.E.g,D.r,D.nd,D.h0⟩
theorem pV.get (D:pV K F₀ H₀ F H σ τ x p tss A):σ[x]? = Option.some (Option.some (.ref p)):=by
 obtain ⟨v,h1,h2⟩:=D.E.sl x _ D.hx
 have:v=.ref p:=h2
 rw [h1,this]
end
abbrev FD:=Addr -> List (List T) -> aH -> Option (List (List T) × aH)
def jg (x:Nat) (p:Addr) (τ:aH):Bool:=match τ[x]? with
 | some (some (.sh (.ptr q)))=>Nat.beq q p
 | _=>false
theorem kR {x:Nat} {p:Addr} {τ:aH} (h:jg x p τ=true):τ[x]? = some (some (.sh (.ptr p))):=by
 unfold jg at h
 split at h
 ·next q e=>rw [e,Nat.eq_of_beq_eq_true h]
 ·cases h
theorem SG.any {X:Cx} {tg:Expr} {g:FG} (h:SG X tg g):PG X tg (fun v σ H Q=>∃ F₀ H₀,tG X.K F₀ H₀ g v σ H Q):=fun pins s σ H v u Q I r ⟨F₀,H₀,q⟩=>h F₀ H₀ pins s σ H v u Q I r q
section
variable {X:Cx} {e:Expr} {pos:Pos} {x:Nat}
def EE (x:Nat) (c:FT) (f g:FD):FD:=fun p tss τ=>(c τ).bind fun q=>if jg x p q.2=true then (if q.1=true then f p tss q.2 else g p tss q.2) else none
end
theorem vL {K:PySem.W.Frag} {F H:Hp}:∀ {tss:List (List T)} {vs:List V} {B:List Addr} {k:Nat} {q:Addr} {row:List T},aP K F H (tss.map vJ) vs B -> tss[k]? = some row -> vs[k]? = some (.ref q) -> q ∈ B
 | [],_,_,k,_,_,_,e,_=>by simp at e
 | r :: tss,vs,B,k,q,row,h,e,e'=>by
  obtain ⟨v,r',B1,C,rfl,rfl,h1,h2⟩:=h
  cases k with
  | zero =>
   cases e'
   obtain ⟨q',ws,B2,hq,rfl,_⟩:=h1
   cases hq
   exact List.mem_append_left _ List.mem_cons_self
  | succ k=>exact List.mem_append_right _ (vL h2 e e')
section
variable {K:PySem.W.Frag} {F₀ H₀ F H F' H':Hp} {σ σ':L2.St} {τ τ':aH} {x:Nat} {p:Addr} {tss:List (List T)} {A:List Addr}
theorem pV.upd (D:pV K F₀ H₀ F H σ τ x p tss A) {a:Addr} (ha:a ∈ A) (o:HO):aB K F₀ H₀ F (L2.upd H a o) σ τ:=by
 refine ⟨⟨D.E.g.sF,fun b u e=>?_,fun b u e=>?_,D.E.g.nw⟩,D.E.len,fun i s e=>?_,D.E.dj⟩
 ·rw [aJ (fun z=>by rw [z,D.h0 a ha] at e; cases e)]; exact D.E.g.sH _ _ e
 ·rw [aJ (fun z=>by rw [z,(D.lies ha).1] at e; cases e)]; exact D.E.g.fh _ _ e
 ·obtain ⟨v,h1,h2⟩:=D.E.sl i s e
  refine ⟨v,h1,?_⟩
  cases s with
  | sh t=>exact h2
  | own ts =>
   obtain ⟨q,vs,rfl,k1,k2,k3,k4⟩:=h2
   exact ⟨q,vs,rfl,by rw [aJ (show q ≠ a from fun z=>D.ap i ts q e h1 (by rw [z]; exact ha))]; exact k1,k2,k3,k4⟩
theorem pV.put (D:pV K F₀ H₀ F H σ τ x p tss A) {k l:Nat} {row:List T} {t:T} {w:V} (er:tss[k]? = some row) (r:Rep K F t w) :
  ∃ vs qa ws,H p=some (.lst vs) /\ vs[k]? = some (.ref qa) /\ H qa=some (.lst ws) /\ ws.length=row.length /\ vs.length=tss.length /\ pV K F₀ H₀ F (L2.upd H qa (.lst (ws.set l w))) σ τ x p (tss.set k (row.set l t)) A:=by
 obtain ⟨vs,qa,ws,h1,h2,h3,h4,h5⟩:=D.held.at er
 have S:=D.held.turnRow (us:=row.set l t) (ws:=ws.set l w) er h1 h2 (uc r l h4)
 obtain ⟨vs',B,hA,g1,g2,g3⟩:=D.held.root
 rw [h1] at g1; cases g1
 have m:qa ∈ A:=by rw [hA]; exact List.mem_cons_of_mem _ (vL g3 er h2)
 exact ⟨vs,qa,ws,h1,h2,h3,h4.length,h5,D.upd m _,D.hx,S.r,S.nd,S.h0,D.ap⟩
theorem pV.look (D:pV K F₀ H₀ F H σ τ x p tss A):aB K (frzO F H A) H (frzO F H A) H σ ((hide τ).set x (Option.some (.sh (.lst (tss.map T.lst))))):=by
 have sF:aO F (frzO F H A):=cG fun a ha=>(D.lies ha).1
 have sH:aO (frzO F H A) H:=fun b o eb=>by
  by_cases m:b ∈ A
  ·rw [cI m] at eb; exact eb
  ·rw [bB m] at eb; exact D.E.g.fh b o eb
 have rp:Rep K (frzO F H A) (.lst (tss.map T.lst)) (.ref p):=by
  have:=D.r.frz
  rw [O.tr,vX] at this
  exact this
 have all:∀ {j:Nat} {s:Sl},((hide τ).set x (Option.some (.sh (.lst (tss.map T.lst)))))[j]? = Option.some (Option.some s) -> (∃ t,s=.sh t) /\ ∃ v,σ[j]? = Option.some (Option.some v) /\ ue K H (frzO F H A) H s v:=fun {j s} e=>by
  by_cases hj:x=j
  ·subst hj
   by_cases hl:x < (hide τ).length
   ·rw [List.getElem?_set_self hl] at e; cases e
    exact ⟨⟨_,rfl⟩,_,D.get,rp⟩
   ·rw [List.getElem?_eq_none (by simp; omega)] at e; cases e
  ·rw [List.getElem?_set_ne hj] at e
   obtain ⟨e1,t,rfl⟩:=ij e
   obtain ⟨v,k1,k2⟩:=D.E.sl j _ e1
   exact ⟨⟨t,rfl⟩,v,k1,Rep.mono sF k2⟩
 refine ⟨bj.refl sH,by simp [eM,D.E.len],fun j s e=>(all e).2,fun j k ts ws p _ e1=>?_⟩
 obtain ⟨t,z⟩:=(all e1).1
 cases z
theorem oE (hF:∀ a ∈ A,F a=none) (g:bj (frzO F H A) H F' H'):bj F H (oo F' A) H':=by
 refine ⟨fun b u e=>?_,g.sH,fun b u e=>?_,fun b u e=>?_⟩
 ·have m:b ∉ A:=fun m=>by rw [hF b m] at e; cases e
  rw [dO m]
  exact g.sF b u (by rw [bB m]; exact e)
 ·by_cases m:b ∈ A
  ·rw [kM m] at e; cases e
  ·rw [dO m] at e; exact g.fh b u e
 ·by_cases m:b ∈ A
  ·rw [kM m] at e; cases e
  ·rw [dO m] at e
   rcases g.nw b u e with z | z
   ·rw [bB m] at z; exact .inl z
   ·exact .inr z
end
section
variable {X:Cx} {e:Expr} {pos:Pos} {x:Nat}
end
open PySem PySem.Spec PyProof.Rows L2
section
variable {X:Cx} {e:Expr} {pos:Pos}
end
open PySem PySem.Spec PyProof.Rows L2
inductive R2 where
 | nx (τ:aH) | ro (o:O)
def J9 (K:PySem.W.Frag) (F₀ H₀ F:Hp) (D:Ends):R2 -> Prop
 | .nx τ'=>∀ F' H' σ',aB K F₀ H₀ F' H' σ' τ' -> aO F F' -> D.nx σ' H'
 | .ro o=>∀ F' H' v A,bj F₀ H₀ F' H' -> cv K F' H' o v A -> A.Nodup -> (∀ a ∈ A,H₀ a=none) -> D.rt v H'
theorem J9.mono {K:PySem.W.Frag} {F₀ H₀ F F':Hp} {D:Ends}:∀ {r:R2},aO F F' -> J9 K F₀ H₀ F D r -> J9 K F₀ H₀ F' D r
 | .nx _,s,h=>fun F1 H1 σ1 E1 s1=>h F1 H1 σ1 E1 (s.trans s1)
 | .ro _,_,h=>h
section
variable {X:Cx} {e:Expr} {pos:Pos}
end
open PySem PySem.Spec PyProof.Rows L2
section
variable {X:Cx} {e:Expr} {pos:Pos} {x:Nat}
end
section
variable {X:Cx} {i j:Nat}
end
open PySem PySem.Spec PyProof.Rows L2
section
variable {X:Cx}
end
open PySem PySem.Spec PyProof.Rows L2
section
variable {X:Cx} {a b c:Expr} {fa fb fc:FE} {pos:Pos}
def fU (g g':T -> T -> Option T) (fa fb fc:FE):FE:=fun τ=>(fa τ).bind fun p=>(fb p.2).bind fun q=>(g p.1 q.1).bind fun z=>match z with
 | .bl true=>(fc q.2).bind fun r=>(g' q.1 r.1).bind fun t=>some (t,r.2)
 | .bl false=>some (.bl false,q.2)
 | _=>none
theorem oh {g g':T -> T -> Option T} {K:PySem.W.Frag} {F₀ H₀:Hp} {σ:L2.St} {H:Hp} {Q:VK} (h:tE K F₀ H₀ (fU g g' fa fb fc) σ H Q):xT (Hw K g) (Hw K g') (tE K F₀ H₀ fa) (tE K F₀ H₀ fb) (tE K F₀ H₀ fc) σ H Q:=by
 obtain ⟨F,τ,t,τ',E,e1,q⟩:=h
 obtain ⟨⟨x,τ1⟩,e2,e1⟩:=bind_some e1
 obtain ⟨⟨y,τ2⟩,e3,e1⟩:=bind_some e1
 obtain ⟨z,e4,e1⟩:=bind_some e1
 refine ⟨F,τ,x,τ1,E,e2,fun F1 H1 v1 E1 s1 r1=>⟨F1,τ1,y,τ2,E1,e3,fun F2 H2 v2 E2 s2 r2=>⟨F2,x,y,z,E2.g.fh,r1.mono s2,r2,e4,fun F3 H3 v3 g3 r3=>?_⟩⟩⟩
 dsimp only at e1
 split at e1
 ·obtain ⟨⟨w,τ3⟩,e5,e1⟩:=bind_some e1
  obtain ⟨t',e6,e1⟩:=bind_some e1
  cases e1
  refine ⟨true,r3,?_⟩
  rw [if_pos rfl]
  exact ⟨F3,τ2,w,_,E2.grow g3,e5,fun F4 H4 v4 E4 s4 r4=>⟨F4,y,w,_,E4.g.fh,(r2.mono g3.sF).mono s4,r4,e6,fun F5 H5 v5 g5 r5=>q F5 H5 v5 (E4.grow g5) (((s1.trans s2).trans g3.sF).trans (s4.trans g5.sF)) r5⟩⟩
 ·cases e1
  refine ⟨false,r3,?_⟩
  rw [if_neg (by decide)]
  exact q F3 H3 _ (E2.grow g3) ((s1.trans s2).trans g3.sF) rfl
 ·cases e1
theorem BV {op op':CmpOp} {g g':T -> T -> Option T} (ho:lM X (compareOp op) g) (ho':lM X (compareOp op') g') (ha:SE X a fa) (hb:SE X b fb) (hc:SE X c fc) (hm:lastMarks [op,op'] [b,c]=false:=by with_unfolding_all rfl):SE X (.Compare a [op,op'] [b,c] pos) (fU g g' fa fb fc):=
 fun F₀ H₀=>PE.weak (BI ho ho' (ha F₀ H₀) (hb F₀ H₀) (hc F₀ H₀) hm) fun _ _ _=>oh
theorem vT {op op':CmpOp} {g g':T -> T -> Option T} (ho:lM X (compareOp op) g) (ho':lM X (compareOp op') g') (ha:SE X a fa) (hb:SE X b fb) (hc:SE X c fc) (hm:lastMarks [op,op'] [b,c]=false:=by with_unfolding_all rfl):ST X (.Compare a [op,op'] [b,c] pos) (eP (fU g g' fa fb fc)):=
 fun F₀ H₀=>PT.weak (BN ho ho' (ha F₀ H₀) (hb F₀ H₀) (hc F₀ H₀) hm) fun σ H Q hq__=>by
  obtain ⟨F,τ,k,τ',E,e1,q⟩:=hq__
  obtain ⟨⟨x,τ1⟩,e2,e1⟩:=bind_some e1
  dsimp only at e1
  split at e1
  ·cases e1
   refine oh (Q:=fun x H'=>∃ k,x=V.bl k /\ Q k H') ⟨F,τ,_,_,E,e2,fun F' H' v E' s' r'=>?_⟩
   exact ⟨k,r',q F' H' E' s'⟩
  ·cases e1
end
open PySem PySem.Spec PyProof.Rows L2
structure qm (K:PySem.W.Frag) (F₀ H₀ F H:Hp) (σ:L2.St) (τ:aH) (A:List Addr):Prop where
 E:aB K F₀ H₀ F H σ τ
 lies:∀ a ∈ A,F a=none /\ ∃ vs,H a=some (.lst vs)
 h0:∀ a ∈ A,H₀ a=none
 ap:Apart σ τ A
section
variable {K:PySem.W.Frag} {F₀ H₀ F H F' H':Hp} {σ σ':L2.St} {τ τ':aH} {A:List Addr}
theorem qm.upd (D:qm K F₀ H₀ F H σ τ A) {a:Addr} (ha:a ∈ A) (ws:List V):qm K F₀ H₀ F (L2.upd H a (.lst ws)) σ τ A:=by
 refine ⟨⟨⟨D.E.g.sF,fun b u e=>?_,fun b u e=>?_,D.E.g.nw⟩,D.E.len,fun i s e=>?_,D.E.dj⟩,fun b hb=>⟨(D.lies b hb).1,?_⟩,D.h0,D.ap⟩
 ·rw [aJ (fun z=>by rw [z,D.h0 a ha] at e; cases e)]; exact D.E.g.sH _ _ e
 ·rw [aJ (fun z=>by rw [z,(D.lies a ha).1] at e; cases e)]; exact D.E.g.fh _ _ e
 ·obtain ⟨v,h1,h2⟩:=D.E.sl i s e
  refine ⟨v,h1,?_⟩
  cases s with
  | sh t=>exact h2
  | own ts =>
   obtain ⟨q,vs,rfl,k1,k2,k3,k4⟩:=h2
   exact ⟨q,vs,rfl,by rw [aJ (show q ≠ a from fun z=>D.ap i ts q e h1 (by rw [z]; exact ha))]; exact k1,k2,k3,k4⟩
 ·by_cases h:b=a
  ·subst h; exact ⟨ws,by simp [L2.upd]⟩
  ·rw [aJ h]; exact (D.lies b hb).2
theorem qm.setv (D:qm K F₀ H₀ F H σ τ A) {j:Nat} {v:V} (hj:τ[j]? = some none):qm K F₀ H₀ F H (σ.set j (some v)) τ A:=by
 have ne:∀ {i:Nat} {s:Sl},τ[i]? = some (some s) -> j ≠ i:=fun {i s} e h=>by rw [<- h,hj] at e; cases e
 refine ⟨⟨D.E.g,by simp [D.E.len],fun i s e=>?_,fun i k ts us p h e1 e2 e3=>?_⟩,D.lies,D.h0,fun i us p e1 e2=>?_⟩
 ·rw [List.getElem?_set_ne (ne e)]; exact D.E.sl i s e
 ·rw [List.getElem?_set_ne (ne e1)] at e3
  rw [List.getElem?_set_ne (ne e2)]
  exact D.E.dj i k ts us p h e1 e2 e3
 ·rw [List.getElem?_set_ne (ne e1)] at e2
  exact D.ap i us p e1 e2
end
section
variable {X:Cx} {r t x:Nat} {rn tn xn:Str} {p1 p2 p3 p4 p5 p6 pos:Pos}
theorem BL (hp:PassesOwn (model X.prog X.w) X.A X.env X.xe) (hc:X.calm=true) (hg:PG X (.Name rn p1) (oB r)) (ht:PE X (.Name tn p2) (ip t)) (hr:PE X (.Name rn p3) (ip r))
  (hbase:attributeBase (.Name rn p3) "clear" X.env (eval (.Name rn p3) X.env)=eval (.Name rn p3) X.env:=by rfl) (hline:(p4.endLine == p5.line)=true:=by rfl)
  (hsw:swapsWith (.Call (.Attribute (.Name rn p3) "clear" p4) [] [] p5) none p6.line X.env=pure false:=by rfl) (hs:∀ x,foldedSetIterable (.Name tn p2) X.env x=pure x:=by intro _; rfl) :
  PS X (.For (.Name rn p1) (.Name tn p2) [.Expr (.Call (.Attribute (.Name rn p3) "clear" p4) [] [] p5) p6] [] pos)
   (fun D σ H=>∃ (F₀ H₀ F:Hp) (τ:aH) (A:List Addr) (q:Addr) (rows:List Addr),qm X.K F₀ H₀ F H σ τ A /\ τ[r]? = some none /\ σ[t]? = some (some (.ref q)) /\ H q=some (.lst (rows.map V.ref)) /\ (∀ a ∈ rows,a ∈ A /\ a ≠ q) /\
    ∀ H' σ',qm X.K F₀ H₀ F H' σ' τ A -> (∀ b,b ∉ rows -> H' b=H b) -> (∀ j,j ≠ r -> σ'[j]? = σ[j]?) -> D.nx σ' H'):=
 PS.weak (xC hp hc (tH ht) hg (iH (jI (tD PySem.F.plainAttrs_list PySem.F.slot_list_clear PySem.F.type_list_clear oJ hr hbase hline) hsw)) hs) fun D σ H h=>by
  obtain ⟨F₀,H₀,F,τ,A,q,rows,L,hτ,hσ,hq,hrow,k⟩:=h
  refine ⟨.ref q,hσ,q,rfl,⟨_,eZ.of hq⟩,fun i m σ1 H1=>m=rows.length - i /\ i ≤ rows.length /\ qm X.K F₀ H₀ F H1 σ1 τ A /\ (∀ b,b ∉ rows -> H1 b=H b) /\ ∀ j,j ≠ r -> σ1[j]? = σ[j]?,⟨_,rfl,Nat.zero_le _,L,fun _ _=>rfl,fun _ _=>rfl⟩,?_⟩
  rintro i m σ1 H1 ⟨rfl,hi,L1,hb,hj⟩
  have hq1:H1 q=some (.lst (rows.map V.ref)):=by rw [hb q fun z=>(hrow q z).2 rfl]; exact hq
  by_cases hlt:i < rows.length
  ·have gi:(rows.map V.ref)[i]? = some (.ref rows[i]):=by rw [List.getElem?_map,List.getElem?_eq_getElem hlt]; rfl
   refine .inr ⟨⟨_,_,eZ.of hq1,gi⟩,fun σ' H'=>qm X.K F₀ H₀ F H' σ' τ A /\ (∀ b,b ∉ rows -> H' b=H b) /\ ∀ j,j ≠ r -> σ'[j]? = σ[j]?,fun σ' H' n=>⟨_,by omega,rfl,hlt,n⟩,fun v H2 z=>?_⟩
   obtain ⟨rfl,y⟩:=z
   have hv:=y _ (eZ.of hq1)
   rw [gi] at hv
   cases hv
   have hm:=hrow rows[i] (List.getElem_mem hlt)
   have L2':=L1.setv (v:=.ref rows[i]) hτ
   obtain ⟨ws,hw⟩:=(L1.lies _ hm.1).2
   have hrl:r < σ1.length:=by
    rw [L1.E.len]
    exact (List.getElem?_eq_some_iff.mp hτ).1
   have g1:(σ1.set r (some (.ref rows[i])))[r]? = some (some (.ref rows[i])):=List.getElem?_set_self hrl
   refine ⟨.ref rows[i],g1,.inl ⟨rfl,ws,eZ.of hw⟩,rows[i],ws,rfl,rfl,hw,L2'.upd hm.1 [],fun b nb=>?_,fun j nj=>?_⟩
   ·rw [aJ (fun z:b=rows[i]=>nb (by rw [z]; exact List.getElem_mem hlt))]; exact hb b nb
   ·rw [List.getElem?_set_ne (Ne.symm nj)]; exact hj j nj
  ·exact .inl ⟨⟨_,eZ.of hq1,by rw [List.length_map]; omega⟩,k H1 σ1 L1 hb hj⟩
def Dj:List (Addr × List Addr) -> Prop
 | []=>True
 | z :: r=>z.1 ∉ z.2 /\ (∀ y ∈ r,y.1 ≠ z.1 /\ y.1 ∉ z.2) /\ Dj r
def addrs (tabs:List (Addr × List Addr)):List Addr:=tabs.flatMap fun z=>z.1 :: z.2
theorem ik {tabs:List (Addr × List Addr)} {z:Addr × List Addr} (h:z ∈ tabs):z.1 ∈ addrs tabs /\ ∀ a ∈ z.2,a ∈ addrs tabs:=⟨List.mem_flatMap.mpr ⟨z,h,List.mem_cons_self⟩,fun a ha=>List.mem_flatMap.mpr ⟨z,h,List.mem_cons_of_mem _ ha⟩⟩
theorem EM:∀ {tabs:List (Addr × List Addr)},(addrs tabs).Nodup -> Dj tabs
 | [],_=>trivial
 | z :: r,h=>by
  have e:addrs (z :: r)=(z.1 :: z.2) ++ addrs r:=rfl
  rw [e] at h
  obtain ⟨n1,n2,n3⟩:=List.nodup_append.mp h
  exact ⟨(List.nodup_cons.mp n1).1,fun y hy=>⟨fun w=>n3 z.1 List.mem_cons_self y.1 (ik hy).1 w.symm,fun w=>n3 y.1 (List.mem_cons_of_mem _ w) y.1 (ik hy).1 rfl⟩,EM n2⟩
theorem Ag {q1 q2 q3 q4 q5 q6 pos':Pos} (hp:PassesOwn (model X.prog X.w) X.A X.env X.xe) (hc:X.calm=true) (hgr:PG X (.Name rn p1) (oB r)) (hgt:PG X (.Name tn q1) (oB t)) (hx:PE X (.Name xn q2) (ip x)) (ht:PE X (.Name tn p2) (ip t)) (ht':PE X (.Name tn q3) (ip t)) (hr:PE X (.Name rn p3) (ip r)) (hrt:r ≠ t) (hxt:x ≠ t) (hxr:x ≠ r)
  (hbase:attributeBase (.Name rn p3) "clear" X.env (eval (.Name rn p3) X.env)=eval (.Name rn p3) X.env:=by rfl) (hline:(p4.endLine == p5.line)=true:=by rfl)
  (hsw:swapsWith (.Call (.Attribute (.Name rn p3) "clear" p4) [] [] p5) none p6.line X.env=pure false:=by rfl) (hs:∀ x,foldedSetIterable (.Name tn p2) X.env x=pure x:=by intro _; rfl)
  (hbase':attributeBase (.Name tn q3) "clear" X.env (eval (.Name tn q3) X.env)=eval (.Name tn q3) X.env:=by rfl) (hline':(q4.endLine == q5.line)=true:=by rfl)
  (hsw':swapsWith (.Call (.Attribute (.Name tn q3) "clear" q4) [] [] q5) none q6.line X.env=pure false:=by rfl) (hs':∀ x,foldedSetIterable (.Name xn q2) X.env x=pure x:=by intro _; rfl) :
  PS X (.For (.Name tn q1) (.Name xn q2) [.For (.Name rn p1) (.Name tn p2) [.Expr (.Call (.Attribute (.Name rn p3) "clear" p4) [] [] p5) p6] [] pos,.Expr (.Call (.Attribute (.Name tn q3) "clear" q4) [] [] q5) q6] [] pos')
   (fun D σ H=>∃ (F₀ H₀ F:Hp) (τ:aH) (A:List Addr) (p:Addr) (tabs:List (Addr × List Addr)),qm X.K F₀ H₀ F H σ τ A /\ τ[r]? = some none /\ τ[t]? = some none /\ σ[x]? = some (some (.ref p)) /\ H p=some (.lst (tabs.map fun z=>V.ref z.1)) /\ (∀ z ∈ tabs,H z.1=some (.lst (z.2.map V.ref))) /\ (∀ a ∈ addrs tabs,a ∈ A /\ a ≠ p) /\ Dj tabs /\
    ∀ H' σ',qm X.K F₀ H₀ F H' σ' τ A -> (∀ j,j ≠ r -> j ≠ t -> σ'[j]? = σ[j]?) -> D.nx σ' H'):=
 PS.weak (xC hp hc (tH hx) hgt (cX (BL (pos:=pos) hp hc hgr ht hr hbase hline hsw hs) (iH (jI (tD PySem.F.plainAttrs_list PySem.F.slot_list_clear PySem.F.type_list_clear oJ ht' hbase' hline') hsw'))) hs') fun D σ H h=>by
  obtain ⟨F₀,H₀,F,τ,A,p,tabs,L,hτ,hτt,hσ,hq,htab,hin,hdj,k⟩:=h
  refine ⟨.ref p,hσ,p,rfl,⟨_,eZ.of hq⟩,fun i m σ1 H1=>m=tabs.length - i /\ i ≤ tabs.length /\ qm X.K F₀ H₀ F H1 σ1 τ A /\ H1 p=some (.lst (tabs.map fun z=>V.ref z.1)) /\ (∀ z ∈ tabs.drop i,H1 z.1=some (.lst (z.2.map V.ref))) /\ Dj (tabs.drop i) /\ ∀ j,j ≠ r -> j ≠ t -> σ1[j]? = σ[j]?,⟨_,rfl,Nat.zero_le _,L,hq,htab,hdj,fun _ _ _=>rfl⟩,?_⟩
  rintro i m σ1 H1 ⟨rfl,hi,L1,hq1,ht1,hd1,hj⟩
  by_cases hlt:i < tabs.length
  ·have gi:(tabs.map fun z=>V.ref z.1)[i]? = some (.ref tabs[i].1):=by rw [List.getElem?_map,List.getElem?_eq_getElem hlt]; rfl
   have hd:tabs.drop i=tabs[i] :: tabs.drop (i + 1):=List.drop_eq_getElem_cons hlt
   rw [hd] at ht1 hd1
   obtain ⟨d1,d2,d3⟩:=hd1
   have hz:=ht1 _ List.mem_cons_self
   have hmem:tabs[i] ∈ tabs:=List.getElem_mem hlt
   have hA1:=hin _ (ik hmem).1
   refine .inr ⟨⟨_,_,eZ.of hq1,gi⟩,fun σ' H'=>qm X.K F₀ H₀ F H' σ' τ A /\ H' p=some (.lst (tabs.map fun z=>V.ref z.1)) /\ (∀ z ∈ tabs.drop (i + 1),H' z.1=some (.lst (z.2.map V.ref))) /\ Dj (tabs.drop (i + 1)) /\ ∀ j,j ≠ r -> j ≠ t -> σ'[j]? = σ[j]?,fun σ' H' n=>⟨_,by omega,rfl,hlt,n⟩,fun v H2 z=>?_⟩
   obtain ⟨rfl,y⟩:=z
   have hv:=y _ (eZ.of hq1)
   rw [gi] at hv
   cases hv
   have L2':=L1.setv (v:=.ref tabs[i].1) hτt
   have htl:t < σ1.length:=by
    rw [L1.E.len]
    exact (List.getElem?_eq_some_iff.mp hτt).1
   have g1:(σ1.set t (some (.ref tabs[i].1)))[t]? = some (some (.ref tabs[i].1)):=List.getElem?_set_self htl
   refine ⟨F₀,H₀,F,τ,A,tabs[i].1,tabs[i].2,L2',hτ,g1,hz,fun a ha=>⟨(hin a ((ik hmem).2 a ha)).1,fun w=>d1 (by rw [<- w]; exact ha)⟩,fun H3 σ3 L3 hb3 hj3=>?_⟩
   have hz3:H3 tabs[i].1=some (.lst (tabs[i].2.map V.ref)):=by rw [hb3 _ d1]; exact hz
   have g3:σ3[t]? = some (some (.ref tabs[i].1)):=by rw [hj3 t (Ne.symm hrt)]; exact g1
   refine ⟨.ref tabs[i].1,g3,.inl ⟨rfl,_,eZ.of hz3⟩,tabs[i].1,_,rfl,rfl,hz3,L3.upd hA1.1 [],?_,fun y hy=>?_,d3,fun j nr nt=>?_⟩
   ·rw [aJ (Ne.symm hA1.2),hb3 p fun w=>(hin p ((ik hmem).2 p w)).2 rfl]; exact hq1
   ·rw [aJ (d2 y hy).1,hb3 _ (d2 y hy).2]; exact ht1 y (List.mem_cons_of_mem _ hy)
   ·rw [hj3 j nr,List.getElem?_set_ne (Ne.symm nt)]; exact hj j nr nt
  ·exact .inl ⟨⟨_,eZ.of hq1,by rw [List.length_map]; omega⟩,k H1 σ1 L1 hj⟩
end
open PySem PySem.Spec PyProof.Rows L2
def oG:O -> Bool
 | .lst ro=>jb ro
 | _=>false
def oH:O -> Bool
 | .lst rs=>rs.all oG
 | _=>false
def nM:O -> Bool
 | .lst os=>os.all oH
 | _=>false
section
variable {K:PySem.W.Frag} {F₀ H₀ F H F' H':Hp} {σ σ':L2.St} {τ τ':aH} {A:List Addr} {x:Nat} {o:O} {v:V}
theorem yX:∀ {rs:List O} {vs:List V} {B:List Addr},rs.all oG=true -> aP K F H rs vs B -> vs=B.map V.ref
 | [],vs,B,_,h=>by obtain ⟨rfl,rfl⟩:=h; rfl
 | .val t :: rs,vs,B,e,h=>by simp [oG] at e
 | .lst ro :: rs,vs,B,e,h=>by
  rw [List.all_cons,Bool.and_eq_true] at e
  obtain ⟨v,w,B1,C,rfl,rfl,h1,h2⟩:=h
  obtain ⟨p,us,B2,rfl,rfl,k1,k2,k3⟩:=h1
  obtain ⟨rfl,_⟩:=aP.plain (show jb ro=true from e.1) k3
  rw [yX e.2 h2]
  rfl
theorem zx:∀ {os:List O} {vs:List V} {B:List Addr},os.all oH=true -> aP K F H os vs B -> ∃ tabs:List (Addr × List Addr),vs=(tabs.map fun z=>V.ref z.1) /\ B=addrs tabs /\ ∀ z ∈ tabs,H z.1=some (.lst (z.2.map V.ref))
 | [],vs,B,_,h=>by obtain ⟨rfl,rfl⟩:=h; exact ⟨[],rfl,rfl,fun _ h=>by cases h⟩
 | .val t :: rs,vs,B,e,h=>by simp [oH] at e
 | .lst rs :: os,vs,B,e,h=>by
  rw [List.all_cons,Bool.and_eq_true] at e
  obtain ⟨v,w,B1,C,rfl,rfl,h1,h2⟩:=h
  obtain ⟨p,us,B2,rfl,rfl,k1,k2,k3⟩:=h1
  have hr:=yX (show rs.all oG=true from e.1) k3
  subst hr
  obtain ⟨tabs,rfl,rfl,h3⟩:=zx e.2 h2
  refine ⟨(p,B2) :: tabs,rfl,rfl,fun z hz=>?_⟩
  rcases List.mem_cons.mp hz with rfl | hz
  ·exact k1
  ·exact h3 z hz
theorem Bs (E:aB K F₀ H₀ F H σ τ) (r:cv K F H o v A) (hv:σ[x]? = some (some v)):aB K (frzO F H A) H (frzO F H A) H σ ((hide τ).set x (some (.sh o.tr))):=by
 have sF:aO F (frzO F H A):=cG fun a ha=>(r.at a ha).1
 have sH:aO (frzO F H A) H:=fun b u eb=>by
  by_cases m:b ∈ A
  ·rw [cI m] at eb; exact eb
  ·rw [bB m] at eb; exact E.g.fh b u eb
 have rp:Rep K (frzO F H A) o.tr v:=r.frz
 have all:∀ {j:Nat} {s:Sl},((hide τ).set x (some (.sh o.tr)))[j]? = some (some s) -> (∃ t,s=.sh t) /\ ∃ v,σ[j]? = some (some v) /\ ue K H (frzO F H A) H s v:=fun {j s} e=>by
  by_cases hj:x=j
  ·subst hj
   by_cases hl:x < (hide τ).length
   ·rw [List.getElem?_set_self hl] at e; cases e
    exact ⟨⟨_,rfl⟩,_,hv,rp⟩
   ·rw [List.getElem?_eq_none (by simp; omega)] at e; cases e
  ·rw [List.getElem?_set_ne hj] at e
   obtain ⟨e1,t,rfl⟩:=ij e
   obtain ⟨w,k1,k2⟩:=E.sl j _ e1
   exact ⟨⟨t,rfl⟩,w,k1,Rep.mono sF k2⟩
 refine ⟨bj.refl sH,by simp [eM,E.len],fun j s e=>(all e).2,fun j k ts ws p _ e1=>?_⟩
 obtain ⟨t,z⟩:=(all e1).1
 cases z
theorem kQ:∀ {τ:aH} {x:Nat} {s:Sl},(hide (τ.set x none)).set x (some s)=(hide τ).set x (some s)
 | [],_,_=>by simp [hide]
 | some (.own _) :: τ,0,s=>by simp [hide]
 | some (.sh _) :: τ,0,s=>by simp [hide]
 | none :: τ,0,s=>by simp [hide]
 | some (.own _) :: τ,x + 1,s=>by simp [hide,kQ (τ:=τ) (x:=x) (s:=s)]
 | some (.sh _) :: τ,x + 1,s=>by simp [hide,kQ (τ:=τ) (x:=x) (s:=s)]
 | none :: τ,x + 1,s=>by simp [hide,kQ (τ:=τ) (x:=x) (s:=s)]
theorem qm.of (E:aB K F₀ H₀ F H σ τ) (r:cv K F H o v A) (h0:∀ a ∈ A,H₀ a=none) (ap:Apart σ τ A):qm K F₀ H₀ F H σ (τ.set x none) A:=by
 refine ⟨E.drop,r.at,h0,fun j us p e1 e2=>?_⟩
 refine ap j us p ?_ e2
 by_cases hj:x=j
 ·subst hj
  by_cases hl:x < τ.length
  ·rw [List.getElem?_set_self hl] at e1; cases e1
  ·rw [List.getElem?_eq_none (by simp; omega)] at e1; cases e1
 ·rw [List.getElem?_set_ne hj] at e1; exact e1
end
def uG (i:Nat) (τ:aH):Bool:=match τ[i]? with
 | some none=>true
 | _=>false
theorem rQ {i:Nat} {τ:aH} (h:uG i τ=true):τ[i]? = some none:=by
 unfold uG at h
 split at h
 ·next e=>exact e
 ·cases h
def oz (x t r:Nat) (fo:lL) (tc:FT):FS:=fun τ=>(fo τ).bind fun p =>
 if nM p.1=true /\ uG t (p.2.set x none)=true /\ uG r (p.2.set x none)=true /\ uG x (p.2.set x none)=true then
  (tc ((hide p.2).set x (some (.sh p.1.tr)))).bind fun q=>if q.1=true then some (.rt (.bl false)) else some (.nx (p.2.set x none))
 else none
section
variable {X:Cx} {r t x:Nat} {rn tn xn:Str} {p1 p2 p3 p4 p5 p6 pos q1 q2 q3 q4 q5 q6 pos':Pos}
theorem Ar {e c:Expr} {fo:lL} {tc:FT} {body rest:List Stmt} {u:FS} {a1 a2 a3 b1 b2 b3 b4:Pos} (hN:X.N.Nodup) (hi:X.N[x]? = some xn) (hlx:Loc X.env.scope xn) (he:wk X e fo) (hT:ST X c tc) (hb:ud X body (bE (fC (.bl false)))) (hrest:ud X rest u)
  (hp:PassesOwn (model X.prog X.w) X.A X.env X.xe) (hc:X.calm=true) (hgr:PG X (.Name rn p1) (oB r)) (hgt:PG X (.Name tn q1) (oB t)) (hx:PE X (.Name xn q2) (ip x)) (hx':PE X (.Name xn b1) (ip x)) (ht:PE X (.Name tn p2) (ip t)) (ht':PE X (.Name tn q3) (ip t)) (hr:PE X (.Name rn p3) (ip r)) (hrt:r ≠ t) (hxt:x ≠ t) (hxr:x ≠ r)
  (hse:swapsWith e (some (.Name xn a1)) a2.line X.env=pure false:=by rfl) (hf:X.fn xn=true \/ X.env.scope.names.lookup xn=some .local:=by first | exact .inl rfl | exact .inr rfl | assumption)
  (hbase:attributeBase (.Name rn p3) "clear" X.env (eval (.Name rn p3) X.env)=eval (.Name rn p3) X.env:=by rfl) (hline:(p4.endLine == p5.line)=true:=by rfl)
  (hsw:swapsWith (.Call (.Attribute (.Name rn p3) "clear" p4) [] [] p5) none p6.line X.env=pure false:=by rfl) (hs:∀ x,foldedSetIterable (.Name tn p2) X.env x=pure x:=by intro _; rfl)
  (hbase':attributeBase (.Name tn q3) "clear" X.env (eval (.Name tn q3) X.env)=eval (.Name tn q3) X.env:=by rfl) (hline':(q4.endLine == q5.line)=true:=by rfl)
  (hsw':swapsWith (.Call (.Attribute (.Name tn q3) "clear" q4) [] [] q5) none q6.line X.env=pure false:=by rfl) (hs':∀ x,foldedSetIterable (.Name xn q2) X.env x=pure x:=by intro _; rfl)
  (hbase2:attributeBase (.Name xn b1) "clear" X.env (eval (.Name xn b1) X.env)=eval (.Name xn b1) X.env:=by rfl) (hline2:(b2.endLine == b3.line)=true:=by rfl)
  (hsw2:swapsWith (.Call (.Attribute (.Name xn b1) "clear" b2) [] [] b3) none b4.line X.env=pure false:=by rfl) :
  ud X (.Assign [.Name xn a1] e a2 :: .If c body [] a3 :: .For (.Name tn q1) (.Name xn q2) [.For (.Name rn p1) (.Name tn p2) [.Expr (.Call (.Attribute (.Name rn p3) "clear" p4) [] [] p5) p6] [] pos,.Expr (.Call (.Attribute (.Name tn q3) "clear" q4) [] [] q5) q6] [] pos'
   :: .Expr (.Call (.Attribute (.Name xn b1) "clear" b2) [] [] b3) b4 :: rest) (aV (oz x t r fo tc) u):=fun F₀ H₀ =>
 ir.weak (cX (tK hN hi hlx (he F₀ H₀) hse hf) (cX (E5 (tc:=fun σ H Q=>∃ F₀ H₀,tT X.K F₀ H₀ tc σ H Q) (fun pins s σ H Q I ⟨F₀,H₀,q⟩=>hT F₀ H₀ pins s σ H Q I q) (hb F₀ H₀) tM)
  (cX (Ag (pos:=pos) hp hc hgr hgt hx ht ht' hr hrt hxt hxr hbase hline hsw hs hbase' hline' hsw' hs')
  (cX (jI (tD PySem.F.plainAttrs_list PySem.F.slot_list_clear PySem.F.type_list_clear oJ hx' hbase2 hline2) hsw2) (hrest F₀ H₀))))) fun D σ H hq__=>by
  obtain ⟨F,τ,rr,E,e1,q⟩:=hq__
  obtain ⟨r1,e2,e1⟩:=bind_some e1
  obtain ⟨⟨o,τ1⟩,e3,e2⟩:=bind_some e2
  split at e2
  ·next hh =>
   obtain ⟨hsh,ht1,hr1,hx0⟩:=hh
   replace ht1:=rQ ht1
   replace hr1:=rQ hr1
   have hx1:=rQ hx0
   have hxl:x < τ1.length:=by
    have:=(List.getElem?_eq_some_iff.mp hx1).1
    rw [List.length_set] at this
    exact this
   obtain ⟨⟨c0,τ3⟩,e4,e2⟩:=bind_some e2
   refine ⟨F,τ,o,τ1,E,e3,fun F1 H1 v A E1 s1 ro nd h0 ap=>?_⟩
   have L0:qm X.K F₀ H₀ F1 H1 σ (τ1.set x none) A:=qm.of E1 ro h0 ap
   have L1:=L0.setv (v:=v) hx1
   have hσx:(σ.set x (some v))[x]? = some (some v):=List.getElem?_set_self (by rw [E1.len]; exact hxl)
   have E1':aB X.K (frzO F1 H1 A) H1 (frzO F1 H1 A) H1 (σ.set x (some v)) ((hide τ1).set x (some (.sh o.tr))):=by
    have z:=Bs L1.E ro hσx
    have e:(hide (τ1.set x none)).set x (some (.sh o.tr))=(hide τ1).set x (some (.sh o.tr)):=kQ
    rw [e] at z
    exact z
   refine ⟨_,_,_,_,c0,τ3,E1',e4,fun F2 H2 E2 s2=>?_⟩
   have g':=oE (fun a ha=>(ro.at a ha).1) E2.g
   have L2':qm X.K F₀ H₀ (oo F2 A) H2 (σ.set x (some v)) (τ1.set x none) A:=⟨L1.E.grow g',fun a ha=>⟨kM ha,by obtain ⟨ws,hw⟩:=(ro.at a ha).2; exact ⟨ws,E2.g.sH _ _ hw⟩⟩,h0,L1.ap⟩
   dsimp only at e2
   cases c0 with
   | true =>
    rw [if_pos rfl] at e2
    show ite (true=true) _ _
    rw [if_pos rfl]
    cases e2
    cases e1
    exact ⟨_,_,_,L2'.E,rfl,q⟩
   | false =>
    rw [if_neg (by decide)] at e2
    show ite (false=true) _ _
    rw [if_neg (by decide)]
    cases e2
    cases o with
    | val _=>simp [nM] at hsh
    | lst os =>
     obtain ⟨p,vs,B,rfl,rfl,k1,k2,k3⟩:=ro
     obtain ⟨tabs,rfl,rfl,k4⟩:=zx hsh k3
     have nd':=List.nodup_cons.mp nd
     refine ⟨F₀,H₀,_,_,_,p,tabs,L2',hr1,ht1,hσx,E2.g.sH _ _ k1,fun z hz=>E2.g.sH _ _ (k4 z hz),fun a ha=>⟨List.mem_cons_of_mem _ ha,fun w=>nd'.1 (by rw [<- w]; exact ha)⟩,EM nd'.2,fun H3 σ3 L3 hj3=>?_⟩
     obtain ⟨ws,hw⟩:=(L3.lies p List.mem_cons_self).2
     have hσ3:σ3[x]? = some (some (.ref p)):=by rw [hj3 x hxr hxt]; exact hσx
     refine ⟨.ref p,hσ3,.inl ⟨rfl,ws,eZ.of hw⟩,p,ws,rfl,rfl,hw,?_⟩
     exact ⟨_,_,rr,(L3.upd List.mem_cons_self []).E,e1,q.mono (s1.trans g'.sF)⟩
  ·cases e2
end
open PySem PySem.Spec PyProof.Rows L2
structure nX (K:PySem.W.Frag) (F₀ H₀ F H:Hp) (σ:L2.St) (τ:aH) (x:Nat) (p:Addr) (os:List O) (A:List Addr):Prop where
 E:aB K F₀ H₀ F H σ τ
 hx:τ[x]? = some (some (.sh (.ptr p)))
 r:cv K F H (.lst os) (.ref p) A
 nd:A.Nodup
 h0:∀ a ∈ A,H₀ a=none
 ap:Apart σ τ A
section
variable {K:PySem.W.Frag} {F₀ H₀ F H F' H':Hp} {σ σ':L2.St} {τ τ':aH} {x:Nat} {p:Addr} {os:List O} {A:List Addr}
theorem nX.lies (D:nX K F₀ H₀ F H σ τ x p os A) {a:Addr} (ha:a ∈ A):F a=none /\ ∃ vs,H a=some (.lst vs):=D.r.at a ha
theorem nX.lend (D:nX K F₀ H₀ F H σ τ x p os A):aB K F₀ (frzO H₀ H A) F H σ τ:=by
 refine ⟨⟨D.E.g.sF,fun a o e=>?_,D.E.g.fh,fun a o e=>?_⟩,D.E.len,fun i s e=>?_,D.E.dj⟩
 ·by_cases m:a ∈ A
  ·rw [cI m] at e; exact e
  ·rw [bB m] at e; exact D.E.g.sH _ _ e
 ·have m:a ∉ A:=fun m=>by rw [(D.lies m).1] at e; cases e
  rcases D.E.g.nw a o e with z | z
  ·exact .inl z
  ·exact .inr (by rw [bB m]; exact z)
 ·obtain ⟨v,h1,h2⟩:=D.E.sl i s e
  refine ⟨v,h1,?_⟩
  cases s with
  | sh t=>exact h2
  | own ts =>
   obtain ⟨q,vs,rfl,k1,k2,k3,k4⟩:=h2
   exact ⟨q,vs,rfl,k1,k2,by rw [bB (D.ap i ts q e h1)]; exact k3,k4⟩
theorem nX.back (D:nX K F₀ H₀ F H σ τ x p os A) (E':aB K F₀ (frzO H₀ H A) F' H' σ' τ') (s:aO F F') (hx:τ'[x]? = some (some (.sh (.ptr p)))):nX K F₀ H₀ F' H' σ' τ' x p os A:=by
 have out:∀ {a:Addr},frzO H₀ H A a=none -> a ∉ A /\ H₀ a=none:=fun {a} e=>by
  have m:a ∉ A:=fun m=>by
   obtain ⟨vs,k⟩:=(D.lies m).2
   rw [cI m,k] at e; cases e
  exact ⟨m,by rw [bB m] at e; exact e⟩
 refine ⟨⟨⟨E'.g.sF,fun a o e=>?_,E'.g.fh,fun a o e=>?_⟩,E'.len,fun i s e=>?_,E'.dj⟩,hx,cv.move s (fun a ha=>?_) D.r,D.nd,D.h0,fun j us q e1 e2=>?_⟩
 ·have m:a ∉ A:=fun m=>by rw [D.h0 a m] at e; cases e
  exact E'.g.sH _ _ (by rw [bB m]; exact e)
 ·rcases E'.g.nw a o e with z | z
  ·exact .inl z
  ·exact .inr (out z).2
 ·obtain ⟨v,h1,h2⟩:=E'.sl i s e
  refine ⟨v,h1,?_⟩
  cases s with
  | sh t=>exact h2
  | own ts =>
   obtain ⟨q,vs,rfl,k1,k2,k3,k4⟩:=h2
   exact ⟨q,vs,rfl,k1,k2,(out k3).2,k4⟩
 ·obtain ⟨f1,vs,f2⟩:=D.lies ha
  refine ⟨by rw [f2]; exact E'.g.sH _ _ (by rw [cI ha]; exact f2),?_⟩
  cases eF:F' a with
  | none=>rfl
  | some o =>
   rcases E'.g.nw a o eF with z | z
   ·rw [D.E.g.sF _ _ z] at f1; cases f1
   ·exact absurd ha (out z).1
 ·obtain ⟨v,h1,q',vs,rfl,k1,k2,k3,k4⟩:=E'.sl j _ e1
  rw [e2] at h1; cases h1
  exact (out k3).1
theorem nX.grow (D:nX K F₀ H₀ F H σ τ x p os A) (g:bj F H F' H'):nX K F₀ H₀ F' H' σ τ x p os A:=⟨D.E.grow g,D.hx,D.r.over g,D.nd,D.h0,D.ap⟩
theorem nX.held (D:nX K F₀ H₀ F H σ τ x p os A):eO K F₀ H₀ F H p os A:=⟨D.E.g,D.r,D.nd,D.h0⟩
theorem nX.get (D:nX K F₀ H₀ F H σ τ x p os A):σ[x]? = Option.some (Option.some (.ref p)):=by
 obtain ⟨v,h1,h2⟩:=D.E.sl x _ D.hx
 have:v=.ref p:=h2
 rw [h1,this]
end
abbrev FL:=Addr -> List O -> aH -> Option (List O × aH)
def tL (K:PySem.W.Frag) (F₀ H₀:Hp) (x:Nat) (f:FL):TS:=fun D σ H=>∃ F τ p os A r,nX K F₀ H₀ F H σ τ x p os A /\ f p os τ=some r /\ ∀ F' H' σ' A',nX K F₀ H₀ F' H' σ' r.2 x p r.1 A' -> aO F F' -> D.nx σ' H'
def SL (X:Cx) (x:Nat) (st:Stmt) (f:FL):Prop:=∀ F₀ H₀,PS X st (tL X.K F₀ H₀ x f)
def JI (X:Cx) (x:Nat) (ss:List Stmt) (f:FL):Prop:=∀ F₀ H₀,ir X ss (tL X.K F₀ H₀ x f)
section
variable {X:Cx} {e:Expr} {pos:Pos} {x:Nat}
def mN (x:Nat) (f:FS):FL:=fun p os τ=>(f τ).bind fun r=>match r with
 | .nx τ'=>if jg x p τ'=true then some (os,τ') else none
 | _=>none
theorem zl {st:Stmt} {f:FS} (h:SS X st f):SL X x st (mN x f):=fun F₀ H₀=>PS.weak h.any fun D σ H hq__=>by
 obtain ⟨F,τ,p,os,A,r,d,e1,q⟩:=hq__
 obtain ⟨r',e2,e1⟩:=bind_some e1
 cases r' with
 | nx τ' =>
  dsimp only at e1
  split at e1
  ·next hp =>
   cases e1
   exact ⟨F₀,frzO H₀ H A,F,τ,.nx τ',d.lend,e2,fun F' H' σ' E' s'=>q F' H' σ' A (d.back E' s' (kR hp)) s'⟩
  ·cases e1
 | rt t=>cases e1
 | bk t=>cases e1
 | ct t=>cases e1
def Dg (f g:FL):FL:=fun p os τ=>(f p os τ).bind fun r=>g p r.1 r.2
theorem D9 {st:Stmt} {f:FL} (h:SL X x st f):JI X x [st] f:=fun F₀ H₀=>iH (h F₀ H₀)
theorem B0 {st:Stmt} {rest:List Stmt} {f g:FL} (h1:SL X x st f) (h2:JI X x rest g):JI X x (st :: rest) (Dg f g):=fun F₀ H₀=>ir.weak (cX (h1 F₀ H₀) (h2 F₀ H₀)) fun D σ H hq__=>by
 obtain ⟨F,τ,p,os,A,r,d,e1,q⟩:=hq__
 obtain ⟨r1,e2,e1⟩:=bind_some e1
 exact ⟨F,τ,p,os,A,r1,d,e2,fun F1 H1 σ1 A1 d1 s1=>⟨F1,r1.2,p,r1.1,A1,r,d1,e1,fun F2 H2 σ2 A2 d2 s2=>q F2 H2 σ2 A2 d2 (s1.trans s2)⟩⟩
theorem ST.any' {c:Expr} {tc:FT} (hT:ST X c tc):PT X c (fun σ H Q=>∃ F₀ H₀,tT X.K F₀ H₀ tc σ H Q):=fun pins s σ H Q I ⟨F₀,H₀,q⟩=>hT F₀ H₀ pins s σ H Q I q
theorem nX.test {K:PySem.W.Frag} {F₀ H₀ F H:Hp} {σ:L2.St} {τ:aH} {p:Addr} {os:List O} {A:List Addr} {tc:FT} {b:Bool} {τ':aH} {Q:Bool -> Hp -> Prop} (d:nX K F₀ H₀ F H σ τ x p os A) (e:tc ((hide τ).set x (some (.sh (.lst (O.trs os)))))=some (b,τ'))
  (q:∀ F' H',nX K F₀ H₀ F' H' σ τ x p os A -> aO F F' -> Q b H'):∃ F₀ H₀,tT K F₀ H₀ tc σ H Q:=by
 refine ⟨_,_,_,_,b,τ',Bs d.E d.r d.get,by rw [O.tr]; exact e,fun F2 H2 E2 s2=>?_⟩
 have g':=oE (fun a ha=>(d.r.at a ha).1) E2.g
 exact q _ H2 (d.grow g') g'.sF
def iQ (x:Nat) (ft:FT) (fb:FL):Nat -> FL
 | 0,_,_,_=>none
 | n + 1,p,os,τ=>(ft ((hide τ).set x (some (.sh (.lst (O.trs os)))))).bind fun q=>if q.1=true then (fb p os τ).bind fun r=>iQ x ft fb n p r.1 r.2 else some (os,τ)
theorem BZ (n:Nat) {c:Expr} {body:List Stmt} {ft:FT} {fb:FL} (hp:PassesOwn (model X.prog X.w) X.A X.env X.xe) (hc:ST X c ft) (hb:JI X x body fb):SL X x (.While c body [] pos) (iQ x ft fb n):=fun F₀ H₀=>PS.weak (vF hp hc.any' (hb F₀ H₀)) fun D σ H hq__=>by
 obtain ⟨F,τ,p,os,A,r,d,e1,q⟩:=hq__
 refine ⟨fun m σ1 H1=>∃ F1 τ1 os1 A1,nX X.K F₀ H₀ F1 H1 σ1 τ1 x p os1 A1 /\ aO F F1 /\ iQ x ft fb m p os1 τ1=some r,⟨n,F,τ,os,A,d,aO.refl _,e1⟩,?_⟩
 rintro m σ1 H1 ⟨F1,τ1,os1,A1,d1,s1,e2⟩
 cases m with
 | zero=>cases e2
 | succ m =>
  obtain ⟨⟨b,τ2⟩,e3,e2⟩:=bind_some e2
  refine d1.test e3 fun F2 H2 d2 s2=>?_
  dsimp only at e2
  split at e2
  ·next h =>
   rw [if_pos h]
   obtain ⟨r',e4,e2⟩:=bind_some e2
   exact ⟨fun σ' H'=>∃ F1 τ1 os1 A1,nX X.K F₀ H₀ F1 H' σ' τ1 x p os1 A1 /\ aO F F1 /\ iQ x ft fb m p os1 τ1=some r,fun σ' H' z=>⟨m,Nat.lt_succ_self m,z⟩,F2,τ1,p,os1,A1,r',d2,e4,fun F4 H4 σ4 A4 d4 s4=>⟨F4,r'.2,r'.1,A4,d4,(s1.trans s2).trans s4,e2⟩⟩
  ·next h =>
   rw [if_neg h]
   cases e2
   exact q F2 H2 σ1 A1 d2 (s1.trans s2)
theorem aP.snoc {K:PySem.W.Frag} {F H:Hp} {o:O} {v:V} {C:List Addr} (h:cv K F H o v C):∀ {os:List O} {vs:List V} {B:List Addr},aP K F H os vs B -> aP K F H (os ++ [o]) (vs ++ [v]) (B ++ C)
 | [],vs,B,r=>by
  obtain ⟨rfl,rfl⟩:=r
  exact ⟨v,[],C,[],rfl,by simp,h,rfl,rfl⟩
 | o' :: os,vs,B,r=>by
  obtain ⟨w,rs,B1,B2,rfl,rfl,r1,r2⟩:=r
  exact ⟨w,rs ++ [v],B1,B2 ++ C,rfl,by simp,r1,aP.snoc h r2⟩
def Df (x:Nat) (fo:lL):FL:=fun p os τ=>(fo τ).bind fun q=>if jg x p q.2=true /\ os.length < sizeLine then some (os ++ [q.1],q.2) else none
theorem aP.len {K:PySem.W.Frag} {F H:Hp}:∀ {os:List O} {vs:List V} {B:List Addr},aP K F H os vs B -> vs.length=os.length
 | [],vs,B,r=>by obtain ⟨rfl,rfl⟩:=r; rfl
 | o' :: os,vs,B,r=>by
  obtain ⟨w,rs,B1,B2,rfl,rfl,r1,r2⟩:=r
  simp [aP.len r2]
theorem G5 {xn:Str} {p1 p2 p3:Pos} {fo:lL} (hv:PE X (.Name xn p1) (ip x)) (he:wk X e fo)
  (hbase:attributeBase (.Name xn p1) "append" X.env (eval (.Name xn p1) X.env)=eval (.Name xn p1) X.env:=by rfl)
  (hfew:((backTo p3 (starEach [e] X.env)).all (fun x=>!x.1) && (backToKw p3 (keywordEach [] X.env)).all (fun x=>x.1.isSome) && decide ([e].length + ([]:List Keyword).length + (if ([]:List Keyword).isEmpty then 0 else 1) < 30))=true:=by rfl)
  (hline:(p2.endLine == p3.line)=true:=by rfl) (hs:starEach [e] X.env=(false,eval e X.env) :: starEach [] X.env:=by rfl) (hpl:(backTo p3 (starEach [] X.env)).any (·.1)=false:=by rfl)
  (hsw:swapsWith (.Call (.Attribute (.Name xn p1) "append" p2) [e] [] p3) none pos.line X.env=pure false:=by rfl) :
  SL X x (.Expr (.Call (.Attribute (.Name xn p1) "append" p2) [e] [] p3) pos) (Df x fo):=fun F₀ H₀ =>
 PS.weak (jI (EZ PySem.F.plainAttrs_list PySem.F.slot_list_append PySem.F.type_list_append jG hv (jH he.any md hs) hbase hfew hline hs hpl) hsw) fun D σ H hq__=>by
  obtain ⟨F,τ,p,os,A,r,d,e1,q⟩:=hq__
  obtain ⟨⟨o,τ1⟩,e2,e1⟩:=bind_some e1
  dsimp only at e1
  split at e1
  ·next hh =>
   cases e1
   obtain ⟨p',vs,B,hp',hA,k1,k2,k3⟩:=id d.r
   cases hp'
   refine ⟨.ref p,d.get,.inl ⟨rfl,vs,eZ.of k1⟩,F₀,frzO H₀ H A,F,τ,o,τ1,d.lend,e2,fun F1 H1 v A2 E1 s1 ro nd h0 ap=>?_⟩
   have D1:=d.back E1 s1 (kR hh.1)
   have k1':H1 p=some (.lst vs):=E1.g.sH _ _ (by rw [cI (by rw [hA]; exact List.mem_cons_self)]; exact k1)
   have out:∀ {a:Addr},a ∈ A2 -> a ∉ A /\ H₀ a=none:=fun {a} ha=>by
    have e:=h0 a ha
    have m:a ∉ A:=fun m=>by
     obtain ⟨ws,k⟩:=(d.lies m).2
     rw [cI m,k] at e; cases e
    exact ⟨m,by rw [bB m] at e; exact e⟩
   obtain ⟨p2,vs2,B2,hp2,hA2,j1,j2,j3⟩:=id D1.r
   cases hp2
   rw [k1'] at j1
   cases j1
   have hB:B2=B:=by rw [hA] at hA2; injection hA2 with _ h; exact h.symm
   subst hB
   have nA:=D1.nd
   rw [hA] at nA
   have hpB:=(List.nodup_cons.mp nA).1
   have hpA:p ∈ A:=by rw [hA]; exact List.mem_cons_self
   have L:qm X.K F₀ H₀ F1 H1 σ τ1 A:=⟨D1.E,fun a ha=>D1.lies ha,D1.h0,D1.ap⟩
   refine ⟨p,vs,v,rfl,rfl,k1',by rw [aP.len k3]; exact hh.2,q F1 _ σ (p :: (B2 ++ A2)) ⟨(L.upd hpA (vs ++ [v])).E,D1.hx,⟨p,vs ++ [v],B2 ++ A2,rfl,rfl,aR,j2,aP.snoc (cv.move (aO.refl _) (fun a ha=>⟨aJ fun z=>(out ha).1 (by rw [z]; exact hpA),(ro.at a ha).1⟩) ro) (aP.move (aO.refl _) (fun a ha=>⟨aJ fun z=>hpB (by rw [<- z]; exact ha),(j3.at a ha).1⟩) j3)⟩,?_,?_,?_⟩ s1⟩
   ·refine List.nodup_cons.mpr ⟨fun z=>?_,List.nodup_append.mpr ⟨(List.nodup_cons.mp nA).2,nd,fun a ha b hb w=>(out hb).1 (by rw [hA,<- w]; exact List.mem_cons_of_mem _ ha)⟩⟩
    rcases List.mem_append.mp z with z | z
    ·exact hpB z
    ·exact (out z).1 hpA
   ·intro a ha
    rcases List.mem_cons.mp ha with rfl | ha
    ·exact D1.h0 _ hpA
    ·rcases List.mem_append.mp ha with ha | ha
     ·exact D1.h0 a (by rw [hA]; exact List.mem_cons_of_mem _ ha)
     ·exact (out ha).2
   ·intro j us b e5 e6 hb
    rcases List.mem_cons.mp hb with rfl | hb
    ·exact D1.ap j us _ e5 e6 hpA
    ·rcases List.mem_append.mp hb with hb | hb
     ·exact D1.ap j us b e5 e6 (by rw [hA]; exact List.mem_cons_of_mem _ hb)
     ·exact ap j us b e5 e6 hb
  ·cases e1
end
open PySem PySem.Spec PyProof.Rows L2
section
variable {X:Cx} {e:Expr} {pos:Pos}
def rK (f:FE):lL:=fun τ=>(f τ).bind fun p=>match p.1 with
 | .lst ts=>some (.lst (ts.map O.val),p.2)
 | .tup ts=>some (.lst (ts.map O.val),p.2)
 | _=>none
theorem BX {f:FE} {p:Pos} (hg:Gl X "list") (hm:X.mg "list" = none) (he:SE X e f) (hs:starEach [e] X.env=(false,eval e X.env) :: starEach [] X.env:=by rfl) (hpl:(backTo pos (starEach [] X.env)).any (·.1)=false:=by rfl) :
  wk X (.Call (.Name "list" p) [e] [] pos) (rK f):=fun F₀ H₀ =>
 PE.weak (me kL hg hm (show bootBuiltins "list" = some (.type "list") from rfl) (jH (he F₀ H₀) md hs) (by decide) (by decide) hs hpl) fun σ H Q hq__=>by
  obtain ⟨F,τ,o,τ',E,e1,q⟩:=hq__
  obtain ⟨⟨x,τ1⟩,e2,e1⟩:=bind_some e1
  dsimp only at e1
  split at e1
  ·cases e1
   refine ⟨F,τ,_,_,E,e2,fun F1 H1 v E1 s1 r1=>?_⟩
   obtain ⟨p,xs,rfl,h1,h2⟩:=r1
   refine ⟨p,xs,rfl,.inl (eZ.of (E1.g.fh _ _ h1)),fun l hl=>?_⟩
   exact q F1 _ _ [l] (E1.hp (ck hl)) s1 (cv.new E1.g.fh hl h2) (by simp) (fun a ha=>by rw [List.mem_singleton.mp ha]; exact E1.g.sH.free hl) (apart_new E1 hl)
  ·cases e1
   refine ⟨F,τ,_,_,E,e2,fun F1 H1 v E1 s1 r1=>?_⟩
   obtain ⟨p,xs,rfl,h1,h2⟩:=r1
   refine ⟨p,xs,rfl,.inr (bV E1.g.fh h1),fun l hl=>?_⟩
   exact q F1 _ _ [l] (E1.hp (ck hl)) s1 (cv.new E1.g.fh hl h2) (by simp) (fun a ha=>by rw [List.mem_singleton.mp ha]; exact E1.g.sH.free hl) (apart_new E1 hl)
  ·cases e1
end
abbrev Ex:=aH -> Option (List O × aH)
def KO (K:PySem.W.Frag) (F₀ H₀:Hp) (f:Ex):TE:=fun σ H Q=>∃ F τ os τ',aB K F₀ H₀ F H σ τ /\ f τ=some (os,τ') /\
 ∀ F' H' a vs A,aB K F₀ H₀ F' H' σ τ' -> aO F F' -> F' a=some (.tup vs) -> aP K F' H' os vs A -> A.Nodup -> (∀ b ∈ A,H₀ b=none) -> Apart σ τ' A -> Q (.ref a) H'
def Cp (X:Cx) (e:Expr) (f:Ex):Prop:=∀ F₀ H₀,PE X e (KO X.K F₀ H₀ f)
section
variable {X:Cx} {e:Expr} {pos:Pos}
def A6 (f:lL):Ex:=fun τ=>(f τ).bind fun p=>match p.1 with
 | .lst os=>some (os,p.2)
 | _=>none
theorem xJ {f:lL} {p:Pos} (hg:Gl X "tuple") (hm:X.mg "tuple" = none) (he:wk X e f) (hs:starEach [e] X.env=(false,eval e X.env) :: starEach [] X.env:=by rfl) (hpl:(backTo pos (starEach [] X.env)).any (·.1)=false:=by rfl) :
  Cp X (.Call (.Name "tuple" p) [e] [] pos) (A6 f):=fun F₀ H₀ =>
 PE.weak (me jW hg hm (show bootBuiltins "tuple" = some (.type "tuple") from rfl) (jH (he F₀ H₀) md hs) (by decide) (by decide) hs hpl) fun σ H Q hq__=>by
  obtain ⟨F,τ,o,τ',E,e1,q⟩:=hq__
  obtain ⟨⟨x,τ1⟩,e2,e1⟩:=bind_some e1
  dsimp only at e1
  split at e1
  ·cases e1
   refine ⟨F,τ,_,_,E,e2,fun F1 H1 v A E1 s1 ro nd h0 ap=>?_⟩
   obtain ⟨p,vs,B,rfl,rfl,k1,k2,k3⟩:=id ro
   refine ⟨p,vs,rfl,.inl ⟨eZ.of k1,fun l hl=>?_⟩⟩
   have gr:=bj.new (.tup vs) E1.g.fh hl
   obtain ⟨p',vs',B',hp',hB',j1,j2,j3⟩:=ro.over gr
   cases hp'
   injection hB' with _ hB
   subst hB
   have hv:vs'=vs:=by
    rw [aJ (fun z:p=l=>by rw [z,hl] at k1; cases k1),k1] at j1
    cases j1; rfl
   subst hv
   exact q _ _ l vs' B (E1.grow gr) (s1.trans gr.sF) aR j3 (List.nodup_cons.mp nd).2 (fun b hb=>h0 b (List.mem_cons_of_mem _ hb)) (fun j us r e1 e2 m=>ap j us r e1 e2 (List.mem_cons_of_mem _ m))
  ·cases e1
end
def KJ (K:PySem.W.Frag) (n:Nat) (d:List T -> Option (List O)):Sp:=fun vs H Q _=>vs.length=n /\ ∃ F ts os,aO F H /\ aU K F ts vs /\ d ts=some os /\
 ∀ F' H' a ws A,bj F H F' H' -> F' a=some (.tup ws) -> aP K F' H' os ws A -> A.Nodup -> (∀ b ∈ A,H b=none) -> Q (.ref a) H'
structure jT (P:Program) (w:World) (K:PySem.W.Frag) (mg:Str -> Option Value) (base:Heap) (k:Nat) (C:Addr) (m:Str) (n:Nat) (d:List T -> Option (List O)):Prop where
 cl:mX K C
 ex:∃ f fd ps,gb P w K mg base nC k f fd ps (KJ K n d) /\ Binds K fd ps [] /\ Meth K C m f /\ ps.length=n
def A5 (f:Ex):aH -> Option (List O):=fun τ=>(f τ).bind fun p=>some p.1
def CP (m n:Nat) (fb:aH -> Option (List O)):List T -> Option (List O):=fun ts=>if ts.length=n then fb (ts.map (fun t=>some (Sl.sh t)) ++ List.replicate (m - n) none) else none
def K0 (K:PySem.W.Frag) (F₀ H₀:Hp) (f:aH -> Option (List O)):TS:=fun D σ H=>∃ F τ os,aB K F₀ H₀ F H σ τ /\ f τ=some os /\
 ∀ F' H' a ws A,bj F₀ H₀ F' H' -> F' a=some (.tup ws) -> aP K F' H' os ws A -> A.Nodup -> (∀ b ∈ A,H₀ b=none) -> D.rt (.ref a) H'
def HI (X:Cx) (ss:List Stmt) (f:aH -> Option (List O)):Prop:=∀ F₀ H₀,ir X ss (K0 X.K F₀ H₀ f)
theorem B6 {X:Cx} {e:Expr} {pos:Pos} {f:Ex} (h:Cp X e f):HI X [.Return (some e) pos] (A5 f):=fun F₀ H₀=>ir.weak (iH (tJ (h F₀ H₀))) fun D σ H hq__=>by
 obtain ⟨F,τ,o,E,e1,q⟩:=hq__
 obtain ⟨⟨x,τ1⟩,e2,e1⟩:=bind_some e1
 cases e1
 exact ⟨F,τ,_,τ1,E,e2,fun F' H' a vs A E' _ hF r nd h0 _=>q F' H' a vs A E'.g hF r nd h0⟩
section
variable {P:Program} {w:World} {K:PySem.W.Frag} {mg:Str -> Option Value} {base:Heap} {j k n:Nat} {C:Addr} {m:Str}
theorem jT.mono {d:List T -> Option (List O)} (D:jT P w K mg base j C m n d) (h:j ≤ k):jT P w K mg base k C m n d:=by
 obtain ⟨f,fd,ps,F,r⟩:=D.ex
 exact ⟨D.cl,f,fd,ps,F.mono h,r⟩
theorem jT.plain {d:List T -> Option (List O)} (D:jT P w K mg base k C m n d):ja P w K mg base k C m n (fun ts=>(d ts).bind fun os=>some (.tup (O.trs os))):=by
 obtain ⟨f,fd,ps,F,r⟩:=D.ex
 refine ⟨D.cl,f,fd,ps,F.imp fun vs H Q E ⟨l,F,ts,t,a,b,c,q⟩=>?_,r⟩
 obtain ⟨os,e1,e2⟩:=bind_some c
 cases e2
 refine ⟨l,F,ts,os,a,b,e1,fun F' H' x ws A g hF ro nd h0=>?_⟩
 have hn:∀ b ∈ A,F' b=none:=fun b hb=>(ro.at b hb).1
 exact q _ H' _ (g.frzO hn h0) ⟨x,ws,rfl,kc.of (cG hn _ _ hF),aP.rep (cG hn) (fun a ha=>cI ha) ro⟩
theorem Bv {x qual:Str} {st:Stmt} {f:Addr} {fd:FuncData} {N ps:List Str} {fb:aH -> Option (List O)} (F:eY K x qual st f fd) (S:aQ N ps (aw st)) (hb:Binds K fd ps []) (cl:mX K C) (hm:Meth K C m f)
  (h:∀ (cdv:Value) (A:Around) (outer:List Env) (s:Shared) (H:Hp) (E:XK),dz k (A.deeper (envOfC qual (aw st) s.heap.objs.size f cdv)) -> HI (m5 nC P w K mg base N qual (aw st) f cdv A outer s H E).nox (dF st) fb) :
  jT P w K mg base (k + 1) C m ps.length (CP N.length ps.length fb):=by
 refine ⟨cl,f,fd,ps,F.ok S (fun vs H Q E z=>z.1) (fun cdv A outer s H vs Q E hr z=>?_),hb,hm,rfl⟩
 obtain ⟨hl,F1,ts,o,sm,r,e,q⟩:=z
 unfold CP at e
 split at e
 ·next hn =>
  refine ⟨_,h cdv A outer s H E hr F1 H,F1,_,o,?_,e,fun F' H' a ws A g hF ro nd h0=>q F' H' a ws A g hF ro nd h0⟩
  have:=gk (N:=N) sm r
  rw [hn] at this
  exact this
 ·cases e
end
section
variable {X:Cx} {o e:Expr} {pos apos:Pos} {fo:FE} {k n:Nat} {m:Str}
def oq (C:Addr) (d:List T -> Option (List O)) (m:Str) (fo:FE):Ex:=fun τ=>(fo τ).bind fun p=>match p.1 with
 | .obj C' ns ts=>if m ∈ ns then none else if C'=C then (d [.obj C' ns ts]).bind fun os=>some (os,p.2) else none
 | _=>none
theorem xI {pl:Sem Bool} {C:Addr} {d:List T -> Option (List O)} (D:jT X.prog X.w X.K X.mg X.base k C m 1 d) (hr:dz k X.A) (he:SE X o fo)
  (ht:eval (.Call (.Attribute o m apos) [] [] pos) X.env=(do
   let ov <- eval o X.env
   standAt apos.atName
   let (f,first) <- holding [ov] (getMethod ov m pl)
   callWith pos f first (backTo pos (starEach [] X.env)) (backToKw pos (keywordEach [] X.env))):=by rfl) :
  Cp X (.Call (.Attribute o m apos) [] [] pos) (oq C d m fo):=by
 intro F₀ H₀
 obtain ⟨f,fd,ps,Fk,hb,hme,hn⟩:=D.ex
 refine PE.weak (vC (E:=E0) (CX:=nC) (he F₀ H₀) D.cl hme Fk hr hb .nil vB ht) fun σ H Q ⟨F,τ,os,τ',E,e0,q⟩=>?_
 obtain ⟨⟨x,τ1⟩,e2,e1⟩:=bind_some e0
 clear e0
 dsimp only at e1
 split at e1
 ·next C' ns ts =>
  split at e1
  ·cases e1
  ·next hm =>
   split at e1
   ·next hC =>
    subst hC
    obtain ⟨u,e3,e1⟩:=bind_some e1
    cases e1
    refine ⟨F,τ,_,_,E,e2,fun F1 H1 v E1 s1 r1=>?_⟩
    obtain ⟨a,dx,vs,rfl,h1,h2,h3⟩:=id r1
    refine ⟨a,dx,_,rfl,E1.g.fh _ _ h1,ko hm,?_⟩
    refine ⟨rfl,F1,[.obj C' ns ts],_,E1.g.fh,⟨_,_,rfl,r1,rfl⟩,e3,fun F3 H3 b ws A g3 hF ro nd h0=>?_⟩
    exact q F3 H3 b ws A (E1.grow g3) (s1.trans g3.sF) hF ro nd (fun a ha=>E1.g.sH.free (h0 a ha)) (uh E1 h0)
   ·cases e1
 ·cases e1
end
abbrev AB:=Addr -> List O -> aH -> Option O
def LI (K:PySem.W.Frag) (F₀ H₀:Hp) (x:Nat) (f:AB):TS:=fun D σ H=>∃ F τ p os A o,nX K F₀ H₀ F H σ τ x p os A /\ f p os τ=some o /\
 ∀ F' H' v A',bj F₀ H₀ F' H' -> cv K F' H' o v A' -> A'.Nodup -> (∀ a ∈ A',H₀ a=none) -> D.rt v H'
def Hn (X:Cx) (x:Nat) (ss:List Stmt) (f:AB):Prop:=∀ F₀ H₀,ir X ss (LI X.K F₀ H₀ x f)
open Classical in
def qN (P:O -> Prop):Option O:=if h:∃ o,P o then some h.choose else none
theorem vE {P:O -> Prop} {o:O} (h:P o) (u:∀ o',P o' -> o'=o):qN P=some o:=by
 have e:∃ o,P o:=⟨o,h⟩
 unfold qN
 rw [dif_pos e,u _ e.choose_spec]
theorem oW {P:O -> Prop} {o:O} (h:qN P=some o):P o:=by
 unfold qN at h
 split at h
 ·next e=>cases h; exact e.choose_spec
 ·cases h
def Fs (xs:List O) (lo hi:Option Int):List O:=(xs.drop (HT.eu xs.length 0 lo)).take (HT.eu xs.length xs.length hi - HT.eu xs.length 0 lo)
theorem aP.dropS {K:PySem.W.Frag} {F H:Hp}:∀ (n:Nat) {os:List O} {vs:List V} {B:List Addr},aP K F H os vs B -> ∃ C,List.Sublist C B /\ aP K F H (os.drop n) (vs.drop n) C
 | 0,os,vs,B,h=>⟨B,.refl _,by simpa using h⟩
 | n + 1,[],vs,B,h=>by obtain ⟨rfl,rfl⟩:=h; exact ⟨[],.refl _,by simp [aP]⟩
 | n + 1,o :: os,vs,B,h=>by
  obtain ⟨v,r,B1,B2,rfl,rfl,h1,h2⟩:=h
  obtain ⟨C,s,h3⟩:=aP.dropS n h2
  exact ⟨C,s.trans (List.sublist_append_right _ _),by simpa using h3⟩
theorem aP.takeS {K:PySem.W.Frag} {F H:Hp}:∀ (n:Nat) {os:List O} {vs:List V} {B:List Addr},aP K F H os vs B -> ∃ C,List.Sublist C B /\ aP K F H (os.take n) (vs.take n) C
 | 0,os,vs,B,h=>⟨[],List.nil_sublist _,by simp [aP]⟩
 | n + 1,[],vs,B,h=>by obtain ⟨rfl,rfl⟩:=h; exact ⟨[],.refl _,by simp [aP]⟩
 | n + 1,o :: os,vs,B,h=>by
  obtain ⟨v,r,B1,B2,rfl,rfl,h1,h2⟩:=h
  obtain ⟨C,s,h3⟩:=aP.takeS n h2
  exact ⟨B1 ++ C,List.Sublist.append (.refl _) s,by rw [List.take_succ_cons,List.take_succ_cons]; exact ⟨v,_,B1,C,rfl,rfl,h1,h3⟩⟩
theorem SO.any {X:Cx} {e:Option Expr} {f:FO} (h:SO X e f):PO X e (fun σ H Q=>∃ F₀ H₀,tO X.K F₀ H₀ f σ H Q):=fun pins s σ H Q I ⟨F₀,H₀,q⟩=>h F₀ H₀ pins s σ H Q I q
section
variable {X:Cx} {x y:Nat} {e:Expr} {pos:Pos}
def jX (f:FL) (g:AB):AB:=fun p os τ=>(f p os τ).bind fun r=>g p r.1 r.2
theorem vR {st:Stmt} {rest:List Stmt} {f:FL} {g:AB} (h1:SL X x st f) (h2:Hn X x rest g):Hn X x (st :: rest) (jX f g):=fun F₀ H₀=>ir.weak (cX (h1 F₀ H₀) (h2 F₀ H₀)) fun D σ H hq__=>by
 obtain ⟨F,τ,p,os,A,o,d,e1,q⟩:=hq__
 obtain ⟨r1,e2,e1⟩:=bind_some e1
 exact ⟨F,τ,p,os,A,r1,d,e2,fun F1 H1 σ1 A1 d1 s1=>⟨F1,r1.2,p,r1.1,A1,o,d1,e1,q⟩⟩
def jC (x:Nat) (fh:FO):AB:=fun p os τ=>(fh τ).bind fun b=>if jg x p b.2=true then some (.lst (Fs os none b.1)) else none
theorem xN {xn:Str} {p1 p2 p3:Pos} {hi:Option Expr} {fh:FO} (hv:PE X (.Name xn p1) (ip x)) (hh:SO X hi fh):Hn X x [.Return (some (.Subscript (.Name xn p1) (.Slice none hi none p2) p3)) pos] (jC x fh):=fun F₀ H₀ =>
 ir.weak (iH (tJ (vD zm hv yW hh.any))) fun D σ H hq__=>by
  obtain ⟨F,τ,p,os,A,o,d,e1,q⟩:=hq__
  obtain ⟨⟨b,τ1⟩,e2,e1⟩:=bind_some e1
  dsimp only at e1
  split at e1
  ·next hp =>
   cases e1
   refine ⟨.ref p,d.get,F₀,frzO H₀ H A,F,τ,b,τ1,d.lend,e2,fun F1 H1 E1 s1=>?_⟩
   have D1:=d.back E1 s1 (kR hp)
   obtain ⟨p',vs,B,hp',hA,k1,k2,k3⟩:=id D1.r
   cases hp'
   refine ⟨p,vs,rfl,eZ.of k1,fun l hl=>?_⟩
   obtain ⟨C,sC,h3⟩:=aP.dropS (HT.eu vs.length 0 none) k3
   obtain ⟨C',sC',h4⟩:=aP.takeS (HT.eu vs.length vs.length b - HT.eu vs.length 0 none) h3
   have hlen:=k3.length
   have inA:∀ a ∈ C',a ∈ A:=fun a ha=>by rw [hA]; exact List.mem_cons_of_mem _ (sC.subset (sC'.subset ha))
   have nl:∀ a ∈ C',a ≠ l:=fun a ha z=>by
    obtain ⟨_,ws,hw⟩:=D1.lies (inA a ha)
    rw [z,hl] at hw; cases hw
   have nA:=D1.nd
   rw [hA] at nA
   refine q F1 _ _ (l :: C') (D1.E.hp (ck hl)).g ⟨l,_,C',rfl,rfl,aR,D1.E.g.fh.free hl,?_⟩ (List.nodup_cons.mpr ⟨fun z=>nl l z rfl,((List.nodup_cons.mp nA).2.sublist sC).sublist sC'⟩) (fun a ha=>?_)
   ·unfold Fs mZ
    rw [<- hlen]
    exact aP.move (aO.refl _) (fun a ha=>⟨aJ (nl a ha),(h4.at a ha).1⟩) h4
   ·rcases List.mem_cons.mp ha with rfl | ha
    ·exact D1.E.g.sH.free hl
    ·exact D1.h0 a (inA a ha)
  ·cases e1
def zP (y x:Nat) (g:AB):AB:=fun q os τ=>if jg y q τ=true /\ x < τ.length /\ y ≠ x then qN fun o=>∀ p,g p [.lst os] (τ.set x (some (.sh (.ptr p))))=some o else none
theorem D8 {xn yn:Str} {pos' p1 p2:Pos} {rest:List Stmt} {g:AB} (hN:X.N.Nodup) (hi:X.N[x]? = some xn) (hx:Loc X.env.scope xn) (hv:PE X (.Name yn p1) (ip y)) (hr:Hn X x rest g)
  (hse:starEach [.Name yn p1] X.env=(false,eval (.Name yn p1) X.env) :: starEach [] X.env:=by rfl)
  (hs:swapsWith (.List [.Name yn p1] p2) (some (.Name xn pos')) pos.line X.env=pure false:=by rfl) (hf:X.fn xn=true \/ X.env.scope.names.lookup xn=some .local:=by first | exact .inl rfl | exact .inr rfl | assumption) :
  Hn X y (.Assign [.Name xn pos'] (.List [.Name yn p1] p2) pos :: rest) (zP y x g):=fun F₀ H₀ =>
 ir.weak (cX (tK hN hi hx (xv (jH hv md hse)) hs hf) (hr F₀ H₀)) fun D σ H hq__=>by
  obtain ⟨F,τ,q,os,A,o,d,e1,qq⟩:=hq__
  unfold zP at e1
  split at e1
  ·next hh =>
   have hP:=oW e1
   refine ⟨.ref q,d.get,by show 1 ≤ sizeLine; decide,fun p hp=>?_⟩
   have pA:p ∉ A:=fun m=>by
    obtain ⟨_,ws,hw⟩:=d.lies m
    rw [hp] at hw; cases hw
   refine ⟨F,_,p,_,p :: A,o,⟨(d.E.hp (ck hp)).set (t:=.ptr p) (v:=.ref p) rfl,List.getElem?_set_self hh.2.1,⟨p,[.ref q],A,rfl,rfl,aR,d.E.g.fh.free hp,aP.one (cv.move (aO.refl _) (fun a ha=>⟨aJ (fun z=>pA (by rw [<- z]; exact ha)),(d.lies ha).1⟩) d.r)⟩,List.nodup_cons.mpr ⟨pA,d.nd⟩,?_,?_⟩,hP p,qq⟩
   ·intro a ha
    rcases List.mem_cons.mp ha with rfl | ha
    ·exact d.E.g.sH.free hp
    ·exact d.h0 a ha
   ·intro j us b e5 e6 hb
    by_cases hj:x=j
    ·subst hj
     rw [List.getElem?_set_self hh.2.1] at e5; cases e5
    ·rw [List.getElem?_set_ne hj] at e5 e6
     rcases List.mem_cons.mp hb with rfl | hb
     ·obtain ⟨v,h1,q',vs,rfl,k1,_⟩:=d.E.sl j _ e5
      rw [e6] at h1; cases h1
      rw [hp] at k1; cases k1
     ·exact d.ap j us b e5 e6 hb
  ·cases e1
end
section
variable {K:PySem.W.Frag} {F₀ H₀ F H F' H':Hp} {σ σ':L2.St} {τ τ':aH} {A:List Addr} {o:O} {v:V}
theorem IB (E:aB K F₀ H₀ F H σ τ) (r:cv K F H o v A) (ap:Apart σ τ A):aB K F₀ (frzO H₀ H A) F H σ τ:=by
 refine ⟨⟨E.g.sF,fun a o e=>?_,E.g.fh,fun a o e=>?_⟩,E.len,fun i s e=>?_,E.dj⟩
 ·by_cases m:a ∈ A
  ·rw [cI m] at e; exact e
  ·rw [bB m] at e; exact E.g.sH _ _ e
 ·have m:a ∉ A:=fun m=>by rw [(r.at a m).1] at e; cases e
  rcases E.g.nw a o e with z | z
  ·exact .inl z
  ·exact .inr (by rw [bB m]; exact z)
 ·obtain ⟨v,h1,h2⟩:=E.sl i s e
  refine ⟨v,h1,?_⟩
  cases s with
  | sh t=>exact h2
  | own ts =>
   obtain ⟨q,vs,rfl,k1,k2,k3,k4⟩:=h2
   exact ⟨q,vs,rfl,k1,k2,by rw [bB (ap i ts q e h1)]; exact k3,k4⟩
theorem HM {x:Nat} {p:Addr} {os:List O} (E:aB K F₀ H₀ F H σ τ) (r:cv K F H (.lst os) (.ref p) A) (nd:A.Nodup) (h0:∀ a ∈ A,H₀ a=none) (E':aB K F₀ (frzO H₀ H A) F' H' σ' τ') (s:aO F F') (hx:τ'[x]? = some (some (.sh (.ptr p)))):nX K F₀ H₀ F' H' σ' τ' x p os A:=by
 have out:∀ {a:Addr},frzO H₀ H A a=none -> a ∉ A /\ H₀ a=none:=fun {a} e=>by
  have m:a ∉ A:=fun m=>by
   obtain ⟨vs,k⟩:=(r.at a m).2
   rw [cI m,k] at e; cases e
  exact ⟨m,by rw [bB m] at e; exact e⟩
 refine ⟨⟨⟨E'.g.sF,fun a o e=>?_,E'.g.fh,fun a o e=>?_⟩,E'.len,fun i s e=>?_,E'.dj⟩,hx,cv.move s (fun a ha=>?_) r,nd,h0,fun j us q e1 e2=>?_⟩
 ·have m:a ∉ A:=fun m=>by rw [h0 a m] at e; cases e
  exact E'.g.sH _ _ (by rw [bB m]; exact e)
 ·rcases E'.g.nw a o e with z | z
  ·exact .inl z
  ·exact .inr (out z).2
 ·obtain ⟨v,h1,h2⟩:=E'.sl i s e
  refine ⟨v,h1,?_⟩
  cases s with
  | sh t=>exact h2
  | own ts =>
   obtain ⟨q,vs,rfl,k1,k2,k3,k4⟩:=h2
   exact ⟨q,vs,rfl,k1,k2,(out k3).2,k4⟩
 ·obtain ⟨f1,vs,f2⟩:=r.at a ha
  refine ⟨by rw [f2]; exact E'.g.sH _ _ (by rw [cI ha]; exact f2),?_⟩
  cases eF:F' a with
  | none=>rfl
  | some o =>
   rcases E'.g.nw a o eF with z | z
   ·rw [E.g.sF _ _ z] at f1; cases f1
   ·exact absurd ha (out z).1
 ·obtain ⟨v,h1,q',vs,rfl,k1,k2,k3,k4⟩:=E'.sl j _ e1
  rw [e2] at h1; cases h1
  exact (out k3).1
end
def va:List O -> Option (List O × List O)
 | []=>none
 | [.lst os]=>some ([],os)
 | [.val _]=>none
 | o :: o' :: os=>(va (o' :: os)).bind fun z=>some (o :: z.1,z.2)
theorem vc:∀ {os:List O} {z:List O × List O},va os=some z -> os=z.1 ++ [.lst z.2]
 | [],z,h=>by cases h
 | [.lst os],z,h=>by cases h; rfl
 | [.val _],z,h=>by cases h
 | o :: o' :: os,z,h=>by
  rw [va] at h
  obtain ⟨y,e,h⟩:=bind_some h
  cases h
  rw [vc e]
  rfl
theorem aP.snocInv {K:PySem.W.Frag} {F H:Hp} {o:O}:∀ {os:List O} {vs:List V} {B:List Addr},aP K F H (os ++ [o]) vs B -> ∃ ws w B1 B2,vs=ws ++ [w] /\ B=B1 ++ B2 /\ aP K F H os ws B1 /\ cv K F H o w B2
 | [],vs,B,h=>by
  obtain ⟨v,r,B1,B2,rfl,rfl,h1,h2⟩:=h
  obtain ⟨rfl,rfl⟩:=h2
  exact ⟨[],v,[],B1,rfl,by simp,⟨rfl,rfl⟩,h1⟩
 | o' :: os,vs,B,h=>by
  obtain ⟨v,r,B1,B2,rfl,rfl,h1,h2⟩:=h
  obtain ⟨ws,w,C1,C2,rfl,rfl,h3,h4⟩:=aP.snocInv h2
  exact ⟨v :: ws,w,B1 ++ C1,C2,rfl,by simp,⟨v,ws,B1,C1,rfl,rfl,h1,h3⟩,h4⟩
section
variable {X:Cx} {x y:Nat} {e:Expr} {pos:Pos}
def AZ (y:Nat) (fo:Ex) (g:FG) (fr:AB):zJ:=fun τ=>(fo τ).bind fun z=>(va z.1).bind fun w =>
 qN fun o=>∀ q,((g (.tup (O.trs w.1 ++ [.ptr q])) z.2).bind fun τ2=>if jg y q τ2=true then fr q w.2 τ2 else none)=some o
theorem Ef {tg:Expr} {rest:List Stmt} {fo:Ex} {g:FG} {fr:AB} (he:Cp X e fo) (hg:SG X tg g) (hr:Hn X y rest fr) (hs:swapsWithSole [tg] e pos.line X.env=pure false:=by rfl) (hw:swappedStores [tg] e X.env=pure none:=by rfl)
  (h1:(assignEach [tg] X.env).map (·.2)=[assign tg X.env]:=by rfl):HH X (.Assign [tg] e pos :: rest) (AZ y fo g fr):=fun F₀ H₀ =>
 ir.weak (cX (xB (he F₀ H₀) hg.any hs hw h1) (hr F₀ H₀)) fun D σ H hq__=>by
  obtain ⟨F,τ,o,E,e1,q⟩:=hq__
  obtain ⟨⟨os,τ1⟩,e2,e1⟩:=bind_some e1
  obtain ⟨⟨is,rs⟩,e3,e1⟩:=bind_some e1
  have hP:=oW e1
  have ho:=vc e3
  dsimp only at ho hP
  subst ho
  refine ⟨F,τ,_,τ1,E,e2,fun F1 H1 a vs A E1 s1 hF ro nd h0 ap=>?_⟩
  obtain ⟨ws,w,B1,B2,rfl,rfl,k1,k2⟩:=ro.snocInv
  obtain ⟨nd1,nd2,ndd⟩:=List.nodup_append.mp nd
  obtain ⟨p,vs2,B,rfl,hB,j1,j2,j3⟩:=id k2
  have hn:∀ b ∈ B1,F1 b=none:=fun b hb=>(k1.at b hb).1
  have E2:aB X.K F₀ H₀ (frzO F1 H1 B1) H1 σ τ1:=E1.frzO hn (fun b hb=>h0 b (List.mem_append_left _ hb)) (fun j us r e1 e2 m=>ap j us r e1 e2 (List.mem_append_left _ m))
  have k2':cv X.K (frzO F1 H1 B1) H1 (.lst rs) (.ref p) B2:=cv.move (cG hn) (fun b hb=>⟨rfl,by rw [bB (fun m=>ndd b m b hb rfl)]; exact (k2.at b hb).1⟩) k2
  have ap2:Apart σ τ1 B2:=fun j us r e1 e2 m=>ap j us r e1 e2 (List.mem_append_right _ m)
  obtain ⟨τ2,e4,e5⟩:=bind_some (hP p)
  split at e5
  ·next hp =>
   have rp:Rep X.K (frzO F1 H1 B1) (.tup (O.trs is ++ [.ptr p])) (.ref a):=⟨a,_,rfl,kc.of (cG hn _ _ hF),(aP.rep (cG hn) (fun b hb=>cI hb) k1).append (.one rfl)⟩
   refine ⟨F₀,frzO H₀ H1 B2,_,τ1,_,τ2,IB E2 k2' ap2,rp,e4,fun F3 H3 σ3 E3 s3=>?_⟩
   exact ⟨F3,τ2,p,rs,B2,o,HM E2 k2' nd2 (fun b hb=>h0 b (List.mem_append_right _ hb)) E3 s3 (kR hp),e5,q⟩
  ·cases e5
end
open PySem PySem.Spec PyProof.Rows L2
section
variable {X:Cx} {es:List Expr} {pos:Pos}
def Kk (K:PySem.W.Frag) (n:Nat) (t:Ci):TG:=fun v σ H Q=>∃ a xs,v=.ref a /\ eZ K H a xs /\ xs.length=n /\ t xs σ H Q
theorem GN {k:Nat} {t:Ci} {n:Nat} (hc:X.calm=true) (h:Hl X es t)
  (hn:(assignEach es X.env).length=n:=by rfl) (hst:(assignEach es X.env).findIdx? (·.1)=none:=by rfl):PG X (.Tuple es k pos) (Kk X.K n t):=by
 intro pins s σ H v u Q I r hw
 obtain ⟨a,xs,e1,hq,hl,hw⟩:=hw
 subst e1
 cases r
 obtain ⟨its,rv,ht,hz⟩:=I.list hq
 rw [assign_Tuple]
 refine wpAny_bind (wpAny_standAt ?_)
 unfold unpack
 rw [hst,show (assignEach es X.env).length=its.toArray.size by simp [hn,<- hl,rv.length]]
 refine wpAny_bind (wpAny_holding (PySem.W.kun_itemsOf (I.ok.hd hc) ht.isList fun h' hx=>?_))
 have I1:Inv X pins σ H { s with heap:=h' }:=I.kept (t':=s.toks) fun b o e=>hx b o (Nat.ne_of_lt (Heap.lt_size e)) e
 exact h pins _ σ H xs _ Q I1 (by simpa using rv) hw
def uD (gs:List T -> aH -> Option aH):FG:=fun t τ=>match t with
 | .lst ts=>gs ts τ
 | _=>none
theorem G3 {gs:List T -> aH -> Option aH} {k:Nat} {n:Nat} (hc:X.calm=true) (h:HG X es gs) (hl:∀ ts τ τ',gs ts τ=some τ' -> ts.length=n)
  (hn:(assignEach es X.env).length=n:=by rfl) (hst:(assignEach es X.env).findIdx? (·.1)=none:=by rfl):SG X (.Tuple es k pos) (uD gs):=
 fun F₀ H₀ pins s σ H v u Q I r h'=>GN hc (h F₀ H₀) hn hst pins s σ H v u Q I r (by
  obtain ⟨F,τ,t,τ',E,rt,e1,q⟩:=h'
  unfold uD at e1
  split at e1
  ·next ts =>
   obtain ⟨p,xs,rfl,h1,h2⟩:=rt
   exact ⟨p,xs,rfl,eZ.of (E.g.fh _ _ h1),by rw [h2.length]; exact hl _ _ _ e1,F,τ,ts,τ',E,h2,e1,q⟩
  ·cases e1)
def Jz (i j k:Nat) (ta:TA):TS:=fun D σ H=>ta σ H fun vs H1=>∃ v w z,vs=[v,w,z] /\ D.nx (((σ.set i (some v)).set j (some w)).set k (some z)) H1
theorem DO {i j k:Nat} {x y z:Str} {a b c:Expr} {ta:TA} {px py pz pt:Pos} {kt k2 pt2} (hc:X.calm=true) (hN:X.N.Nodup) (hi:X.N[i]? = some x) (hj:X.N[j]? = some y) (hk:X.N[k]? = some z) (hij:i ≠ j) (hik:i ≠ k) (hjk:j ≠ k)
  (hx:X.env.scope.names.lookup x=some .local) (hy:X.env.scope.names.lookup y=some .local) (hz:X.env.scope.names.lookup z=some .local) (ha:PA X [a,b,c] ta)
  (hw:swappedStores [.Tuple [.Name x px,.Name y py,.Name z pz] kt pt] (.Tuple [a,b,c] k2 pt2) X.env=pure (some [x,y,z]))
  (hs:swapsWithSole [.Tuple [.Name x px,.Name y py,.Name z pz] kt pt] (.Tuple [a,b,c] k2 pt2) pos.line X.env=pure false:=by rfl) :
  PS X (.Assign [.Tuple [.Name x px,.Name y py,.Name z pz] kt pt] (.Tuple [a,b,c] k2 pt2) pos) (Jz i j k ta):=by
 intro pins s σ H D I h
 rw [exec_Assign_arm]
 refine wpAny_bind (wpAny_standAt ?_)
 rw [hs]
 refine wpAny_bind (wpAny_pure ?_)
 rw [if_neg (by decide)]
 refine wpAny_bind (Tuple_ (cM (ha _ pins s σ H _ I h) fun us s1 ⟨vs,H1,I1,r1,q1⟩=>?_))
 obtain ⟨v,w,q,e1,q1⟩:=q1
 subst e1
 obtain ⟨u1,u2,u3,rfl,rv,rw',rq⟩:∃ u1 u2 u3,us=[u1,u2,u3] /\ RelV v u1 /\ RelV w u2 /\ RelV q u3:=by
  cases r1 with
  | cons p q =>
   cases q with
   | cons p' q' =>
    cases q' with
    | cons p'' q'' =>
     cases q''
     exact ⟨_,_,_,rfl,p,p',p''⟩
 refine wpAny_newObj_type ?_ (by show 3 ≤ sizeLine; decide)
 have I2:Inv X pins σ H1 { s1 with heap:=s1.heap.push { cls:=.type "tuple", data:=.seq [u1,u2,u3].toArray } }:=I1.kept (t':=s1.toks) fun b o e=>Heap.get?_push_of_some _ e
 rw [hw]
 refine wpAny_bind (wpAny_pure ?_)
 show wpAny (model X.prog X.w) X.A (do rule "assign.swapped-stores"; let items <- unpackItems (.ref s1.heap.objs.size) 3 none; assignInOrder [fun v=>bindName X.env z v,fun v=>bindName X.env y v,fun v=>bindName X.env x v] items.reverse; pure Flow.next) _ _ _
 refine wpAny_bind (wpAny_rule (wpAny_bind (unpackItems_tuple (items:=#[u1,u2,u3]) (I.ok.hd hc) (IsTup.new s1.heap _) fun h' hx'=>?_)))
 have I3:=I2.kept (h':=h') (t':=s1.toks) fun b o e=>hx' b o (Nat.ne_of_lt (Heap.lt_size e)) e
 show wpAny _ _ (assignInOrder [fun v=>bindName X.env z v,fun v=>bindName X.env y v,fun v=>bindName X.env x v] [u3,u2,u1] >>= fun _=>pure Flow.next) _ _ _
 refine wpAny_bind (assignInOrder_cons (wpAny_bindName (gF I3 hN hk (.inl hz) rq (fun s2 I4=>?_) (.inr hz))))
 refine assignInOrder_cons (wpAny_bindName (gF I4 hN hj (.inl hy) rw' (fun s3 I5=>?_) (.inr hy)))
 refine assignInOrder_cons (wpAny_bindName (gF I5 hN hi (.inl hx) rv (fun s4 I6=>assignInOrder_nil (wpAny_pure ?_)) (.inr hx)))
 rw [List.set_comm _ _ (Ne.symm hjk),List.set_comm _ _ (Ne.symm hik),List.set_comm _ _ (Ne.symm hij)] at I6
 exact ⟨_,H1,I6,q1⟩
def yC (i j k:Nat) (g:FA):FS:=fun τ=>(g τ).bind fun p=>match p.1 with
 | [t,u,v]=>some (.nx (((p.2.set i (some (.sh t))).set j (some (.sh u))).set k (some (.sh v))))
 | _=>none
theorem Ee {i j k:Nat} {x y z:Str} {a b c:Expr} {ga:FA} {px py pz pt:Pos} {kt k2 pt2} (hc:X.calm=true) (hN:X.N.Nodup) (hi:X.N[i]? = some x) (hj:X.N[j]? = some y) (hk:X.N[k]? = some z) (hij:i ≠ j) (hik:i ≠ k) (hjk:j ≠ k)
  (hx:X.env.scope.names.lookup x=some .local) (hy:X.env.scope.names.lookup y=some .local) (hz:X.env.scope.names.lookup z=some .local) (ha:SA X [a,b,c] ga)
  (hw:swappedStores [.Tuple [.Name x px,.Name y py,.Name z pz] kt pt] (.Tuple [a,b,c] k2 pt2) X.env=pure (some [x,y,z]))
  (hs:swapsWithSole [.Tuple [.Name x px,.Name y py,.Name z pz] kt pt] (.Tuple [a,b,c] k2 pt2) pos.line X.env=pure false:=by rfl) :
  SS X (.Assign [.Tuple [.Name x px,.Name y py,.Name z pz] kt pt] (.Tuple [a,b,c] k2 pt2) pos) (yC i j k ga):=fun F₀ H₀=>PS.weak (DO hc hN hi hj hk hij hik hjk hx hy hz (ha F₀ H₀) hw hs) fun D σ H hq__=>by
 obtain ⟨F,τ,r,E,e1,q⟩:=hq__
 obtain ⟨⟨ts,τ1⟩,e2,e1⟩:=bind_some e1
 dsimp only at e1
 split at e1
 ·next t u v =>
  cases e1
  refine ⟨F,τ,_,_,E,e2,fun F1 H1 vs E1 s1 r1=>?_⟩
  obtain ⟨v1,_,rfl,k1,v2,_,rfl,k2,v3,_,rfl,k3,rfl⟩:=r1
  exact ⟨v1,v2,v3,rfl,q F1 H1 _ (((E1.set k1).set k2).set k3) s1⟩
 ·cases e1
end
end TM
namespace Qm
abbrev ib (a b:Int):Prop:=Int.gcd a b=1
theorem rB {a b:Int} (h:Nat.Coprime a.natAbs b.natAbs):ib a b:=h
theorem ib.symm {a b:Int} (h:ib a b):ib b a:=by unfold ib; rw [Int.gcd_comm]; exact h
theorem ib.mulL {a b c:Int} (h:ib a c) (h':ib b c):ib (a * b) c:=rB (by rw [Int.natAbs_mul]; exact Nat.Coprime.mul_left h h')
theorem ib.mulR {a b c:Int} (h:ib c a) (h':ib c b):ib c (a * b):=rB (by rw [Int.natAbs_mul]; exact Nat.Coprime.mul_right h h')
theorem ib.dvdL {a b c:Int} (h:ib b c) (d:a ∣ b):ib a c:=rB (Nat.Coprime.coprime_dvd_left (Int.natAbs_dvd_natAbs.mpr d) h)
theorem ib.dvdR {a b c:Int} (h:ib c b) (d:a ∣ b):ib c a:=rB (Nat.Coprime.coprime_dvd_right (Int.natAbs_dvd_natAbs.mpr d) h)
theorem ib.addL {a b c:Int} (h:ib a c):ib (a + b * c) c:=by unfold ib; rw [Int.gcd_add_mul_right_left]; exact h
theorem split {a b:Int} (h:b ≠ 0):∃ x y:Int,a=(Int.gcd a b:Int) * x /\ b=(Int.gcd a b:Int) * y /\ ib x y /\ (Int.gcd a b:Int) ≠ 0:=by
 have hg:(Int.gcd a b:Int) ≠ 0:=by
  intro z
  have:Int.gcd a b=0:=by omega
  rw [Int.gcd_eq_zero_iff] at this
  exact h this.2
 obtain ⟨x,hx⟩:=Int.gcd_dvd_left a b
 obtain ⟨y,hy⟩:=Int.gcd_dvd_right a b
 refine ⟨x,y,hx,hy,?_,hg⟩
 have e:Int.gcd a b=Int.gcd a b * Int.gcd x y:=by
  have:=Int.gcd_mul_left (Int.gcd a b:Int) x y
  rw [<- hx,<- hy] at this
  simpa using this
 have hp:0 < Int.gcd a b:=by omega
 have:=Nat.eq_of_mul_eq_mul_left hp (show Int.gcd a b * Int.gcd x y=Int.gcd a b * 1 by omega)
 exact this
theorem ek {a g x:Int} (h:a=g * x) (hg:g ≠ 0):a.fdiv g=x:=by rw [h]; exact Int.mul_fdiv_cancel_left x hg
theorem GR {a b c d:Int} (hb:0 < b) (hd:0 < d) (h1:ib a b) (h2:ib c d) (s top low:Int) (es:s=Int.gcd b d) (et:top=a * d.fdiv s + c * b.fdiv s) (el:low=Int.gcd top s) :
  top.fdiv low=(a * d + c * b).fdiv (Int.gcd (a * d + c * b) (b * d)) /\ b.fdiv s * d.fdiv low=(b * d).fdiv (Int.gcd (a * d + c * b) (b * d)) /\ s ≠ 0 /\ low ≠ 0:=by
 obtain ⟨x,y,hx,hy,hc,hs⟩:=split (a:=b) (b:=d) (by omega)
 rw [<- es] at hx hy hs
 have ex:b.fdiv s=x:=ek hx hs
 have ey:d.fdiv s=y:=ek hy hs
 rw [ex,ey] at et
 have cx:ib top x:=by
  have q1:ib (a * y) x:=ib.mulL (h1.dvdR ⟨s,by rw [hx,Int.mul_comm]⟩) hc.symm
  have q2:=q1.addL (b:=c)
  rw [<- et] at q2
  exact q2
 have cy:ib top y:=by
  have q1:ib (c * x) y:=ib.mulL (h2.dvdR ⟨s,by rw [hy,Int.mul_comm]⟩) hc
  have q2:=q1.addL (b:=a)
  rw [Int.add_comm,<- et] at q2
  exact q2
 obtain ⟨u,v,hu,hv,_,hl⟩:=split (a:=top) (b:=s) hs
 rw [<- el] at hu hv hl
 have e1:a * d + c * b=s * top:=by
  rw [et]
  calc a * d + c * b=a * (s * y) + c * (s * x):=by rw [<- hx,<- hy]
   _=s * (a * y + c * x):=by rw [Int.mul_add,Int.mul_left_comm,Int.mul_left_comm c]
 have e2:b * d=s * (x * (y * s)):=by
  calc b * d=(s * x) * (s * y):=by rw [<- hx,<- hy]
   _=s * (x * (y * s)):=by rw [Int.mul_assoc,Int.mul_comm y s]
 have sp:0 ≤ s:=by rw [es]; omega
 have lp:0 ≤ low:=by rw [el]; omega
 have eg:((Int.gcd (a * d + c * b) (b * d):Nat):Int)=s * low:=by
  rw [e1,e2,Int.gcd_mul_left]
  have k1:Int.gcd top (x * (y * s))=Int.gcd top s:=by
   show Nat.gcd top.natAbs (x * (y * s)).natAbs=Nat.gcd top.natAbs s.natAbs
   rw [Int.natAbs_mul,Int.natAbs_mul,Nat.Coprime.gcd_mul_left_cancel_right _ (Nat.Coprime.symm cx),Nat.Coprime.gcd_mul_left_cancel_right _ (Nat.Coprime.symm cy)]
  rw [k1,el]
  push_cast
  rw [Int.natAbs_of_nonneg sp]
 have hsl:s * low ≠ 0:=Int.mul_ne_zero hs hl
 have tl:top.fdiv low=u:=ek hu hl
 have dl:d.fdiv low=v * y:=ek (by rw [hy,hv,Int.mul_assoc]) hl
 refine ⟨?_,?_,hs,hl⟩
 ·rw [eg,tl,e1]
  exact (ek (by rw [Int.mul_assoc,<- hu]) hsl).symm
 ·rw [eg,ex,dl,e2]
  refine (ek ?_ hsl).symm
  calc s * (x * (y * s))=s * (x * (y * (low * v))):=by rw [<- hv]
   _=s * low * (x * (v * y)):=by
    rw [Int.mul_assoc s low]
    congr 1
    rw [Int.mul_left_comm y low v,Int.mul_left_comm x low,Int.mul_comm y v]
theorem Ek {a b c d:Int} (hb:0 < b) (hd:0 < d) (h1:ib a b) (h2:ib c d) (l r:Int) (el:l=Int.gcd a d) (er:r=Int.gcd c b) :
  a.fdiv l * c.fdiv r=(a * c).fdiv (Int.gcd (a * c) (b * d)) /\ b.fdiv r * d.fdiv l=(b * d).fdiv (Int.gcd (a * c) (b * d)) /\ l ≠ 0 /\ r ≠ 0:=by
 obtain ⟨a',d',ha,hd',c1,hl⟩:=split (a:=a) (b:=d) (by omega)
 obtain ⟨c',b',hc,hb',c2,hr⟩:=split (a:=c) (b:=b) (by omega)
 rw [<- el] at ha hd' hl
 rw [<- er] at hc hb' hr
 have k:ib (a' * c') (b' * d'):=by
  have ab:ib a' b':=(h1.dvdL ⟨l,by rw [Int.mul_comm]; exact ha⟩).dvdR ⟨r,by rw [Int.mul_comm]; exact hb'⟩
  have cd:ib c' d':=(h2.dvdL ⟨r,by rw [Int.mul_comm]; exact hc⟩).dvdR ⟨l,by rw [Int.mul_comm]; exact hd'⟩
  exact ib.mulR (ib.mulL ab c2) (ib.mulL c1 cd)
 have e1:a * c=l * r * (a' * c'):=by
  calc a * c=(l * a') * (r * c'):=by rw [<- ha,<- hc]
   _=l * r * (a' * c'):=by rw [Int.mul_assoc,Int.mul_left_comm a' r c',Int.mul_assoc]
 have e2:b * d=l * r * (b' * d'):=by
  calc b * d=(r * b') * (l * d'):=by rw [<- hb',<- hd']
   _=l * r * (b' * d'):=by rw [Int.mul_assoc,Int.mul_left_comm b' l d',<- Int.mul_assoc,Int.mul_comm r l]
 have lp:0 ≤ l:=by rw [el]; omega
 have rp:0 ≤ r:=by rw [er]; omega
 have eg:((Int.gcd (a * c) (b * d):Nat):Int)=l * r:=by
  rw [e1,e2,Int.gcd_mul_left,k]
  push_cast
  rw [Int.mul_one,Int.natAbs_of_nonneg (Int.mul_nonneg lp rp)]
 have hlr:l * r ≠ 0:=Int.mul_ne_zero hl hr
 refine ⟨?_,?_,hl,hr⟩
 ·rw [eg,ek ha hl,ek hc hr]
  exact (ek e1 hlr).symm
 ·rw [eg,ek hb' hr,ek hd' hl]
  exact (ek e2 hlr).symm
end Qm
namespace Rq
def DD (k:Nat):Nat:=27720 ^ k
theorem cO (k:Nat):0 < DD k:=Nat.pow_pos (by decide)
theorem iZ (k j:Nat):DD (k + j)=DD k * DD j:=Nat.pow_add _ _ _
def Lq (k m:Nat) (q:Rat):Prop:=∃ n:Int,q=Rat.divInt n (DD k:Int) /\ n.natAbs ≤ m * DD k
theorem Lq.zero (k:Nat):Lq k 0 0:=⟨0,by rw [Rat.zero_divInt],by simp⟩
theorem uy (k:Nat):((DD k:Nat):Int) ≠ 0:=by have:=cO k; omega
theorem Lq.add {k m m':Nat} {x y:Rat} (hx:Lq k m x) (hy:Lq k m' y):Lq k (m + m') (x + y):=by
 obtain ⟨a,rfl,ha⟩:=hx
 obtain ⟨b,rfl,hb⟩:=hy
 refine ⟨a + b,?_,?_⟩
 ·rw [Rat.divInt_add_divInt _ _ (uy k) (uy k),<- Int.add_mul,Rat.divInt_mul_right (uy k)]
 ·rw [Nat.add_mul]
  have:=Int.natAbs_add_le a b
  omega
theorem Lq.mul {k k' m m':Nat} {x y:Rat} (hx:Lq k m x) (hy:Lq k' m' y):Lq (k + k') (m * m') (x * y):=by
 obtain ⟨a,rfl,ha⟩:=hx
 obtain ⟨b,rfl,hb⟩:=hy
 refine ⟨a * b,?_,?_⟩
 ·rw [Rat.divInt_mul_divInt,iZ]
  push_cast
  rfl
 ·rw [Int.natAbs_mul,iZ]
  calc a.natAbs * b.natAbs ≤ (m * DD k) * (m' * DD k'):=Nat.mul_le_mul ha hb
   _=m * m' * (DD k * DD k'):=by rw [Nat.mul_mul_mul_comm]
theorem Lq.mono {k m m':Nat} {x:Rat} (hx:Lq k m x) (h:m ≤ m'):Lq k m' x:=by
 obtain ⟨a,rfl,ha⟩:=hx
 exact ⟨a,rfl,Nat.le_trans ha (Nat.mul_le_mul_right _ h)⟩
theorem Lq.bd {k m:Nat} {x:Rat} (hx:Lq k m x):x.num.natAbs ≤ m * DD k /\ x.den ∣ DD k:=by
 obtain ⟨a,rfl,ha⟩:=hx
 have hp:=cO k
 rw [Rat.num_divInt,Rat.den_divInt,if_neg (uy k)]
 have hs:((DD k:Nat):Int).sign=1:=Int.sign_eq_one_of_pos (by omega)
 rw [hs,Int.one_mul]
 constructor
 ·rw [Int.natAbs_ediv_of_dvd (Int.gcd_dvd_right _ _)]
  exact Nat.le_trans (Nat.div_le_self _ _) ha
 ·rw [Int.natAbs_natCast]
  exact Nat.div_dvd_of_dvd (by have:=Int.gcd_dvd_left ((DD k:Nat):Int) a; exact Int.natCast_dvd_natCast.mp this)
theorem Lq.small {a b:Int} (ha:a.natAbs ≤ 9) (hb:0 < b) (hb':b ≤ 12):Lq 1 9 (Rat.divInt a b):=by
 have hd:b ∣ ((DD 1:Nat):Int):=by
  have e:((DD 1:Nat):Int)=27720:=by decide
  rw [e]
  have:b=1 \/ b=2 \/ b=3 \/ b=4 \/ b=5 \/ b=6 \/ b=7 \/ b=8 \/ b=9 \/ b=10 \/ b=11 \/ b=12:=by omega
  rcases this with rfl | rfl | rfl | rfl | rfl | rfl | rfl | rfl | rfl | rfl | rfl | rfl <;> decide
 obtain ⟨c,hc⟩:=hd
 have hc0:c ≠ 0:=fun z=>by rw [z,Int.mul_zero] at hc; exact uy 1 hc
 refine ⟨a * c,?_,?_⟩
 ·rw [hc,Rat.divInt_mul_right hc0]
 ·rw [Int.natAbs_mul]
  have h1:c.natAbs ≤ DD 1:=by
   have:((DD 1:Nat):Int).natAbs=b.natAbs * c.natAbs:=by rw [hc,Int.natAbs_mul]
   rw [Int.natAbs_natCast] at this
   rw [this]
   exact Nat.le_mul_of_pos_left _ (by omega)
  exact Nat.mul_le_mul ha h1
def wsum (r s:List Rat):Rat:=(List.zipWith (· * ·) r s).foldl (· + ·) 0
theorem foldl_add (l:List Rat):∀ a:Rat,l.foldl (· + ·) a=a + l.foldl (· + ·) 0:=by
 induction l with
 | nil=>intro a; rw [List.foldl_nil,List.foldl_nil,Rat.add_zero]
 | cons x l ih =>
  intro a
  rw [List.foldl_cons,List.foldl_cons,ih (a + x),ih (0 + x),Rat.zero_add,Rat.add_assoc]
theorem bD (x y:Rat) (r s:List Rat):wsum (x :: r) (y :: s)=x * y + wsum r s:=by
 unfold wsum
 rw [List.zipWith_cons_cons,List.foldl_cons,foldl_add,Rat.zero_add]
theorem zC {k k' m m':Nat}:∀ {r s:List Rat},(∀ x ∈ r,Lq k m x) -> (∀ y ∈ s,Lq k' m' y) -> Lq (k + k') (r.length * (m * m')) (wsum r s)
 | [],s,_,_=>by
  have:wsum [] s=0:=by unfold wsum; rw [List.zipWith_nil_left]; rfl
  rw [this,List.length_nil,Nat.zero_mul]
  exact Lq.zero _
 | x :: r,[],h1,h2=>by
  have:wsum (x :: r) []=0:=by unfold wsum; rw [List.zipWith_nil_right]; rfl
  rw [this]
  exact (Lq.zero _).mono (Nat.zero_le _)
 | x :: r,y :: s,h1,h2=>by
  rw [bD,List.length_cons,Nat.add_mul,Nat.one_mul,Nat.add_comm (r.length * (m * m'))]
  exact ((h1 x List.mem_cons_self).mul (h2 y List.mem_cons_self)).add (zC (fun z hz=>h1 z (List.mem_cons_of_mem _ hz)) (fun z hz=>h2 z (List.mem_cons_of_mem _ hz)))
theorem mF {D E:Int} (hD:D ≠ 0) (hE:E ≠ 0):∀ (a b:List Int),wsum (a.map fun n=>Rat.divInt n D) (b.map fun n=>Rat.divInt n E)=Rat.divInt (List.zipWith (· * ·) a b).sum (D * E)
 | [],b=>by
  unfold wsum
  rw [List.map_nil,List.zipWith_nil_left,List.zipWith_nil_left,List.sum_nil,Rat.zero_divInt]
  rfl
 | x :: a,[]=>by
  unfold wsum
  rw [List.map_nil,List.zipWith_nil_right,List.zipWith_nil_right,List.sum_nil,Rat.zero_divInt]
  rfl
 | x :: a,y :: b=>by
  rw [List.map_cons,List.map_cons,bD,mF hD hE a b,List.zipWith_cons_cons,List.sum_cons,Rat.divInt_mul_divInt]
  have hDE:D * E ≠ 0:=Int.mul_ne_zero hD hE
  rw [Rat.divInt_add_divInt _ _ hDE hDE,<- Int.add_mul,Rat.divInt_mul_right hDE]
def fN (B:List (List Rat)) (j:Nat):List Rat:=B.map fun r=>r.getD j 0
def iY (r:List Rat) (B:List (List Rat)) (w:Nat):List Rat:=(List.range w).map fun j=>wsum r (fN B j)
def mulM (A B:List (List Rat)) (w:Nat):List (List Rat):=A.map fun r=>iY r B w
theorem cN (s:List Rat):wsum [] s=0:=by unfold wsum; rw [List.zipWith_nil_left]; rfl
theorem kI:∀ (n:Nat) (c:List Rat),wsum (List.replicate n 0) c=0
 | 0,c=>cN c
 | n + 1,[]=>by unfold wsum; rw [List.zipWith_nil_right]; rfl
 | n + 1,y :: c=>by rw [List.replicate_succ,bD,kI n c,Rat.zero_mul,Rat.zero_add]
theorem iN (x:Rat):∀ (b c:List Rat),wsum (b.map (x * ·)) c=x * wsum b c
 | [],c=>by rw [List.map_nil,cN,Rat.mul_zero]
 | y :: b,[]=>by
  have z:∀ l:List Rat,wsum l []=0:=fun l=>by unfold wsum; rw [List.zipWith_nil_right]; rfl
  rw [z,z,Rat.mul_zero]
 | y :: b,w :: c=>by rw [List.map_cons,bD,bD,iN x b c,Rat.mul_add,Rat.mul_assoc]
theorem vK (r:List Rat) (B:List (List Rat)) (w:Nat):(iY r B w).length=w:=by unfold iY; simp
def Sq (n:Nat) (A:List (List Rat)):Prop:=A.length=n /\ ∀ r ∈ A,r.length=n
theorem Sq.mul {n:Nat} {A B:List (List Rat)} (hA:Sq n A):Sq n (mulM A B n):=by
 refine ⟨by unfold mulM; rw [List.length_map]; exact hA.1,fun r hr=>?_⟩
 obtain ⟨a,_,rfl⟩:=List.mem_map.mp hr
 exact vK _ _ _
end Rq
namespace Dt
abbrev Row:=Nat -> Int
abbrev Fn:=List Nat -> Int
def E (x:Row):Fn -> List Nat -> Int
 | _,[]=>0
 | D,c :: cs=>x c * D cs - E x (fun l=>D (c :: l)) cs
def det:List Row -> Fn
 | []=>fun cs=>if cs=[] then 1 else 0
 | x :: R=>fun cs=>E x (det R) cs
def Alt (D:Fn):Prop:=∀ pre a b cs,D (pre ++ a :: b :: cs) = - D (pre ++ b :: a :: cs)
theorem Alt.tl {D:Fn} (h:Alt D) (c:Nat):Alt (fun l=>D (c :: l)):=fun pre a b cs=>h (c :: pre) a b cs
def F (f:Row -> Int):(List Row -> Int) -> List Row -> Int
 | _,[]=>0
 | G,x :: R=>f x * G R - F f (fun S=>G (x :: S)) R
def Lk (cs:List Nat) (f:Row -> Int):Prop:=∃ ws:List (Int × Nat),(∀ w ∈ ws,w.2 ∈ cs) /\ ∀ x,f x=(ws.map fun w=>w.1 * x w.2).foldr (· + ·) 0
theorem Lk.zero (cs:List Nat):Lk cs (fun _=>0):=⟨[],(fun _ h=>by cases h),fun _=>rfl⟩
theorem Lk.col {cs:List Nat} {c:Nat} (h:c ∈ cs):Lk cs (fun x=>x c):=⟨[(1,c)],(fun w hw=>by rw [List.mem_singleton.mp hw]; exact h),fun x=>by simp⟩
theorem Lk.more {cs ds:List Nat} {f:Row -> Int} (h:Lk cs f) (hs:∀ c ∈ cs,c ∈ ds):Lk ds f:=by
 obtain ⟨ws,h1,h2⟩:=h
 exact ⟨ws,fun w hw=>hs _ (h1 w hw),h2⟩
theorem Lk.congr {cs:List Nat} {f g:Row -> Int} (h:Lk cs f) (e:∀ x,g x=f x):Lk cs g:=by rw [funext e]; exact h
def left (R:List Row) (ps:List Nat) (x:Row):Row:=fun j=>det (x :: R) (j :: ps)
inductive Sp:List Row -> Row -> Prop
 | nil {x:Row} (h:∀ c,x c=0):Sp [] x
 | cons {w:Row} {W:List Row} {x y:Row} (a:Int) (h:∀ c,x c=a * w c + y c) (hy:Sp W y):Sp (w :: W) x
theorem Sp.zero:∀ (W:List Row),Sp W (fun _=>0)
 | []=>.nil fun _=>rfl
 | w :: W=>.cons 0 (fun c=>by omega) (Sp.zero W)
def rw (l:List Int):Row:=fun j=>l.getD j 0
def Br (w:Nat) (R:List Row) (ps:List Nat) (x:Row):List Int:=(List.range w).map (left R ps x)
inductive Ch (w:Nat):List Row -> List Nat -> List (Nat × List Int) -> Prop
 | nil:Ch w [] [] []
 | cons {R:List Row} {ps:List Nat} {kr:List (Nat × List Int)} {x:Row} {p:Nat} (h:Ch w R ps kr) (hp:p < w) (hn:left R ps x p ≠ 0):Ch w (x :: R) (p :: ps) ((p,Br w R ps x) :: kr)
theorem Ch.det {w:Nat} {R:List Row} {ps:List Nat} {kr:List (Nat × List Int)}:Ch w R ps kr -> det R ps ≠ 0
 | .nil=>by decide
 | .cons h hp hn=>hn
theorem Ch.ps {w:Nat} {R:List Row} {ps:List Nat} {kr:List (Nat × List Int)}:Ch w R ps kr -> ∀ p ∈ ps,p < w
 | .nil,_,h=>by cases h
 | .cons h hp hn,q,hq=>by
  rcases List.mem_cons.mp hq with rfl | hq
  ·exact hp
  ·exact h.ps q hq
theorem Ch.len {w:Nat} {R:List Row} {ps:List Nat} {kr:List (Nat × List Int)}:Ch w R ps kr -> R.length=kr.length /\ ps.length=kr.length
 | .nil=>⟨rfl,rfl⟩
 | .cons h hp hn=>by have:=h.len; simp only [List.length_cons]; omega
def EA (w:Nat) (r:Row) (l:Row):Prop:=∃ a b:Int,a ≠ 0 /\ b ≠ 0 /\ ∀ j < w,a * r j=b * l j
theorem EA.zero {w:Nat} {r l:Row} (h:EA w r l) {j:Nat} (hj:j < w):r j=0 ↔ l j=0:=by
 obtain ⟨a,b,ha,hb,e⟩:=h
 have ej:=e j hj
 constructor
 ·intro h0
  rw [h0,Int.mul_zero] at ej
  rcases Int.mul_eq_zero.mp ej.symm with z | z
  ·exact absurd z hb
  ·exact z
 ·intro h0
  rw [h0,Int.mul_zero] at ej
  rcases Int.mul_eq_zero.mp ej with z | z
  ·exact absurd z ha
  ·exact z
def fp (w:Nat) (x:Row):Option Nat:=(List.range w).find? fun j=>x j != 0
def fr (w:Nat):List Row -> Nat -> List Row -> List Nat -> List Nat
 | [],_,_,_=>[]
 | x :: rest,i,R,ps=>match fp w (left R ps x) with
  | none=>fr w rest (i + 1) R ps
  | some p=>i :: fr w rest (i + 1) (x :: R) (p :: ps)
theorem index {α:Type} {l:List α}:∀ {S:List α},(∀ x ∈ S,x ∈ l) -> ∀ d,∃ is:List Nat,(∀ i ∈ is,i < l.length) /\ S=is.map fun i=>l.getD i d
 | [],_,d=>⟨[],(fun _ h=>by cases h),rfl⟩
 | x :: S,h,d=>by
  obtain ⟨is,h1,h2⟩:=index (S:=S) (fun y hy=>h y (List.mem_cons_of_mem _ hy)) d
  obtain ⟨i,hi,e⟩:=List.getElem_of_mem (h x List.mem_cons_self)
  refine ⟨i :: is,fun j hj=>?_,?_⟩
  ·rcases List.mem_cons.mp hj with rfl | hj
   ·exact hi
   ·exact h1 j hj
  ·rw [List.map_cons,<- h2,List.getD_eq_getElem?_getD,List.getElem?_eq_getElem hi,e]; rfl
inductive Fw (w:Nat):List Row -> List Nat -> List (Nat × List Int) -> List Row -> List Nat -> Prop
 | nil {R:List Row} {ps:List Nat}:Fw w R ps [] R ps
 | cons {R R':List Row} {ps ps':List Nat} {ks:List (Nat × List Int)} {x:Row} {p:Nat} (hp:p < w) (hn:left R ps x p ≠ 0) (h:Fw w (x :: R) (p :: ps) ks R' ps'):Fw w R ps ((p,Br w R ps x) :: ks) R' ps'
theorem Fw.snoc {w:Nat} {R R':List Row} {ps ps':List Nat} {ks:List (Nat × List Int)} (h:Fw w R ps ks R' ps') {x:Row} {p:Nat} (hp:p < w) (hn:left R' ps' x p ≠ 0):Fw w R ps (ks ++ [(p,Br w R' ps' x)]) (x :: R') (p :: ps'):=by
 induction h with
 | nil=>exact .cons hp hn .nil
 | cons hp' hn' h ih=>exact .cons hp' hn' (ih hn)
end Dt
namespace Dq
abbrev Row:=Nat -> Rat
abbrev Fn:=List Nat -> Rat
def E (x:Row):Fn -> List Nat -> Rat
 | _,[]=>0
 | D,c :: cs=>x c * D cs - E x (fun l=>D (c :: l)) cs
def det:List Row -> Fn
 | []=>fun cs=>if cs=[] then 1 else 0
 | x :: R=>fun cs=>E x (det R) cs
def Alt (D:Fn):Prop:=∀ pre a b cs,D (pre ++ a :: b :: cs) = - D (pre ++ b :: a :: cs)
theorem Alt.tl {D:Fn} (h:Alt D) (c:Nat):Alt (fun l=>D (c :: l)):=fun pre a b cs=>h (c :: pre) a b cs
def F (f:Row -> Rat):(List Row -> Rat) -> List Row -> Rat
 | _,[]=>0
 | G,x :: R=>f x * G R - F f (fun S=>G (x :: S)) R
def sm (cs:List Nat) (f:Nat -> Rat):Rat:=(cs.map f).foldr (· + ·) 0
theorem G7 (f:Nat -> Rat):sm [] f=0:=rfl
theorem jM (c:Nat) (cs:List Nat) (f:Nat -> Rat):sm (c :: cs) f=f c + sm cs f:=rfl
theorem B3 (a b:Rat) (f g:Nat -> Rat):∀ cs,sm cs (fun k=>a * f k + b * g k)=a * sm cs f + b * sm cs g
 | []=>by simp only [G7]; grind
 | c :: cs=>by rw [jM,jM,jM,B3 a b f g cs]; grind
theorem zo:∀ cs,sm cs (fun _=>0)=0
 | []=>rfl
 | c :: cs=>by rw [jM,zo cs]; grind
theorem pE {f g:Nat -> Rat}:∀ {cs:List Nat},(∀ k ∈ cs,f k=g k) -> sm cs f=sm cs g
 | [],_=>rfl
 | c :: cs,h=>by rw [jM,jM,h c List.mem_cons_self,pE fun k hk=>h k (List.mem_cons_of_mem _ hk)]
end Dq
namespace Dt
def ins (a:Nat):List Nat -> List Nat
 | []=>[a]
 | b :: l=>if b < a then b :: ins a l else a :: b :: l
inductive Up:List Nat -> Prop
 | nil:Up []
 | cons {a:Nat} {l:List Nat} (h:∀ b ∈ l,a ≤ b) (u:Up l):Up (a :: l)
theorem yG {a:Nat}:∀ {l:List Nat} {x:Nat},x ∈ ins a l ↔ x=a \/ x ∈ l
 | [],x=>by simp [ins]
 | b :: l,x=>by
  unfold ins
  split
  ·rw [List.mem_cons,yG,List.mem_cons]
   grind
  ·simp
theorem Up.ins {a:Nat}:∀ {l:List Nat},Up l -> Up (ins a l)
 | [],_=>.cons (fun _ h=>by cases h) .nil
 | b :: l,.cons h u=>by
  unfold Dt.ins
  split
  ·next hb =>
   refine .cons (fun x hx=>?_) u.ins
   rcases yG.mp hx with rfl | hx
   ·omega
   ·exact h x hx
  ·next hb =>
   refine .cons (fun x hx=>?_) (.cons h u)
   rcases List.mem_cons.mp hx with rfl | hx
   ·omega
   ·have:=h x hx
    omega
def put (ps:List Nat) (c p:Nat):List Nat:=ps.map fun q=>if q=p then c else q
end Dt
namespace My
open PySem PySem.Spec PyProof.Rows L2 TM
def top (i:Nat):Stmt:=PySem.Challenge.pw_echohouse_k33_whole_answers_make_runs.main.body.getD i (.Pass ⟨0,0,0,0⟩)
section
variable {P:Program} {w:World} {K:PySem.W.Frag} {mg:Str -> Option Value} {base:Heap} {k:Nat} {f:Addr} {fd:FuncData}
abbrev oZ:Stmt:=top 11
def n0 (n:Nat) (d_half:List T -> Option T):FS:=
  (aV (m8 0 1 (aa (ak ux (aa (ae 0) ao)) (aa (ak ux (aa (ae 1) ao)) ao)))
  (aV (eL (eP (aG uC (ub iP (ae 1)) (fC (.int 4000)))) (aV (m8 0 1 (aa (ae 1) (aa (aG cU (ae 0) (ae 1)) ao)))
  (bY (eP (aG uC (ub iP (ae 1)) (fC (.int 4000)))) (jN (ak d_half (aa (ae 0) (aa (ae 1) ao))) (bX (ay (aj 0) (ay (aj 1) (ay (aj 2) bS))))) bI)) n)
  (aV (eL (eP (aG mM (ae 1) (fC (.int 0)))) (m8 0 1 (aa (ae 1) (aa (aG cU (ae 0) (ae 1)) ao))) n)
  (bE (ae 0)))))
theorem fG:aQ ["one", "other", "factors"] ["one", "other"] (aw oZ):=by walk_at "sc"
theorem Aa {d_half:List T -> Option T} {t_SHORT:Tok} (n:Nat) (F:eY K "common" "common" oZ f fd) (hb:Binds K fd ["one", "other"] []) (hm:mg "common" = some (.ref f)) (D_half:Def P w K mg base k "half" 2 d_half) (m_abs:mg "abs" = none) (g_SHORT:mg "SHORT" = some (.int 4000 t_SHORT)) :
  Def P w K mg base (k + 1) "common" 2 (cz 3 2 (n0 n d_half)):=
 bH F fG hb hm fun cdv A outer s H E hr=>(ar (pG rfl fG.nd rfl rfl (by decide) rfl rfl (ag (aN rC rfl m_abs rfl (ag (af 0 (pv 0)) aq)) (ag (aN rC rfl m_abs rfl (ag (af 1 (pv 1)) aq)) aq)) rfl)
  (ar (pH n PassesOwn.never (cS oV (jK (af 1 (pv 1))) (fR rfl g_SHORT) (bZ _)) (ar (pG rfl fG.nd rfl rfl (by decide) rfl rfl (ag (af 1 (pv 1)) (ag (aK dQ (af 0 (pv 0)) (af 1 (pv 1))) aq)) rfl)
  (aA (dt (cS oV (jK (af 1 (pv 1))) (fR rfl g_SHORT) (bZ _)) (aA (kH (aF D_half hr rfl (ag (af 0 (pv 0)) (ag (af 1 (pv 1)) aq)) (ah (ah aE))) (dC rfl (aL (az 0 fG.nd rfl (Or.inl rfl)) (aL (az 1 fG.nd rfl (Or.inl rfl)) (aL (az 2 fG.nd rfl (Or.inl rfl)) cD))) (aT (aT (aT di)))))) bU))))
  (ar (pH n PassesOwn.never (cS (mT hr.units) (af 1 (pv 1)) au (bZ _)) (aA (pG rfl fG.nd rfl rfl (by decide) rfl rfl (ag (af 1 (pv 1)) (ag (aK dQ (af 0 (pv 0)) (af 1 (pv 1))) aq)) rfl)))
  (aA (aY (af 0 (pv 0)))))))
abbrev G0:Stmt:=top 12
abbrev kz:Stmt:=top 21
def kh:FS:=
  (bE (dZ (ak bg (aa (ae 0) (aa (fC (.ty "int")) ao))) (ub C3 (ak bg (aa (ae 0) (aa (fC (.ty "bool")) ao))))))
theorem vP:aQ ["thing"] ["thing"] (aw kz):=by walk_at "sc"
theorem vy (F:eY K "is_whole" "is_whole" kz f fd) (hb:Binds K fd ["thing"] []) (hm:mg "is_whole" = some (.ref f)) (m_int:mg "int" = none) (m_isinstance:mg "isinstance" = none) (m_bool:mg "bool" = none) :
  Def P w K mg base (k + 1) "is_whole" 1 (cz 1 1 (kh)):=
 bH F vP hb hm fun cdv A outer s H E hr=>(aA (aY (eV (aN eG rfl m_isinstance rfl (ag (af 0 (pv 0)) (ag (gD rfl m_int rfl) aq))) (kE (G1 (aN eG rfl m_isinstance rfl (ag (af 0 (pv 0)) (ag (gD rfl m_bool rfl) aq))))))))
abbrev fE:Stmt:=top 22
def dX (d_is_whole:List T -> Option T):FS:=
  (bE (dZ (ak d_is_whole (aa (ae 0) ao)) (fU we Bf (fC (.int 0)) (ae 0) (ae 1))))
theorem lB:aQ ["thing", "many"] ["thing", "many"] (aw fE):=by walk_at "sc"
theorem lg {d_is_whole:List T -> Option T} (F:eY K "is_whole_below" "is_whole_below" fE f fd) (hb:Binds K fd ["thing", "many"] []) (hm:mg "is_whole_below" = some (.ref f)) (D_is_whole:Def P w K mg base k "is_whole" 1 d_is_whole) :
  Def P w K mg base (k + 1) "is_whole_below" 2 (cz 2 2 (dX d_is_whole)):=
 bH F lB hb hm fun cdv A outer s H E hr=>(aA (aY (eV (aF D_is_whole hr rfl (ag (af 0 (pv 0)) aq) (ah aE)) (kE (BV vz vA au (af 0 (pv 0)) (af 1 (pv 1)))))))
abbrev hU:Stmt:=top 23
def gW (d_is_whole d_common:List T -> Option T):FS:=
  (aV (bY (m7 (cj (cn (ak bg (aa (ae 0) (aa (fC (.ty "tuple")) ao))))) (eP (aG mM (ak bM (aa (ae 0) ao)) (fC (.int 2))))) (bE (fC (.bl false))) bI)
  (aV (jN (ae 0) (bX (ay (aj 1) (ay (aj 2) bS))))
  (bE (dZ (ak d_is_whole (aa (ae 1) ao)) (dZ (ak d_is_whole (aa (ae 2) ao)) (dZ (aG Kj (ae 2) (fC (.int 1))) (aG mL (ak d_common (aa (ae 1) (aa (ae 2) ao))) (fC (.int 1)))))))))
theorem gB:aQ ["thing", "top", "bottom"] ["thing"] (aw hU):=by walk_at "sc"
theorem oT {d_is_whole:List T -> Option T} {d_common:List T -> Option T} (F:eY K "is_fraction" "is_fraction" hU f fd) (hb:Binds K fd ["thing"] []) (hm:mg "is_fraction" = some (.ref f)) (D_is_whole:Def P w K mg base k "is_whole" 1 d_is_whole) (D_common:Def P w K mg base k "common" 2 d_common) (m_tuple:mg "tuple" = none) (m_isinstance:mg "isinstance" = none) (m_len:mg "len" = none) :
  Def P w K mg base (k + 1) "is_fraction" 1 (cz 3 1 (gW d_is_whole d_common)):=
 bH F gB hb hm fun cdv A outer s H E hr=>(ar (dt (SW.st (lG (dq (dE (aN eG rfl m_isinstance rfl (ag (af 0 (pv 0)) (ag (gD rfl m_tuple rfl) aq))))) (jy (cS (mT hr.units) (aN cF rfl m_len PySem.boot_len (ag (af 0 (pv 0)) aq)) au (bZ _))))) (aA (aY gS)) bU)
  (ar (kH (af 0 (pv 0)) (dC rfl (aL (az 1 gB.nd rfl (Or.inl rfl)) (aL (az 2 gB.nd rfl (Or.inl rfl)) cD)) (aT (aT di))))
  (aA (aY (eV (aF D_is_whole hr rfl (ag (af 1 (pv 1)) aq) (ah aE)) (eV (aF D_is_whole hr rfl (ag (af 2 (pv 2)) aq) (ah aE)) (eV (kC IZ (af 2 (pv 2)) au (bZ _)) (kE (kC (mS hr.units) (aF D_common hr rfl (ag (af 1 (pv 1)) (ag (af 2 (pv 2)) aq)) (ah (ah aE))) au (bZ _))))))))))
abbrev xD:Stmt:=top 24
def wu (d_common:List T -> Option T):FS:=
  (aV (bY (eP (aG mL (ae 1) (fC (.int 0)))) eH bI)
  (aV (bh 2 (ak d_common (aa (ae 0) (aa (ae 1) ao))))
  (aV (bY (eP (aG Bf (ae 1) (fC (.int 0)))) (bh 2 (ub wK (ae 2))) bI)
  (aV (bY (eP (aG Bf (ub iP (ae 2)) (fC (.int 8000)))) (bE (fz (aa (aG cP (ae 0) (ae 2)) (aa (aG cP (ae 1) (ae 2)) ao)))) bI)
  eH))))
theorem tW:aQ ["top", "bottom", "shared"] ["top", "bottom"] (aw xD):=by walk_at "sc"
theorem DA {d_common:List T -> Option T} {t_SHORT_QUOTIENT:Tok} (F:eY K "frac" "frac" xD f fd) (hb:Binds K fd ["top", "bottom"] []) (hm:mg "frac" = some (.ref f)) (D_common:Def P w K mg base k "common" 2 d_common) (g_SHORT_QUOTIENT:mg "SHORT_QUOTIENT" = some (.int 8000 t_SHORT_QUOTIENT)) :
  Def P w K mg base (k + 1) "frac" 2 (cz 3 2 (wu d_common)):=
 bH F tW hb hm fun cdv A outer s H E hr=>(ar (dt (cS (mS hr.units) (af 1 (pv 1)) au (bZ _)) (aA gE) bU)
  (ar (aZ 2 tW.nd rfl (Or.inl rfl) (aF D_common hr rfl (ag (af 0 (pv 0)) (ag (af 1 (pv 1)) aq)) (ah (ah aE))))
  (ar (dt (cS vA (af 1 (pv 1)) au (bZ _)) (aA (aZ 2 tW.nd rfl (Or.inl rfl) (E9 Cc (af 2 (pv 2))))) bU)
  (ar (dt (cS vA (jK (af 2 (pv 2))) (fR rfl g_SHORT_QUOTIENT) (bZ _)) (aA (aY (fI (ag (aK cC (af 0 (pv 0)) (af 2 (pv 2))) (ag (aK cC (af 1 (pv 1)) (af 2 (pv 2))) aq))))) bU)
  Aq))))
abbrev xE:Stmt:=top 25
def wx (d_common:List T -> Option T):FS:=
  (aV (bh 2 (ak d_common (aa (aG bN (ae 0) (fC (.int 1))) (aa (aG bN (ae 1) (fC (.int 1))) ao))))
  (aV (bh 3 (aG cq (aG aX (aG bN (ae 0) (fC (.int 0))) (aG cP (aG bN (ae 1) (fC (.int 1))) (ae 2))) (aG aX (aG bN (ae 1) (fC (.int 0))) (aG cP (aG bN (ae 0) (fC (.int 1))) (ae 2)))))
  (aV (bh 4 (ak d_common (aa (ae 3) (aa (ae 2) ao))))
  (bE (fz (aa (aG cP (ae 3) (ae 4)) (aa (aG aX (aG cP (aG bN (ae 0) (fC (.int 1))) (ae 2)) (aG cP (aG bN (ae 1) (fC (.int 1))) (ae 4))) ao)))))))
theorem nT:aQ ["one", "other", "shared", "top", "low"] ["one", "other"] (aw xE):=by walk_at "sc"
theorem DB {d_common:List T -> Option T} (F:eY K "plus" "plus" xE f fd) (hb:Binds K fd ["one", "other"] []) (hm:mg "plus" = some (.ref f)) (D_common:Def P w K mg base k "common" 2 d_common) :
  Def P w K mg base (k + 1) "plus" 2 (cz 5 2 (wx d_common)):=
 bH F nT hb hm fun cdv A outer s H E hr=>(ar (aZ 2 nT.nd rfl (Or.inl rfl) (aF D_common hr rfl (ag (bx bz (af 0 (pv 0)) au (fun _ _=>rfl)) (ag (bx bz (af 1 (pv 1)) au (fun _ _=>rfl)) aq)) (ah (ah aE))))
  (ar (aZ 3 nT.nd rfl (Or.inl rfl) (aK cQ (aK bo (bx bz (af 0 (pv 0)) au (fun _ _=>rfl)) (aK cC (bx bz (af 1 (pv 1)) au (fun _ _=>rfl)) (af 2 (pv 2)))) (aK bo (bx bz (af 1 (pv 1)) au (fun _ _=>rfl)) (aK cC (bx bz (af 0 (pv 0)) au (fun _ _=>rfl)) (af 2 (pv 2))))))
  (ar (aZ 4 nT.nd rfl (Or.inl rfl) (aF D_common hr rfl (ag (af 3 (pv 3)) (ag (af 2 (pv 2)) aq)) (ah (ah aE))))
  (aA (aY (fI (ag (aK cC (af 3 (pv 3)) (af 4 (pv 4))) (ag (aK bo (aK cC (bx bz (af 0 (pv 0)) au (fun _ _=>rfl)) (af 2 (pv 2))) (aK cC (bx bz (af 1 (pv 1)) au (fun _ _=>rfl)) (af 4 (pv 4)))) aq))))))))
abbrev tP:Stmt:=top 26
def rg (d_common:List T -> Option T):FS:=
  (aV (bh 2 (ak d_common (aa (aG bN (ae 0) (fC (.int 0))) (aa (aG bN (ae 1) (fC (.int 1))) ao))))
  (aV (bh 3 (ak d_common (aa (aG bN (ae 1) (fC (.int 0))) (aa (aG bN (ae 0) (fC (.int 1))) ao))))
  (bE (fz (aa (aG aX (aG cP (aG bN (ae 0) (fC (.int 0))) (ae 2)) (aG cP (aG bN (ae 1) (fC (.int 0))) (ae 3))) (aa (aG aX (aG cP (aG bN (ae 0) (fC (.int 1))) (ae 3)) (aG cP (aG bN (ae 1) (fC (.int 1))) (ae 2))) ao))))))
theorem pB:aQ ["one", "other", "left", "right"] ["one", "other"] (aw tP):=by walk_at "sc"
theorem BG {d_common:List T -> Option T} (F:eY K "times" "times" tP f fd) (hb:Binds K fd ["one", "other"] []) (hm:mg "times" = some (.ref f)) (D_common:Def P w K mg base k "common" 2 d_common) :
  Def P w K mg base (k + 1) "times" 2 (cz 4 2 (rg d_common)):=
 bH F pB hb hm fun cdv A outer s H E hr=>(ar (aZ 2 pB.nd rfl (Or.inl rfl) (aF D_common hr rfl (ag (bx bz (af 0 (pv 0)) au (fun _ _=>rfl)) (ag (bx bz (af 1 (pv 1)) au (fun _ _=>rfl)) aq)) (ah (ah aE))))
  (ar (aZ 3 pB.nd rfl (Or.inl rfl) (aF D_common hr rfl (ag (bx bz (af 1 (pv 1)) au (fun _ _=>rfl)) (ag (bx bz (af 0 (pv 0)) au (fun _ _=>rfl)) aq)) (ah (ah aE))))
  (aA (aY (fI (ag (aK bo (aK cC (bx bz (af 0 (pv 0)) au (fun _ _=>rfl)) (af 2 (pv 2))) (aK cC (bx bz (af 1 (pv 1)) au (fun _ _=>rfl)) (af 3 (pv 3)))) (ag (aK bo (aK cC (bx bz (af 0 (pv 0)) au (fun _ _=>rfl)) (af 3 (pv 3))) (aK cC (bx bz (af 1 (pv 1)) au (fun _ _=>rfl)) (af 2 (pv 2)))) aq)))))))
theorem vm:(["number"]:List Str).Nodup:=by decide +kernel
abbrev pe:Stmt:=top 28
def uo (d_is_fraction:List T -> Option T):FS:=
  (bE (dZ (ak bg (aa (ae 0) (aa (fC (.ty "list")) ao))) (dZ (aG mL (ak bM (aa (ae 0) ao)) (ae 1)) (ak om (aa (bR 1 [] (aW (ae 0)) (aj 0) av (ak d_is_fraction (aa (ae 0) ao))) ao)))))
theorem Ai:aQ ["thing", "many"] ["thing", "many"] (aw pe):=by walk_at "sc"
theorem Ab {d_is_fraction:List T -> Option T} (F:eY K "is_row" "is_row" pe f fd) (hb:Binds K fd ["thing", "many"] []) (hm:mg "is_row" = some (.ref f)) (D_is_fraction:Def P w K mg base k "is_fraction" 1 d_is_fraction) (m_list:mg "list" = none) (m_isinstance:mg "isinstance" = none) (m_len:mg "len" = none) (m_all:mg "all" = none) :
  Def P w K mg base (k + 1) "is_row" 2 (cz 2 2 (uo d_is_fraction)):=
 bH F Ai hb hm fun cdv A outer s H E hr=>(aA (aY (eV (aN eG rfl m_isinstance rfl (ag (af 0 (pv 0)) (ag (gD rfl m_list rfl) aq))) (eV (kC (mS hr.units) (aN cF rfl m_len PySem.boot_len (ag (af 0 (pv 0)) aq)) (af 1 (pv 1)) (bZ _)) (kE (aN (wC rfl) rfl m_all rfl (ag (bT (N':=["number"]) (no:=1) (cap:=[]) rfl rfl (aM rfl) rfl (bP rfl) (cm (af 0 (pv 0))) (fun _ _ _ _ _ _=>(az 0 vm rfl (Or.inl rfl))) (fun _ _ _ _ _ _=>bC) (fun _ _ _ _ _ _=>(aF D_is_fraction hr rfl (ag (af 0 (pv 0)) aq) (ah aE)))) aq)))))))
theorem qf:(["row", "wide"]:List Str).Nodup:=by decide +kernel
abbrev ky:Stmt:=top 29
def iB (d_is_row:List T -> Option T):FS:=
  (bE (dZ (ak bg (aa (ae 0) (aa (fC (.ty "list")) ao))) (dZ (aG mL (ak bM (aa (ae 0) ao)) (ae 1)) (ak om (aa (bR 1 [2] (aW (ae 0)) (aj 0) av (ak d_is_row (aa (ae 0) (aa (ae 1) ao)))) ao)))))
theorem vO:aQ ["thing", "many", "wide"] ["thing", "many", "wide"] (aw ky):=by walk_at "sc"
theorem vx {d_is_row:List T -> Option T} (F:eY K "is_table" "is_table" ky f fd) (hb:Binds K fd ["thing", "many", "wide"] []) (hm:mg "is_table" = some (.ref f)) (D_is_row:Def P w K mg base k "is_row" 2 d_is_row) (m_list:mg "list" = none) (m_isinstance:mg "isinstance" = none) (m_len:mg "len" = none) (m_all:mg "all" = none) :
  Def P w K mg base (k + 1) "is_table" 3 (cz 3 3 (iB d_is_row)):=
 bH F vO hb hm fun cdv A outer s H E hr=>(aA (aY (eV (aN eG rfl m_isinstance rfl (ag (af 0 (pv 0)) (ag (gD rfl m_list rfl) aq))) (eV (kC (mS hr.units) (aN cF rfl m_len PySem.boot_len (ag (af 0 (pv 0)) aq)) (af 1 (pv 1)) (bZ _)) (kE (aN (wC rfl) rfl m_all rfl (ag (bT (N':=["row", "wide"]) (no:=1) (cap:=[2]) rfl rfl (aM rfl) rfl (bP rfl) (cm (af 0 (pv 0))) (fun _ _ _ _ _ _=>(az 0 qf rfl (Or.inl rfl))) (fun _ _ _ _ _ _=>bC) (fun _ _ _ _ _ _=>(aF D_is_row hr rfl (ag (af 0 (pv 0)) (ag (af 1 (pv 1)) aq)) (ah (ah aE))))) aq)))))))
abbrev mm:Stmt:=top 30
def qt (d_times d_plus:List T -> Option T):FS:=
  (aV (bh 2 (fC (.tup [.int 0,.int 1])))
  (aV (fO (dP (aa (ae 0) (aa (ae 1) ao))) (bX (ay (aj 3) (ay (aj 4) bS))) (bh 2 (ak d_plus (aa (ae 2) (aa (ak d_times (aa (ae 3) (aa (ae 4) ao))) ao)))))
  (bE (ae 2))))
theorem gC:aQ ["one", "other", "total", "left", "right"] ["one", "other"] (aw mm):=by walk_at "sc"
theorem xq {d_times:List T -> Option T} {d_plus:List T -> Option T} {a_NOUGHT:Addr} {od_NOUGHT:Option Addr} {t_NOUGHT u_NOUGHT:Tok} {n_NOUGHT:Nat} {sl_NOUGHT:Array (Option Value)} (F:eY K "weighed" "weighed" mm f fd) (hb:Binds K fd ["one", "other"] []) (hm:mg "weighed" = some (.ref f)) (D_times:Def P w K mg base k "times" 2 d_times) (D_plus:Def P w K mg base k "plus" 2 d_plus) (m_zip:mg "zip" = none) (g_NOUGHT:mg "NOUGHT" = some (.ref a_NOUGHT)) (h_NOUGHT:K.lookup a_NOUGHT=some ⟨.type "tuple", od_NOUGHT,.seq #[.int 0 t_NOUGHT,.int 1 u_NOUGHT] n_NOUGHT,sl_NOUGHT⟩) :
  Def P w K mg base (k + 1) "weighed" 2 (cz 5 2 (qt d_times d_plus)):=
 bH F gC hb hm fun cdv A outer s H E hr=>(ar (aZ 2 gC.nd rfl (Or.inl rfl) (BW rfl g_NOUGHT h_NOUGHT))
  (ar (ia PassesOwn.never rfl (kG rfl m_zip (ag (af 0 (pv 0)) (ag (af 1 (pv 1)) aq))) (dC rfl (aL (az 3 gC.nd rfl (Or.inl rfl)) (aL (az 4 gC.nd rfl (Or.inl rfl)) cD)) (aT (aT di))) (aA (aZ 2 gC.nd rfl (Or.inl rfl) (aF D_plus hr rfl (ag (af 2 (pv 2)) (ag (aF D_times hr rfl (ag (af 3 (pv 3)) (ag (af 4 (pv 4)) aq)) (ah (ah aE))) aq)) (ah (ah aE))))))
  (aA (aY (af 2 (pv 2))))))
theorem sT:(["number"]:List Str).Nodup:=by decide +kernel
theorem sV:(["numbers"]:List Str).Nodup:=by decide +kernel
abbrev mj:Stmt:=top 31
def qr (d_product:List T -> Option T):FS:=
  (bE (bR 1 [] (aW (ak d_product (aa (ae 0) (aa (bR 1 [] (aW (ae 1)) (aj 0) av (kl (aa (ae 0) ao))) (aa (fC (.int 1)) ao))))) (aj 0) av (aG bN (ae 0) (fC (.int 0)))))
theorem xF:aQ ["table", "row"] ["table", "row"] (aw mj):=by walk_at "sc"
theorem xp {d_product:List T -> Option T} (F:eY K "applied" "applied" mj f fd) (hb:Binds K fd ["table", "row"] []) (hm:mg "applied" = some (.ref f)) (D_product:Def P w K mg base k "product" 3 d_product) :
  Def P w K mg base (k + 1) "applied" 2 (cz 2 2 (qr d_product)):=
 bH F xF hb hm fun cdv A outer s H E hr=>(aA (aY (bT (N':=["numbers"]) (no:=1) (cap:=[]) rfl rfl (aM rfl) rfl (bP rfl) (cm (aF D_product hr rfl (ag (af 0 (pv 0)) (ag (bT (N':=["number"]) (no:=1) (cap:=[]) rfl rfl (aM rfl) rfl (bP rfl) (cm (af 1 (pv 1))) (fun _ _ _ _ _ _=>(az 0 sT rfl (Or.inl rfl))) (fun _ _ _ _ _ _=>bC) (fun _ _ _ _ _ _=>(tX (ag (af 0 (pv 0)) aq)))) (ag au aq))) (ah (ah (ah aE))))) (fun _ _ _ _ _ _=>(az 0 sV rfl (Or.inl rfl))) (fun _ _ _ _ _ _=>bC) (fun _ _ _ _ _ _=>(bx bz (af 0 (pv 0)) au (fun _ _=>rfl))))))
theorem sW:(["row"]:List Str).Nodup:=by decide +kernel
theorem sX:(["column"]:List Str).Nodup:=by decide +kernel
theorem sY:(["row", "lifted_columns"]:List Str).Nodup:=by decide +kernel
theorem sZ:(["column", "row"]:List Str).Nodup:=by decide +kernel
abbrev ml:Stmt:=top 32
def gh (d_lifted d_turned d_weighed_lifted:List T -> Option T):zJ:=
  (mK (ou 3 1 [] (aW (ae 0)) (aj 0) av (ak d_lifted (aa (ae 0) ao)))
  (mK (bh 4 (bR 1 [] (aW (ak d_turned (aa (ae 1) (aa (ae 2) ao)))) (aj 0) av (ak d_lifted (aa (ae 0) ao))))
  (ot (ef 1 [4] (aW (ae 3)) (aj 0) av (ef 1 [0] (aW (ae 1)) (aj 0) av (m9 (ak d_weighed_lifted (aa (ae 1) (aa (ae 0) ao)))))))))
theorem kB:aQ ["one", "other", "wide", "lifted_rows", "lifted_columns"] ["one", "other", "wide"] (aw ml):=by walk_at "sc"
theorem vt {d_lifted:List T -> Option T} {d_turned:List T -> Option T} {d_weighed_lifted:List T -> Option T} (F:eY K "product" "product" ml f fd) (hb:Binds K fd ["one", "other", "wide"] []) (hm:mg "product" = some (.ref f)) (D_lifted:Def P w K mg base k "lifted" 1 d_lifted) (D_turned:Def P w K mg base k "turned" 2 d_turned) (D_weighed_lifted:Def P w K mg base k "weighed_lifted" 2 d_weighed_lifted) :
  iU P w K mg base (k + 1) "product" 3 (lU 5 3 (gh d_lifted d_turned d_weighed_lifted)):=
 rH F kB hb hm fun cdv A outer s H E hr=>(pI (xO kB.nd rfl rfl (N':=["row"]) (no:=1) (cap:=[]) rfl rfl (aM rfl) rfl (bP rfl) (cm (af 0 (pv 0))) (fun _ _ _ _ _ _=>(az 0 sW rfl (Or.inl rfl))) (fun _ _ _ _ _ _=>bC) (fun _ _ _ _ _ _=>(aF D_lifted hr rfl (ag (af 0 (pv 0)) aq) (ah aE))))
  (pI (aZ 4 kB.nd rfl (Or.inr rfl) (bT (N':=["column"]) (no:=1) (cap:=[]) rfl rfl (aM rfl) rfl (bP rfl) (cm (aF D_turned hr rfl (ag (af 1 (pv 1)) (ag (af 2 (pv 2)) aq)) (ah (ah aE)))) (fun _ _ _ _ _ _=>(az 0 sX rfl (Or.inl rfl))) (fun _ _ _ _ _ _=>bC) (fun _ _ _ _ _ _=>(aF D_lifted hr rfl (ag (af 0 (pv 0)) aq) (ah aE)))))
  (zu (il (N':=["row", "lifted_columns"]) (no:=1) (cap:=[4]) rfl rfl (aM rfl) rfl (bP rfl) (cm (af 3 (pv 3))) (fun _ _ _ _ _ _=>(az 0 sY rfl (Or.inr rfl))) (fun _ _ _ _ _ _=>bC) (fun _ _ _ _ _ _=>(il (N':=["column", "row"]) (no:=1) (cap:=[0]) rfl rfl (aM rfl) rfl (bP rfl) (cm (af 1 (pv 1))) (fun _ _ _ _ _ _=>(az 0 sZ rfl (Or.inl rfl))) (fun _ _ _ _ _ _=>bC) (fun _ _ _ _ _ _=>(SE.seo (aF D_weighed_lifted hr rfl (ag (af 1 (pv 1)) (ag (af 0 (pv 0)) aq)) (ah (ah aE)))))))))))
theorem mQ:(["top", "bottom"]:List Str).Nodup:=by decide +kernel
abbrev pf:Stmt:=top 33
def n9 (d_shared_bottom d_raised:List T -> Option T):FS:=
  (aV (bh 1 (ak d_shared_bottom (aa (ae 0) ao)))
  (bE (fz (aa (ae 0) (aa (ak d_raised (aa (ae 0) (aa (ae 1) ao))) (aa (ae 1) (aa (aG yF (bR 2 [] (aW (ae 0)) (bX (ay (aj 0) (ay (aj 1) bS))) av (ub iP (ae 1))) (fC (.int 1))) ao)))))))
theorem qQ:aQ ["row", "low"] ["row"] (aw pf):=by walk_at "sc"
theorem Ac {d_shared_bottom:List T -> Option T} {d_raised:List T -> Option T} (F:eY K "lifted" "lifted" pf f fd) (hb:Binds K fd ["row"] []) (hm:mg "lifted" = some (.ref f)) (D_shared_bottom:Def P w K mg base k "shared_bottom" 1 d_shared_bottom) (D_raised:Def P w K mg base k "raised" 2 d_raised) (m_max:mg "max" = none) :
  Def P w K mg base (k + 1) "lifted" 1 (cz 2 1 (n9 d_shared_bottom d_raised)):=
 bH F qQ hb hm fun cdv A outer s H E hr=>(ar (aZ 1 qQ.nd rfl (Or.inl rfl) (aF D_shared_bottom hr rfl (ag (af 0 (pv 0)) aq) (ah aE)))
  (aA (aY (fI (ag (af 0 (pv 0)) (ag (aF D_raised hr rfl (ag (af 0 (pv 0)) (ag (af 1 (pv 1)) aq)) (ah (ah aE))) (ag (af 1 (pv 1)) (ag (D0 rfl rfl m_max (bT (N':=["top", "bottom"]) (no:=2) (cap:=[]) rfl rfl (aM rfl) rfl (bP rfl) (cm (af 0 (pv 0))) (fun _ _ _ _ _ _=>(dC rfl (aL (az 0 mQ rfl (Or.inl rfl)) (aL (az 1 mQ rfl (Or.inl rfl)) cD)) (aT (aT di)))) (fun _ _ _ _ _ _=>bC) (fun _ _ _ _ _ _=>(jK (af 1 (pv 1))))) au) aq))))))))
theorem fZ:(["left", "right"]:List Str).Nodup:=by decide +kernel
abbrev fF:Stmt:=top 34
def fy (d_weighed d_frac:List T -> Option T):FS:=
  (aV (jN (ae 0) (bX (ay (aj 2) (ay (aj 3) (ay (aj 4) (ay (aj 5) bS))))))
  (aV (jN (ae 1) (bX (ay (aj 6) (ay (aj 7) (ay (aj 8) (ay (aj 9) bS))))))
  (aV (bY (eP (aG uC (aG cq (ub iP (ae 4)) (ub iP (ae 8))) (aG cq (aG aX (fC (.int 4)) (aG cq (ae 5) (ae 9))) (fC (.int 128))))) (bE (ak d_weighed (aa (ae 2) (aa (ae 6) ao)))) bI)
  (bE (ak d_frac (aa (ak AS (aa (bR 2 [] (dP (aa (ae 3) (aa (ae 7) ao))) (bX (ay (aj 0) (ay (aj 1) bS))) av (aG aX (ae 0) (ae 1))) ao)) (aa (aG aX (ae 4) (ae 8)) ao)))))))
theorem bG:aQ ["one", "other", "row", "tops", "low", "longest", "other_row", "other_tops", "other_low", "other_longest"] ["one", "other"] (aw fF):=by walk_at "sc"
theorem lh {d_weighed:List T -> Option T} {d_frac:List T -> Option T} (F:eY K "weighed_lifted" "weighed_lifted" fF f fd) (hb:Binds K fd ["one", "other"] []) (hm:mg "weighed_lifted" = some (.ref f)) (D_weighed:Def P w K mg base k "weighed" 2 d_weighed) (D_frac:Def P w K mg base k "frac" 2 d_frac) (m_zip:mg "zip" = none) (m_sum:mg "sum" = none) :
  Def P w K mg base (k + 1) "weighed_lifted" 2 (cz 10 2 (fy d_weighed d_frac)):=
 bH F bG hb hm fun cdv A outer s H E hr=>(ar (kH (af 0 (pv 0)) (dC rfl (aL (az 2 bG.nd rfl (Or.inl rfl)) (aL (az 3 bG.nd rfl (Or.inl rfl)) (aL (az 4 bG.nd rfl (Or.inl rfl)) (aL (az 5 bG.nd rfl (Or.inl rfl)) cD)))) (aT (aT (aT (aT di))))))
  (ar (kH (af 1 (pv 1)) (dC rfl (aL (az 6 bG.nd rfl (Or.inl rfl)) (aL (az 7 bG.nd rfl (Or.inl rfl)) (aL (az 8 bG.nd rfl (Or.inl rfl)) (aL (az 9 bG.nd rfl (Or.inl rfl)) cD)))) (aT (aT (aT (aT di))))))
  (ar (dt (cS oV (aK cQ (jK (af 4 (pv 4))) (jK (af 8 (pv 8)))) (aK cQ (aK bo au (aK cQ (af 5 (pv 5)) (af 9 (pv 9)))) au) (bZ _)) (aA (aY (aF D_weighed hr rfl (ag (af 2 (pv 2)) (ag (af 6 (pv 6)) aq)) (ah (ah aE))))) bU)
  (aA (aY (aF D_frac hr rfl (ag (aN (AL rfl) rfl m_sum rfl (ag (bT (N':=["left", "right"]) (no:=2) (cap:=[]) rfl rfl (aM rfl) rfl (bP rfl) (kG rfl m_zip (ag (af 3 (pv 3)) (ag (af 7 (pv 7)) aq))) (fun _ _ _ _ _ _=>(dC rfl (aL (az 0 fZ rfl (Or.inl rfl)) (aL (az 1 fZ rfl (Or.inl rfl)) cD)) (aT (aT di)))) (fun _ _ _ _ _ _=>bC) (fun _ _ _ _ _ _=>(aK bo (af 0 (pv 0)) (af 1 (pv 1))))) aq)) (ag (aK bo (af 4 (pv 4)) (af 8 (pv 8))) aq)) (ah (ah aE))))))))
abbrev fW:Stmt:=top 35
def fT (d_common:List T -> Option T):FS:=
  (aV (bh 1 (fC (.int 1)))
  (aV (fO (aW (ae 0)) (bX (ay (aj 2) (ay (aj 3) bS))) (bh 1 (aG aX (aG cP (ae 1) (ak d_common (aa (ae 1) (aa (ae 3) ao)))) (ae 3))))
  (bE (ae 1))))
theorem cZ:aQ ["row", "low", "top", "bottom"] ["row"] (aw fW):=by walk_at "sc"
theorem lX {d_common:List T -> Option T} (F:eY K "shared_bottom" "shared_bottom" fW f fd) (hb:Binds K fd ["row"] []) (hm:mg "shared_bottom" = some (.ref f)) (D_common:Def P w K mg base k "common" 2 d_common) :
  Def P w K mg base (k + 1) "shared_bottom" 1 (cz 4 1 (fT d_common)):=
 bH F cZ hb hm fun cdv A outer s H E hr=>(ar (aZ 1 cZ.nd rfl (Or.inl rfl) au)
  (ar (ia PassesOwn.never rfl (cm (af 0 (pv 0))) (dC rfl (aL (az 2 cZ.nd rfl (Or.inl rfl)) (aL (az 3 cZ.nd rfl (Or.inl rfl)) cD)) (aT (aT di))) (aA (aZ 1 cZ.nd rfl (Or.inl rfl) (aK bo (aK cC (af 1 (pv 1)) (aF D_common hr rfl (ag (af 1 (pv 1)) (ag (af 3 (pv 3)) aq)) (ah (ah aE)))) (af 3 (pv 3))))))
  (aA (aY (af 1 (pv 1))))))
theorem mR:(["top", "bottom", "low"]:List Str).Nodup:=by decide +kernel
abbrev ph:Stmt:=top 36
def ur:FS:=
  (bE (bR 2 [1] (aW (ae 0)) (bX (ay (aj 0) (ay (aj 1) bS))) av (aG aX (ae 0) (aG cP (ae 2) (ae 1)))))
theorem Aj:aQ ["row", "low"] ["row", "low"] (aw ph):=by walk_at "sc"
theorem Ad (F:eY K "raised" "raised" ph f fd) (hb:Binds K fd ["row", "low"] []) (hm:mg "raised" = some (.ref f)) :
  Def P w K mg base (k + 1) "raised" 2 (cz 2 2 (ur)):=
 bH F Aj hb hm fun cdv A outer s H E hr=>(aA (aY (bT (N':=["top", "bottom", "low"]) (no:=2) (cap:=[1]) rfl rfl (aM rfl) rfl (bP rfl) (cm (af 0 (pv 0))) (fun _ _ _ _ _ _=>(dC rfl (aL (az 0 mR rfl (Or.inl rfl)) (aL (az 1 mR rfl (Or.inl rfl)) cD)) (aT (aT di)))) (fun _ _ _ _ _ _=>bC) (fun _ _ _ _ _ _=>(aK bo (af 0 (pv 0)) (aK cC (af 2 (pv 2)) (af 1 (pv 1))))))))
theorem vn:(["place", "table"]:List Str).Nodup:=by decide +kernel
theorem vo:(["row", "place"]:List Str).Nodup:=by decide +kernel
abbrev pj:Stmt:=top 37
def jf:zJ:=
  (ot (ef 1 [0] (dB (aa (ae 1) ao)) (aj 0) av (ef 1 [0] (aW (ae 1)) (aj 0) av (m9 (aG bN (ae 0) (ae 1))))))
theorem Ak:aQ ["table", "wide"] ["table", "wide"] (aw pj):=by walk_at "sc"
theorem xm (F:eY K "turned" "turned" pj f fd) (hb:Binds K fd ["table", "wide"] []) (hm:mg "turned" = some (.ref f)) (m_range:mg "range" = none) :
  iU P w K mg base (k + 1) "turned" 2 (lU 2 2 (jf)):=
 rH F Ak hb hm fun cdv A outer s H E hr=>(zu (il (N':=["place", "table"]) (no:=1) (cap:=[0]) rfl rfl (aM rfl) rfl (bP rfl) (iM rfl m_range (ag (af 1 (pv 1)) aq)) (fun _ _ _ _ _ _=>(az 0 vn rfl (Or.inr rfl))) (fun _ _ _ _ _ _=>bC) (fun _ _ _ _ _ _=>(il (N':=["row", "place"]) (no:=1) (cap:=[0]) rfl rfl (aM rfl) rfl (bP rfl) (cm (af 1 (pv 1))) (fun _ _ _ _ _ _=>(az 0 vo rfl (Or.inl rfl))) (fun _ _ _ _ _ _=>bC) (fun _ _ _ _ _ _=>(SE.seo (bx bz (af 0 (pv 0)) (af 1 (pv 1)) (fun _ _=>rfl))))))))
theorem kZ:(["left", "right"]:List Str).Nodup:=by decide +kernel
abbrev mr:Stmt:=top 38
def jB:FS:=
  (bE (bR 2 [] (dP (aa (ae 0) (aa (ae 1) ao))) (bX (ay (aj 0) (ay (aj 1) bS))) av (aG cq (ae 0) (ae 1))))
theorem xG:aQ ["one", "other"] ["one", "other"] (aw mr):=by walk_at "sc"
theorem xr (F:eY K "widened" "widened" mr f fd) (hb:Binds K fd ["one", "other"] []) (hm:mg "widened" = some (.ref f)) (m_zip:mg "zip" = none) :
  Def P w K mg base (k + 1) "widened" 2 (cz 2 2 (jB)):=
 bH F xG hb hm fun cdv A outer s H E hr=>(aA (aY (bT (N':=["left", "right"]) (no:=2) (cap:=[]) rfl rfl (aM rfl) rfl (bP rfl) (kG rfl m_zip (ag (af 0 (pv 0)) (ag (af 1 (pv 1)) aq))) (fun _ _ _ _ _ _=>(dC rfl (aL (az 0 kZ rfl (Or.inl rfl)) (aL (az 1 kZ rfl (Or.inl rfl)) cD)) (aT (aT di)))) (fun _ _ _ _ _ _=>bC) (fun _ _ _ _ _ _=>(aK cQ (af 0 (pv 0)) (af 1 (pv 1)))))))
theorem ni:(["given", "ins"]:List Str).Nodup:=by decide +kernel
abbrev iL:Stmt:=top 41
def gd (d_is_row:List T -> Option T):FS:=
  (aV (bY (cj (cn (ak d_is_row (aa (ae 2) (aa (ae 0) ao))))) eH bI)
  (aV (bY (m7 (cj (cn (ak bg (aa (ae 3) (aa (fC (.ty "list")) ao))))) (eP (aG uC (ak bM (aa (ae 3) ao)) (fC (.int 60))))) eH bI)
  (bY (cj (cn (ak om (aa (bR 1 [1] (aW (ae 3)) (aj 0) av (ak d_is_row (aa (ae 0) (aa (ae 1) ao)))) ao)))) eH bI)))
theorem qj:aQ ["cells", "ins", "start", "inputs"] ["cells", "ins", "start", "inputs"] (aw iL):=by walk_at "sc"
theorem qi {d_is_row:List T -> Option T} {t_MOST_TURNS:Tok} (F:eY K "refuse_run" "refuse_run" iL f fd) (hb:Binds K fd ["cells", "ins", "start", "inputs"] []) (hm:mg "refuse_run" = some (.ref f)) (D_is_row:Def P w K mg base k "is_row" 2 d_is_row) (m_list:mg "list" = none) (m_isinstance:mg "isinstance" = none) (m_len:mg "len" = none) (m_all:mg "all" = none) (g_MOST_TURNS:mg "MOST_TURNS" = some (.int 60 t_MOST_TURNS)) :
  Def P w K mg base (k + 1) "refuse_run" 4 (cz 4 4 (gd d_is_row)):=
 bH F qj hb hm fun cdv A outer s H E hr=>(ar (dt (dq (dE (aF D_is_row hr rfl (ag (af 2 (pv 2)) (ag (af 0 (pv 0)) aq)) (ah (ah aE))))) (aA gE) bU)
  (ar (dt (SW.st (lG (dq (dE (aN eG rfl m_isinstance rfl (ag (af 3 (pv 3)) (ag (gD rfl m_list rfl) aq))))) (jy (cS oV (aN cF rfl m_len PySem.boot_len (ag (af 3 (pv 3)) aq)) (fR rfl g_MOST_TURNS) (bZ _))))) (aA gE) bU)
  (aA (dt (dq (dE (aN (wC rfl) rfl m_all rfl (ag (bT (N':=["given", "ins"]) (no:=1) (cap:=[1]) rfl rfl (aM rfl) rfl (bP rfl) (cm (af 3 (pv 3))) (fun _ _ _ _ _ _=>(az 0 ni rfl (Or.inl rfl))) (fun _ _ _ _ _ _=>bC) (fun _ _ _ _ _ _=>(aF D_is_row hr rfl (ag (af 0 (pv 0)) (ag (af 1 (pv 1)) aq)) (ah (ah aE))))) aq)))) (aA gE) bU))))
abbrev hV:Stmt:=top 42
def fK (d_is_whole_below:List T -> Option T):FS:=
  (bY (cj (cn (ak d_is_whole_below (aa (ae 0) (aa (aG cq (fC (.int 60)) (fC (.int 1))) ao))))) eH bI)
theorem pw:aQ ["many"] ["many"] (aw hV):=by walk_at "sc"
theorem oU {d_is_whole_below:List T -> Option T} {t_MOST_TURNS:Tok} (F:eY K "refuse_many" "refuse_many" hV f fd) (hb:Binds K fd ["many"] []) (hm:mg "refuse_many" = some (.ref f)) (D_is_whole_below:Def P w K mg base k "is_whole_below" 2 d_is_whole_below) (g_MOST_TURNS:mg "MOST_TURNS" = some (.int 60 t_MOST_TURNS)) :
  Def P w K mg base (k + 1) "refuse_many" 1 (cz 1 1 (fK d_is_whole_below)):=
 bH F pw hb hm fun cdv A outer s H E hr=>(aA (dt (dq (dE (aF D_is_whole_below hr rfl (ag (af 0 (pv 0)) (ag (aK cQ (fR rfl g_MOST_TURNS) au) aq)) (ah (ah aE))))) (aA gE) bU))
theorem iV:(["table"]:List Str).Nodup:=by decide +kernel
theorem iW:(["row"]:List Str).Nodup:=by decide +kernel
abbrev eK:Stmt:=inClass (top 46) 0
def dh (d_is_system:List T -> Option T):Addr -> FI:=
  (Bk (bY (cj (cn (ak d_is_system (aa (ae 1) (aa (ae 2) (aa (ae 3) (aa (ae 4) ao))))))) eH bI)
  (Bk (bY (eP (aG uC (ak bM (aa (ae 1) ao)) (fC (.int 8)))) eH bI)
  (C7 "four" (ak iC (aa (bR 1 [] (aW (fz (aa (ae 1) (aa (ae 2) (aa (ae 3) (aa (ae 4) ao)))))) (aj 0) av (ak iC (aa (bR 1 [] (aW (ae 0)) (aj 0) av (ak iC (aa (ae 0) ao))) ao))) ao))
  Iq)))
theorem jR:aQ ["self", "move", "push", "look", "through"] ["self", "move", "push", "look", "through"] (aw eK):=by walk_at "sc"
theorem xk {d_is_system:List T -> Option T} {t_MOST_CELLS:Tok} {C:Addr} {cx:Str} (F:eY K "__init__" "System.__init__" eK f fd) (hb:Binds K fd ["self", "move", "push", "look", "through"] []) (cl:mX K C) (M:Mk K C f) (hm:mg cx=some (.ref C)) (n_four:fu K C "four") (D_is_system:Def P w K mg base k "is_system" 4 d_is_system) (m_len:mg "len" = none) (m_tuple:mg "tuple" = none) (g_MOST_CELLS:mg "MOST_CELLS" = some (.int 8 t_MOST_CELLS)) :
  nY P w K mg base (k + 2) cx C 4 (dI 5 4 (dh d_is_system)):=
 C8 F jR hb M hm rfl fun cdv A outer s H E hr=>(zk (dt (dq (dE (aF D_is_system hr rfl (ag (af 1 (pv 1)) (ag (af 2 (pv 2)) (ag (af 3 (pv 3)) (ag (af 4 (pv 4)) aq)))) (ah (ah (ah (ah aE))))))) (aA gE) bU)
  (zk (dt (cS oV (aN cF rfl m_len PySem.boot_len (ag (af 1 (pv 1)) aq)) (fR rfl g_MOST_CELLS) (bZ _)) (aA gE) bU)
  (D6 cl n_four (pv 0) (jL oi rfl m_tuple rfl (ag (bT (N':=["table"]) (no:=1) (cap:=[]) rfl rfl (aM rfl) rfl (bP rfl) (cm (fI (ag (af 1 (pv 1)) (ag (af 2 (pv 2)) (ag (af 3 (pv 3)) (ag (af 4 (pv 4)) aq)))))) (fun _ _ _ _ _ _=>(az 0 iV rfl (Or.inl rfl))) (fun _ _ _ _ _ _=>bC) (fun _ _ _ _ _ _=>(jL oi rfl m_tuple rfl (ag (bT (N':=["row"]) (no:=1) (cap:=[]) rfl rfl (aM rfl) rfl (bP rfl) (cm (af 0 (pv 0))) (fun _ _ _ _ _ _=>(az 0 iW rfl (Or.inl rfl))) (fun _ _ _ _ _ _=>bC) (fun _ _ _ _ _ _=>(jL oi rfl m_tuple rfl (ag (af 0 (pv 0)) aq)))) aq)))) aq))
  D7)))
abbrev fV:Stmt:=inClass (top 46) 1
def iO (c_System:Addr):FS:=
  (bE (ak bM (aa (aG bN (A3 [c_System] "four" (ae 0)) (fC (.int 0))) ao)))
theorem mw:aQ ["self"] ["self"] (aw fV):=by walk_at "sc"
theorem lb {c_System:Addr} {C:Addr} (F:eY K "cells" "System.cells" fV f fd) (hb:Binds K fd ["self"] []) (cl:mX K C) (hm:Meth K C "cells" f) (hf_four:∀ C ∈ [c_System],mX K C /\ fu K C "four") (m_len:mg "len" = none) :
  ja P w K mg base (k + 1) C "cells" 1 (cz 1 1 (iO c_System)):=
 yR F mw hb cl hm fun cdv A outer s H E hr=>(aA (aY (aN cF rfl m_len PySem.boot_len (ag (bx bz (xH hf_four (af 0 (pv 0))) au (fun _ _=>rfl)) aq))))
abbrev hG:Stmt:=inClass (top 46) 2
def jV (c_System:Addr):FS:=
  (bE (ak bM (aa (aG bN (aG bN (A3 [c_System] "four" (ae 0)) (fC (.int 3))) (fC (.int 0))) ao)))
theorem pq:aQ ["self"] ["self"] (aw hG):=by walk_at "sc"
theorem nk {c_System:Addr} {C:Addr} (F:eY K "ins" "System.ins" hG f fd) (hb:Binds K fd ["self"] []) (cl:mX K C) (hm:Meth K C "ins" f) (hf_four:∀ C ∈ [c_System],mX K C /\ fu K C "four") (m_len:mg "len" = none) :
  ja P w K mg base (k + 1) C "ins" 1 (cz 1 1 (jV c_System)):=
 yR F pq hb cl hm fun cdv A outer s H E hr=>(aA (aY (aN cF rfl m_len PySem.boot_len (ag (bx bz (bx bz (xH hf_four (af 0 (pv 0))) au (fun _ _=>rfl)) au (fun _ _=>rfl)) aq))))
theorem jP:(["table"]:List Str).Nodup:=by decide +kernel
theorem jQ:(["row"]:List Str).Nodup:=by decide +kernel
abbrev fB:Stmt:=inClass (top 46) 4
def dU (c_System:Addr):aH -> Option (List O):=
  (A5 (A6 (ef 1 [] (aW (A3 [c_System] "four" (ae 0))) (aj 0) av (ef 1 [] (aW (ae 0)) (aj 0) av (rK (ae 0))))))
theorem ll:aQ ["self"] ["self"] (aw fB):=by walk_at "sc"
theorem kq {c_System:Addr} {C:Addr} (F:eY K "tables" "System.tables" fB f fd) (hb:Binds K fd ["self"] []) (cl:mX K C) (hm:Meth K C "tables" f) (hf_four:∀ C ∈ [c_System],mX K C /\ fu K C "four") (m_tuple:mg "tuple" = none) (m_list:mg "list" = none) :
  jT P w K mg base (k + 1) C "tables" 1 (CP 1 1 (dU c_System)):=
 Bv F ll hb cl hm fun cdv A outer s H E hr=>(B6 (xJ rfl m_tuple (il (N':=["table"]) (no:=1) (cap:=[]) rfl rfl (aM rfl) rfl (bP rfl) (cm (xH hf_four (af 0 (pv 0)))) (fun _ _ _ _ _ _=>(az 0 jP rfl (Or.inl rfl))) (fun _ _ _ _ _ _=>bC) (fun _ _ _ _ _ _=>(il (N':=["row"]) (no:=1) (cap:=[]) rfl rfl (aM rfl) rfl (bP rfl) (cm (af 0 (pv 0))) (fun _ _ _ _ _ _=>(az 0 jQ rfl (Or.inl rfl))) (fun _ _ _ _ _ _=>bC) (fun _ _ _ _ _ _=>(BX rfl m_list (af 0 (pv 0)))))))))
abbrev ju:Stmt:=top 47
def gO (d_is_table:List T -> Option T):FS:=
  (aV (bY (m7 (cj (cn (ak bg (aa (ae 0) (aa (fC (.ty "list")) ao))))) (m7 (cj (cn (ak bg (aa (ae 3) (aa (fC (.ty "list")) ao))))) (cj (eP (fU we we (fC (.int 1)) (ak bM (aa (ae 3) ao)) (fC (.int 2))))))) (bE (fC (.bl false))) bI)
  (aV (bY (m7 (cj (cn (ak bg (aa (aG bN (ae 3) (fC (.int 0))) (aa (fC (.ty "list")) ao))))) (cj (eP (fU we we (fC (.int 1)) (ak bM (aa (aG bN (ae 3) (fC (.int 0))) ao)) (fC (.int 2)))))) (bE (fC (.bl false))) bI)
  (aV (yC 4 5 6 (aa (ak bM (aa (ae 0) ao)) (aa (ak bM (aa (aG bN (ae 3) (fC (.int 0))) ao)) (aa (ak bM (aa (ae 3) ao)) ao))))
  (bE (dZ (ak d_is_table (aa (ae 0) (aa (ae 4) (aa (ae 4) ao)))) (dZ (ak d_is_table (aa (ae 1) (aa (ae 4) (aa (ae 5) ao)))) (dZ (ak d_is_table (aa (ae 2) (aa (ae 6) (aa (ae 4) ao)))) (ak d_is_table (aa (ae 3) (aa (ae 6) (aa (ae 5) ao)))))))))))
theorem ly:aQ ["move", "push", "look", "through", "cells", "ins", "outs"] ["move", "push", "look", "through"] (aw ju):=by walk_at "sc"
theorem tx {d_is_table:List T -> Option T} {t_MOST_LINES:Tok} (F:eY K "is_system" "is_system" ju f fd) (hb:Binds K fd ["move", "push", "look", "through"] []) (hm:mg "is_system" = some (.ref f)) (D_is_table:Def P w K mg base k "is_table" 3 d_is_table) (m_list:mg "list" = none) (m_isinstance:mg "isinstance" = none) (m_len:mg "len" = none) (g_MOST_LINES:mg "MOST_LINES" = some (.int 2 t_MOST_LINES)) :
  Def P w K mg base (k + 1) "is_system" 4 (cz 7 4 (gO d_is_table)):=
 bH F ly hb hm fun cdv A outer s H E hr=>(ar (dt (SW.st (lG (dq (dE (aN eG rfl m_isinstance rfl (ag (af 0 (pv 0)) (ag (gD rfl m_list rfl) aq))))) (lG (dq (dE (aN eG rfl m_isinstance rfl (ag (af 3 (pv 3)) (ag (gD rfl m_list rfl) aq))))) (jy (dq (vT vz vz au (aN cF rfl m_len PySem.boot_len (ag (af 3 (pv 3)) aq)) (fR rfl g_MOST_LINES))))))) (aA (aY gS)) bU)
  (ar (dt (SW.st (lG (dq (dE (aN eG rfl m_isinstance rfl (ag (bx bz (af 3 (pv 3)) au (fun _ _=>rfl)) (ag (gD rfl m_list rfl) aq))))) (jy (dq (vT vz vz au (aN cF rfl m_len PySem.boot_len (ag (bx bz (af 3 (pv 3)) au (fun _ _=>rfl)) aq)) (fR rfl g_MOST_LINES)))))) (aA (aY gS)) bU)
  (ar (Ee rfl ly.nd rfl rfl rfl (by decide) (by decide) (by decide) rfl rfl rfl (ag (aN cF rfl m_len PySem.boot_len (ag (af 0 (pv 0)) aq)) (ag (aN cF rfl m_len PySem.boot_len (ag (bx bz (af 3 (pv 3)) au (fun _ _=>rfl)) aq)) (ag (aN cF rfl m_len PySem.boot_len (ag (af 3 (pv 3)) aq)) aq))) rfl)
  (aA (aY (eV (aF D_is_table hr rfl (ag (af 0 (pv 0)) (ag (af 4 (pv 4)) (ag (af 4 (pv 4)) aq))) (ah (ah (ah aE)))) (eV (aF D_is_table hr rfl (ag (af 1 (pv 1)) (ag (af 4 (pv 4)) (ag (af 5 (pv 5)) aq))) (ah (ah (ah aE)))) (eV (aF D_is_table hr rfl (ag (af 2 (pv 2)) (ag (af 6 (pv 6)) (ag (af 4 (pv 4)) aq))) (ah (ah (ah aE)))) (kE (aF D_is_table hr rfl (ag (af 3 (pv 3)) (ag (af 6 (pv 6)) (ag (af 5 (pv 5)) aq))) (ah (ah (ah aE)))))))))))))
abbrev BU:Stmt:=top 48
def yo (c_System:Addr) (d_refuse_run d_widened d_applied:List T -> Option T) (dM_System__cells dM_System__ins dM_System__tables:List T -> Option T):FS:=
  (aV (mJ (ak d_refuse_run (aa (fP [(c_System,dM_System__cells)] "cells" (ae 0) ao) (aa (fP [(c_System,dM_System__ins)] "ins" (ae 0) ao) (aa (ae 1) (aa (ae 2) ao))))))
  (aV (jN (fP [(c_System,dM_System__tables)] "tables" (ae 0) ao) (bX (ay (aj 3) (ay (aj 4) (ay (aj 5) (ay (aj 6) bS))))))
  (aV (m8 7 8 (aa (ak d_widened (aa (ae 3) (aa (ae 4) ao))) (aa (ak d_widened (aa (ae 5) (aa (ae 6) ao))) ao)))
  (aV (bh 9 (ak dList (aa (ae 1) ao)))
  (aV (eh 10 ao)
  (aV (fO (aW (ae 2)) (aj 11) (aV (m6 10 (ak d_applied (aa (ae 8) (aa (aG cq (ae 9) (ae 11)) ao))))
  (bh 9 (ak d_applied (aa (ae 7) (aa (aG cq (ae 9) (ae 11)) ao))))))
  (bE (fz (aa (ae 10) (aa (ae 9) ao))))))))))
theorem h9:aQ ["system", "start", "inputs", "move", "push", "look", "through", "onward", "outward", "state", "outputs", "given"] ["system", "start", "inputs"] (aw BU):=by walk_at "sc"
theorem Gx {c_System:Addr} {d_refuse_run:List T -> Option T} {d_widened:List T -> Option T} {d_applied:List T -> Option T} {dM_System__cells:List T -> Option T} {dM_System__ins:List T -> Option T} {dM_System__tables:List T -> Option T} (F:eY K "run" "run" BU f fd) (hb:Binds K fd ["system", "start", "inputs"] []) (hm:mg "run" = some (.ref f)) (D_refuse_run:Def P w K mg base k "refuse_run" 4 d_refuse_run) (D_widened:Def P w K mg base k "widened" 2 d_widened) (D_applied:Def P w K mg base k "applied" 2 d_applied) (DM_cells:∀ a ∈ [(c_System,dM_System__cells)],ja P w K mg base k a.1 "cells" 1 a.2) (DM_ins:∀ a ∈ [(c_System,dM_System__ins)],ja P w K mg base k a.1 "ins" 1 a.2) (DM_tables:∀ a ∈ [(c_System,dM_System__tables)],ja P w K mg base k a.1 "tables" 1 a.2) (m_list:mg "list" = none) :
  Def P w K mg base (k + 1) "run" 3 (cz 12 3 (yo c_System d_refuse_run d_widened d_applied dM_System__cells dM_System__ins dM_System__tables)):=
 bH F h9 hb hm fun cdv A outer s H E hr=>(ar (zt (aF D_refuse_run hr rfl (ag (lE DM_cells hr (af 0 (pv 0))) (ag (lE DM_ins hr (af 0 (pv 0))) (ag (af 1 (pv 1)) (ag (af 2 (pv 2)) aq)))) (ah (ah (ah (ah aE))))))
  (ar (kH (lE DM_tables hr (af 0 (pv 0))) (dC rfl (aL (az 3 h9.nd rfl (Or.inl rfl)) (aL (az 4 h9.nd rfl (Or.inl rfl)) (aL (az 5 h9.nd rfl (Or.inl rfl)) (aL (az 6 h9.nd rfl (Or.inl rfl)) cD)))) (aT (aT (aT (aT di))))))
  (ar (pG rfl h9.nd rfl rfl (by decide) rfl rfl (ag (aF D_widened hr rfl (ag (af 3 (pv 3)) (ag (af 4 (pv 4)) aq)) (ah (ah aE))) (ag (aF D_widened hr rfl (ag (af 5 (pv 5)) (ag (af 6 (pv 6)) aq)) (ah (ah aE))) aq)) rfl)
  (ar (aZ 9 h9.nd rfl (Or.inl rfl) (jL CK rfl m_list rfl (ag (af 1 (pv 1)) aq)))
  (ar (mD 10 h9.nd rfl (Or.inl rfl) aq)
  (ar (ia PassesOwn.never rfl (cm (af 2 (pv 2))) (az 11 h9.nd rfl (Or.inl rfl)) (ar (mC 10 (pv 10) (aF D_applied hr rfl (ag (af 8 (pv 8)) (ag (aK cQ (af 9 (pv 9)) (af 11 (pv 11))) aq)) (ah (ah aE))))
  (aA (aZ 9 h9.nd rfl (Or.inl rfl) (aF D_applied hr rfl (ag (af 7 (pv 7)) (ag (aK cQ (af 9 (pv 9)) (af 11 (pv 11))) aq)) (ah (ah aE)))))))
  (aA (aY (fI (ag (af 10 (pv 10)) (ag (af 9 (pv 9)) aq)))))))))))
abbrev mi:Stmt:=top 49
def ic (n:Nat) (c_System:Addr) (d_refuse_many d_product:List T -> Option T) (dO_product:List T -> Option O) (dM_System__ins:List T -> Option T) (dT_System__tables:List T -> Option (List O)):zJ:=
  (mK (mJ (ak d_refuse_many (aa (ae 1) ao)))
  (AZ 5 (oq c_System dT_System__tables "tables" (ae 0)) (bX (ay (aj 2) (ay (aj 3) (ay (aj 4) (ay (aj 5) bS)))))
  (jX (mN 5 (bh 6 (fP [(c_System,dM_System__ins)] "ins" (ae 0) ao)))
  (zP 5 7
  (jX (iQ 7 (eP (aG Bf (ak bM (aa (ae 7) ao)) (ae 1)))
  (Dg (Df 7 (iE dO_product (aa (ae 4) (aa (ae 3) (aa (ae 6) ao)))))
  (mN 7 (bh 3 (ak d_product (aa (ae 2) (aa (ae 3) (aa (ae 6) ao))))))) n)
  (jC 7 (dG (ae 1))))))))
theorem dR:aQ ["system", "many", "move", "push", "look", "through", "ins", "told"] ["system", "many"] (aw mi):=by walk_at "sc"
theorem vq {c_System:Addr} {d_refuse_many:List T -> Option T} {d_product:List T -> Option T} {dO_product:List T -> Option O} {dM_System__ins:List T -> Option T} {dT_System__tables:List T -> Option (List O)} (n:Nat) (F:eY K "answers" "answers" mi f fd) (hb:Binds K fd ["system", "many"] []) (hm:mg "answers" = some (.ref f)) (D_refuse_many:Def P w K mg base k "refuse_many" 1 d_refuse_many) (D_product:Def P w K mg base k "product" 3 d_product) (DO_product:iU P w K mg base k "product" 3 dO_product) (DM_ins:∀ a ∈ [(c_System,dM_System__ins)],ja P w K mg base k a.1 "ins" 1 a.2) (DT_tables:jT P w K mg base k c_System "tables" 1 dT_System__tables) (m_len:mg "len" = none) :
  iU P w K mg base (k + 1) "answers" 2 (lU 8 2 (ic n c_System d_refuse_many d_product dO_product dM_System__ins dT_System__tables)):=
 rH F dR hb hm fun cdv A outer s H E hr=>(pI (zt (aF D_refuse_many hr rfl (ag (af 1 (pv 1)) aq) (ah aE)))
  (Ef (xI DT_tables hr (af 0 (pv 0))) (dC rfl (aL (az 2 dR.nd rfl (Or.inl rfl)) (aL (az 3 dR.nd rfl (Or.inl rfl)) (aL (az 4 dR.nd rfl (Or.inl rfl)) (aL (az 5 dR.nd rfl (Or.inl rfl)) cD)))) (aT (aT (aT (aT di)))))
  (vR (zl (aZ 6 dR.nd rfl (Or.inl rfl) (lE DM_ins hr (af 0 (pv 0)))))
  (D8 dR.nd rfl (Or.inl rfl) (pv 5)
  (vR (BZ n PassesOwn.never (cS vA (aN cF rfl m_len PySem.boot_len (ag (af 7 (pv 7)) aq)) (af 1 (pv 1)) (bZ _))
  (B0 (G5 (pv 7) (vQ DO_product hr rfl (ag (af 4 (pv 4)) (ag (af 3 (pv 3)) (ag (af 6 (pv 6)) aq))) (ah (ah (ah aE)))))
  (D9 (zl (aZ 3 dR.nd rfl (Or.inl rfl) (aF D_product hr rfl (ag (af 2 (pv 2)) (ag (af 3 (pv 3)) (ag (af 6 (pv 6)) aq))) (ah (ah (ah aE)))))))))
  (xN (pv 7) (gT (af 1 (pv 1)))))))))
abbrev jm:Stmt:=top 51
def gJ:FS:=
  (aV (bY (eP (aG Bf (ae 1) (ak bM (aa (ae 0) ao)))) (bE (aG bN (ae 0) (ae 1))) bI)
  (bE (fC (.int 0))))
theorem tQ:aQ ["_law_script", "_law_k"] ["_law_script", "_law_k"] (aw jm):=by walk_at "sc"
theorem tf (F:eY K "_law_cell" "_law_cell" jm f fd) (hb:Binds K fd ["_law_script", "_law_k"] []) (hm:mg "_law_cell" = some (.ref f)) (m_len:mg "len" = none) :
  Def P w K mg base (k + 1) "_law_cell" 2 (cz 2 2 (gJ)):=
 bH F tQ hb hm fun cdv A outer s H E hr=>(ar (dt (cS vA (af 1 (pv 1)) (aN cF rfl m_len PySem.boot_len (ag (af 0 (pv 0)) aq)) (bZ _)) (aA (aY (bx bz (af 0 (pv 0)) (af 1 (pv 1)) (fun _ _=>rfl)))) bU)
  (aA (aY au)))
abbrev iJ:Stmt:=top 52
def iA:FS:=
  (aV (bh 2 (aG cU (aG cq (aG cq (ae 0) (aG aX (fC (.int 7919)) (ae 1))) (fC (.int 12345))) (fC (.int 2147483629))))
  (aV (bh 2 (aG cU (aG cq (aG aX (ae 2) (ae 2)) (aG aX (fC (.int 48271)) (ae 1))) (fC (.int 2147483629))))
  (bE (aG cU (aG aX (ae 2) (ae 2)) (fC (.int 2147483587))))))
theorem hW:aQ ["_law_cell_here", "_law_k", "_law_number"] ["_law_cell_here", "_law_k"] (aw iJ):=by walk_at "sc"
theorem qg (F:eY K "_law_mixed" "_law_mixed" iJ f fd) (hb:Binds K fd ["_law_cell_here", "_law_k"] []) (hm:mg "_law_mixed" = some (.ref f)) :
  Def P w K mg base (k + 1) "_law_mixed" 2 (cz 3 2 (iA)):=
 bH F hW hb hm fun cdv A outer s H E hr=>(ar (aZ 2 hW.nd rfl (Or.inl rfl) (aK dQ (aK cQ (aK cQ (af 0 (pv 0)) (aK bo au (af 1 (pv 1)))) au) au))
  (ar (aZ 2 hW.nd rfl (Or.inl rfl) (aK dQ (aK cQ (aK bo (af 2 (pv 2)) (af 2 (pv 2))) (aK bo au (af 1 (pv 1)))) au))
  (aA (aY (aK dQ (aK bo (af 2 (pv 2)) (af 2 (pv 2))) au)))))
abbrev gz:Stmt:=top 53
def gp (n:Nat):FS:=
  (aV (bh 0 (ak ux (aa (ae 0) ao)))
  (aV (bh 1 (ak ux (aa (ae 1) ao)))
  (aV (eL (eP (aG uC (ae 1) (fC (.int 0)))) (m8 0 1 (aa (ae 1) (aa (aG cU (ae 0) (ae 1)) ao))) n)
  (bE (ae 0)))))
theorem eD:aQ ["_law_one", "_law_other"] ["_law_one", "_law_other"] (aw gz):=by walk_at "sc"
theorem nv (n:Nat) (F:eY K "_law_divisor" "_law_divisor" gz f fd) (hb:Binds K fd ["_law_one", "_law_other"] []) (hm:mg "_law_divisor" = some (.ref f)) (m_abs:mg "abs" = none) :
  Def P w K mg base (k + 1) "_law_divisor" 2 (cz 2 2 (gp n)):=
 bH F eD hb hm fun cdv A outer s H E hr=>(ar (aZ 0 eD.nd rfl (Or.inl rfl) (aN rC rfl m_abs rfl (ag (af 0 (pv 0)) aq)))
  (ar (aZ 1 eD.nd rfl (Or.inl rfl) (aN rC rfl m_abs rfl (ag (af 1 (pv 1)) aq)))
  (ar (pH n PassesOwn.never (cS oV (af 1 (pv 1)) au (bZ _)) (aA (pG rfl eD.nd rfl rfl (by decide) rfl rfl (ag (af 1 (pv 1)) (ag (aK dQ (af 0 (pv 0)) (af 1 (pv 1))) aq)) rfl)))
  (aA (aY (af 0 (pv 0)))))))
abbrev jo:Stmt:=top 54
def je (d__law_divisor:List T -> Option T):FS:=
  (aV (bh 2 (ak d__law_divisor (aa (ae 0) (aa (ae 1) ao))))
  (bE (fz (aa (aG cP (ae 0) (ae 2)) (aa (aG cP (ae 1) (ae 2)) ao)))))
theorem lu:aQ ["_law_top", "_law_bottom", "_law_by"] ["_law_top", "_law_bottom"] (aw jo):=by walk_at "sc"
theorem tm {d__law_divisor:List T -> Option T} (F:eY K "_law_frac" "_law_frac" jo f fd) (hb:Binds K fd ["_law_top", "_law_bottom"] []) (hm:mg "_law_frac" = some (.ref f)) (D__law_divisor:Def P w K mg base k "_law_divisor" 2 d__law_divisor) :
  Def P w K mg base (k + 1) "_law_frac" 2 (cz 3 2 (je d__law_divisor)):=
 bH F lu hb hm fun cdv A outer s H E hr=>(ar (aZ 2 lu.nd rfl (Or.inl rfl) (aF D__law_divisor hr rfl (ag (af 0 (pv 0)) (ag (af 1 (pv 1)) aq)) (ah (ah aE))))
  (aA (aY (fI (ag (aK cC (af 0 (pv 0)) (af 2 (pv 2))) (ag (aK cC (af 1 (pv 1)) (af 2 (pv 2))) aq))))))
abbrev gA:Stmt:=top 55
def eT (d__law_frac d__law_mixed:List T -> Option T):FS:=
  (aV (eh 2 ao)
  (aV (bh 3 (aG cP (ae 0) (fC (.int 2))))
  (aV (fO (dB (aa (ae 1) ao)) (aj 4) (bY (eP (aG mL (aG cU (ae 0) (fC (.int 2))) (fC (.int 1)))) (aV (m6 2 (ak d__law_frac (aa (aG jO (aG cU (ae 3) (fC (.int 19))) (fC (.int 9))) (aa (aG cq (fC (.int 1)) (aG cU (aG cP (ae 3) (fC (.int 19))) (fC (.int 12)))) ao))))
  (bh 3 (aG cP (ae 3) (fC (.int 228))))) (aV (bh 5 (ak d__law_mixed (aa (ae 0) (aa (ae 4) ao))))
  (aV (bh 6 (aG cU (ae 5) (fC (.int 4))))
  (aV (m6 2 (aG bN (kl (aa (fz (aa (fC (.int 0)) (aa (fC (.int 1)) ao))) (aa (fz (aa (aG jO (aG cU (aG cP (ae 5) (fC (.int 4))) (fC (.int 3))) (fC (.int 1))) (aa (fC (.int 1)) ao))) (aa (fz (aa (fC (.int 1)) (aa (fC (.int 2)) ao))) (aa (fz (aa (fC (.int 0)) (aa (fC (.int 1)) ao))) ao))))) (ae 6)))
  (bY (eP (aG mL (ae 6) (fC (.int 2)))) (oy 2 (ak d__law_frac (aa (aG jO (aG cU (aG cP (ae 5) (fC (.int 4))) (fC (.int 19))) (fC (.int 9))) (aa (aG cq (fC (.int 1)) (aG cU (aG cP (ae 5) (fC (.int 76))) (fC (.int 12)))) ao))) (ub wK (fC (.int 1)))) bI))))))
  (bE (ae 2)))))
theorem cw:aQ ["_law_cell_here", "_law_many", "_law_found", "_law_rest", "_law_k", "_law_number", "_law_kind"] ["_law_cell_here", "_law_many"] (aw gA):=by walk_at "sc"
theorem ny {d__law_frac:List T -> Option T} {d__law_mixed:List T -> Option T} (F:eY K "_law_numbers" "_law_numbers" gA f fd) (hb:Binds K fd ["_law_cell_here", "_law_many"] []) (hm:mg "_law_numbers" = some (.ref f)) (D__law_frac:Def P w K mg base k "_law_frac" 2 d__law_frac) (D__law_mixed:Def P w K mg base k "_law_mixed" 2 d__law_mixed) (m_range:mg "range" = none) :
  Def P w K mg base (k + 1) "_law_numbers" 2 (cz 7 2 (eT d__law_frac d__law_mixed)):=
 bH F cw hb hm fun cdv A outer s H E hr=>(ar (mD 2 cw.nd rfl (Or.inl rfl) aq)
  (ar (aZ 3 cw.nd rfl (Or.inl rfl) (aK cC (af 0 (pv 0)) au))
  (ar (ia PassesOwn.never rfl (iM rfl m_range (ag (af 1 (pv 1)) aq)) (az 4 cw.nd rfl (Or.inl rfl)) (aA (dt (cS (mS hr.units) (aK dQ (af 0 (pv 0)) au) au (bZ _)) (ar (mC 2 (pv 2) (aF D__law_frac hr rfl (ag (aK tB (aK dQ (af 3 (pv 3)) au) au) (ag (aK cQ au (aK dQ (aK cC (af 3 (pv 3)) au) au)) aq)) (ah (ah aE))))
  (aA (aZ 3 cw.nd rfl (Or.inl rfl) (aK cC (af 3 (pv 3)) au)))) (ar (aZ 5 cw.nd rfl (Or.inl rfl) (aF D__law_mixed hr rfl (ag (af 0 (pv 0)) (ag (af 4 (pv 4)) aq)) (ah (ah aE))))
  (ar (aZ 6 cw.nd rfl (Or.inl rfl) (aK dQ (af 5 (pv 5)) au))
  (ar (mC 2 (pv 2) (bx bz (tX (ag (fI (ag au (ag au aq))) (ag (fI (ag (aK tB (aK dQ (aK cC (af 5 (pv 5)) au) au) au) (ag au aq))) (ag (fI (ag au (ag au aq))) (ag (fI (ag au (ag au aq))) aq))))) (af 6 (pv 6)) (fun _ _=>rfl)))
  (aA (dt (cS (mS hr.units) (af 6 (pv 6)) au (bZ _)) (aA (B5 2 (pv 2) (aF D__law_frac hr rfl (ag (aK tB (aK dQ (aK cC (af 5 (pv 5)) au) au) au) (ag (aK cQ au (aK dQ (aK cC (af 5 (pv 5)) au) au)) aq)) (ah (ah aE))) (E9 Cc au))) bU))))))))
  (aA (aY (af 2 (pv 2)))))))
theorem oP:(["_law_k", "_law_numbers_here", "_law_wide"]:List Str).Nodup:=by decide +kernel
abbrev jt:Stmt:=top 56
def gN:FS:=
  (bE (bR 1 [0,2] (dB (aa (ae 1) ao)) (aj 0) av (wI (ae 1) (dG (aG aX (ae 2) (ae 0))) (dG (aG cq (aG aX (ae 2) (ae 0)) (ae 2))))))
theorem tV:aQ ["_law_numbers_here", "_law_many", "_law_wide"] ["_law_numbers_here", "_law_many", "_law_wide"] (aw jt):=by walk_at "sc"
theorem tw (F:eY K "_law_rows" "_law_rows" jt f fd) (hb:Binds K fd ["_law_numbers_here", "_law_many", "_law_wide"] []) (hm:mg "_law_rows" = some (.ref f)) (m_range:mg "range" = none) :
  Def P w K mg base (k + 1) "_law_rows" 3 (cz 3 3 (gN)):=
 bH F tV hb hm fun cdv A outer s H E hr=>(aA (aY (bT (N':=["_law_k", "_law_numbers_here", "_law_wide"]) (no:=1) (cap:=[0,2]) rfl rfl (aM rfl) rfl (bP rfl) (iM rfl m_range (ag (af 1 (pv 1)) aq)) (fun _ _ _ _ _ _=>(az 0 oP rfl (Or.inl rfl))) (fun _ _ _ _ _ _=>bC) (fun _ _ _ _ _ _=>(jx (af 1 (pv 1)) (gT (aK bo (af 2 (pv 2)) (af 0 (pv 0)))) (gT (aK cQ (aK bo (af 2 (pv 2)) (af 0 (pv 0))) (af 2 (pv 2)))))))))
abbrev jn:Stmt:=top 57
def gK (d__law_numbers d__law_rows:List T -> Option T):FS:=
  (aV (bh 4 (ak d__law_numbers (aa (ae 0) (aa (aG cq (aG cq (aG cq (aG aX (ae 1) (ae 1)) (aG aX (ae 1) (ae 2))) (aG aX (ae 3) (ae 1))) (aG aX (ae 3) (ae 2))) ao))))
  (aV (bh 5 (ak d__law_rows (aa (ae 4) (aa (ae 1) (aa (ae 1) ao)))))
  (aV (bh 4 (wI (ae 4) (dG (aG aX (ae 1) (ae 1))) gP))
  (aV (bh 6 (ak d__law_rows (aa (ae 4) (aa (ae 1) (aa (ae 2) ao)))))
  (aV (bh 4 (wI (ae 4) (dG (aG aX (ae 1) (ae 2))) gP))
  (aV (bh 7 (ak d__law_rows (aa (ae 4) (aa (ae 3) (aa (ae 1) ao)))))
  (bE (kl (aa (ae 5) (aa (ae 6) (aa (ae 7) (aa (ak d__law_rows (aa (wI (ae 4) (dG (aG aX (ae 3) (ae 1))) gP) (aa (ae 3) (aa (ae 2) ao)))) ao))))))))))))
theorem dm:aQ ["_law_cell_here", "_law_many", "_law_ins", "_law_outs", "_law_numbers_here", "_law_move", "_law_push", "_law_look"] ["_law_cell_here", "_law_many", "_law_ins", "_law_outs"] (aw jn):=by walk_at "sc"
theorem tj {d__law_numbers:List T -> Option T} {d__law_rows:List T -> Option T} (F:eY K "_law_four" "_law_four" jn f fd) (hb:Binds K fd ["_law_cell_here", "_law_many", "_law_ins", "_law_outs"] []) (hm:mg "_law_four" = some (.ref f)) (D__law_numbers:Def P w K mg base k "_law_numbers" 2 d__law_numbers) (D__law_rows:Def P w K mg base k "_law_rows" 3 d__law_rows) :
  Def P w K mg base (k + 1) "_law_four" 4 (cz 8 4 (gK d__law_numbers d__law_rows)):=
 bH F dm hb hm fun cdv A outer s H E hr=>(ar (aZ 4 dm.nd rfl (Or.inl rfl) (aF D__law_numbers hr rfl (ag (af 0 (pv 0)) (ag (aK cQ (aK cQ (aK cQ (aK bo (af 1 (pv 1)) (af 1 (pv 1))) (aK bo (af 1 (pv 1)) (af 2 (pv 2)))) (aK bo (af 3 (pv 3)) (af 1 (pv 1)))) (aK bo (af 3 (pv 3)) (af 2 (pv 2)))) aq)) (ah (ah aE))))
  (ar (aZ 5 dm.nd rfl (Or.inl rfl) (aF D__law_rows hr rfl (ag (af 4 (pv 4)) (ag (af 1 (pv 1)) (ag (af 1 (pv 1)) aq))) (ah (ah (ah aE)))))
  (ar (aZ 4 dm.nd rfl (Or.inl rfl) (jx (af 4 (pv 4)) (gT (aK bo (af 1 (pv 1)) (af 1 (pv 1)))) tZ))
  (ar (aZ 6 dm.nd rfl (Or.inl rfl) (aF D__law_rows hr rfl (ag (af 4 (pv 4)) (ag (af 1 (pv 1)) (ag (af 2 (pv 2)) aq))) (ah (ah (ah aE)))))
  (ar (aZ 4 dm.nd rfl (Or.inl rfl) (jx (af 4 (pv 4)) (gT (aK bo (af 1 (pv 1)) (af 2 (pv 2)))) tZ))
  (ar (aZ 7 dm.nd rfl (Or.inl rfl) (aF D__law_rows hr rfl (ag (af 4 (pv 4)) (ag (af 3 (pv 3)) (ag (af 1 (pv 1)) aq))) (ah (ah (ah aE)))))
  (aA (aY (tX (ag (af 5 (pv 5)) (ag (af 6 (pv 6)) (ag (af 7 (pv 7)) (ag (aF D__law_rows hr rfl (ag (jx (af 4 (pv 4)) (gT (aK bo (af 3 (pv 3)) (af 1 (pv 1)))) tZ) (ag (af 3 (pv 3)) (ag (af 2 (pv 2)) aq))) (ah (ah (ah aE)))) aq)))))))))))))
theorem oO:(["_law_row"]:List Str).Nodup:=by decide +kernel
theorem ji:(["_law_top", "_law_bottom"]:List Str).Nodup:=by decide +kernel
abbrev jq:Stmt:=top 58
def gL:FS:=
  (bE (bR 1 [] (aW (ae 0)) (aj 0) av (bR 2 [] (aW (ae 0)) (bX (ay (aj 0) (ay (aj 1) bS))) av (aG aX (ae 0) (aG cP (fC (.int 27720)) (ae 1))))))
theorem tR:aQ ["_law_table"] ["_law_table"] (aw jq):=by walk_at "sc"
theorem tq (F:eY K "_law_ints" "_law_ints" jq f fd) (hb:Binds K fd ["_law_table"] []) (hm:mg "_law_ints" = some (.ref f)) :
  Def P w K mg base (k + 1) "_law_ints" 1 (cz 1 1 (gL)):=
 bH F tR hb hm fun cdv A outer s H E hr=>(aA (aY (bT (N':=["_law_row"]) (no:=1) (cap:=[]) rfl rfl (aM rfl) rfl (bP rfl) (cm (af 0 (pv 0))) (fun _ _ _ _ _ _=>(az 0 oO rfl (Or.inl rfl))) (fun _ _ _ _ _ _=>bC) (fun _ _ _ _ _ _=>(bT (N':=["_law_top", "_law_bottom"]) (no:=2) (cap:=[]) rfl rfl (aM rfl) rfl (bP rfl) (cm (af 0 (pv 0))) (fun _ _ _ _ _ _=>(dC rfl (aL (az 0 ji rfl (Or.inl rfl)) (aL (az 1 ji rfl (Or.inl rfl)) cD)) (aT (aT di)))) (fun _ _ _ _ _ _=>bC) (fun _ _ _ _ _ _=>(aK bo (af 0 (pv 0)) (aK cC au (af 1 (pv 1))))))))))
theorem jY:(["_law_here", "_law_there"]:List Str).Nodup:=by decide +kernel
abbrev kv:Stmt:=top 59
def iz:FS:=
  (bE (ak AS (aa (bR 2 [] (dP (aa (ae 0) (aa (ae 1) ao))) (bX (ay (aj 0) (ay (aj 1) bS))) av (aG aX (ae 0) (ae 1))) ao)))
theorem vN:aQ ["_law_row", "_law_other"] ["_law_row", "_law_other"] (aw kv):=by walk_at "sc"
theorem vw (F:eY K "_law_dot" "_law_dot" kv f fd) (hb:Binds K fd ["_law_row", "_law_other"] []) (hm:mg "_law_dot" = some (.ref f)) (m_zip:mg "zip" = none) (m_sum:mg "sum" = none) :
  Def P w K mg base (k + 1) "_law_dot" 2 (cz 2 2 (iz)):=
 bH F vN hb hm fun cdv A outer s H E hr=>(aA (aY (aN (AL rfl) rfl m_sum rfl (ag (bT (N':=["_law_here", "_law_there"]) (no:=2) (cap:=[]) rfl rfl (aM rfl) rfl (bP rfl) (kG rfl m_zip (ag (af 0 (pv 0)) (ag (af 1 (pv 1)) aq))) (fun _ _ _ _ _ _=>(dC rfl (aL (az 0 jY rfl (Or.inl rfl)) (aL (az 1 jY rfl (Or.inl rfl)) cD)) (aT (aT di)))) (fun _ _ _ _ _ _=>bC) (fun _ _ _ _ _ _=>(aK bo (af 0 (pv 0)) (af 1 (pv 1))))) aq))))
theorem sS:(["_law_part"]:List Str).Nodup:=by decide +kernel
abbrev mh:Stmt:=top 60
def jA (d__law_divisor:List T -> Option T):FS:=
  (aV (bY (m7 (cj (cn (ak bg (aa (ae 0) (aa (fC (.ty "tuple")) ao))))) (eP (aG mM (ak bM (aa (ae 0) ao)) (fC (.int 2))))) (bE (fC (.bl false))) bI)
  (aV (bY (eP (aG mM (ak bM (aa (bR 1 [] (aW (ae 0)) (aj 0) (zO (cn (ak bg (aa (ae 0) (aa (fC (.ty "int")) ao)))) (cj (cn (ak bg (aa (ae 0) (aa (fC (.ty "bool")) ao)))))) (ae 0)) ao)) (fC (.int 2)))) (bE (fC (.bl false))) bI)
  (aV (jN (ae 0) (bX (ay (aj 3) (ay (aj 4) bS))))
  (bE (dZ (aG uC (ae 4) (fC (.int 0))) (dZ (aG mL (aG aX (ae 3) (ae 2)) (aG aX (ae 1) (ae 4))) (aG mL (ak d__law_divisor (aa (ae 3) (aa (ae 4) ao))) (fC (.int 1)))))))))
theorem kA:aQ ["_law_found", "_law_value", "_law_scale", "_law_top", "_law_bottom"] ["_law_found", "_law_value", "_law_scale"] (aw mh):=by walk_at "sc"
theorem xo {d__law_divisor:List T -> Option T} (F:eY K "_law_is" "_law_is" mh f fd) (hb:Binds K fd ["_law_found", "_law_value", "_law_scale"] []) (hm:mg "_law_is" = some (.ref f)) (D__law_divisor:Def P w K mg base k "_law_divisor" 2 d__law_divisor) (m_tuple:mg "tuple" = none) (m_isinstance:mg "isinstance" = none) (m_len:mg "len" = none) (m_int:mg "int" = none) (m_bool:mg "bool" = none) :
  Def P w K mg base (k + 1) "_law_is" 3 (cz 5 3 (jA d__law_divisor)):=
 bH F kA hb hm fun cdv A outer s H E hr=>(ar (dt (SW.st (lG (dq (dE (aN eG rfl m_isinstance rfl (ag (af 0 (pv 0)) (ag (gD rfl m_tuple rfl) aq))))) (jy (cS (mT hr.units) (aN cF rfl m_len PySem.boot_len (ag (af 0 (pv 0)) aq)) au (bZ _))))) (aA (aY gS)) bU)
  (ar (dt (cS (mT hr.units) (aN cF rfl m_len PySem.boot_len (ag (bT (N':=["_law_part"]) (no:=1) (cap:=[]) rfl rfl (aM rfl) rfl (bP rfl) (cm (af 0 (pv 0))) (fun _ _ _ _ _ _=>(az 0 sS rfl (Or.inl rfl))) (fun _ _ _ _ _ _=>(Eg (SW.st (G9 (dE (aN eG rfl m_isinstance rfl (ag (af 0 (pv 0)) (ag (gD rfl m_int rfl) aq)))) (Ei (dq (dE (aN eG rfl m_isinstance rfl (ag (af 0 (pv 0)) (ag (gD rfl m_bool rfl) aq)))))))))) (fun _ _ _ _ _ _=>(af 0 (pv 0)))) aq)) au (bZ _)) (aA (aY gS)) bU)
  (ar (kH (af 0 (pv 0)) (dC rfl (aL (az 3 kA.nd rfl (Or.inl rfl)) (aL (az 4 kA.nd rfl (Or.inl rfl)) cD)) (aT (aT di))))
  (aA (aY (eV (kC oV (af 4 (pv 4)) au (bZ _)) (eV (kC (mS hr.units) (aK bo (af 3 (pv 3)) (af 2 (pv 2))) (aK bo (af 1 (pv 1)) (af 4 (pv 4))) (bZ _)) (kE (kC (mS hr.units) (aF D__law_divisor hr rfl (ag (af 3 (pv 3)) (ag (af 4 (pv 4)) aq)) (ah (ah aE))) au (bZ _))))))))))
abbrev ku:Stmt:=top 61
def iy (d__law_is:List T -> Option T):FS:=
  (aV (bY (m7 (cj (cn (ak bg (aa (ae 0) (aa (fC (.ty "list")) ao))))) (eP (aG mM (ak bM (aa (ae 0) ao)) (ak bM (aa (ae 1) ao))))) (bE (fC (.bl false))) bI)
  (aV (fO (dP (aa (ae 0) (aa (ae 1) ao))) (bX (ay (aj 3) (ay (aj 4) bS))) (bY (cj (cn (ak d__law_is (aa (ae 3) (aa (ae 4) (aa (ae 2) ao)))))) (bE (fC (.bl false))) bI))
  (bE (fC (.bl true)))))
theorem jv:aQ ["_law_found", "_law_values", "_law_scale", "_law_number", "_law_value"] ["_law_found", "_law_values", "_law_scale"] (aw ku):=by walk_at "sc"
theorem vv {d__law_is:List T -> Option T} (F:eY K "_law_are" "_law_are" ku f fd) (hb:Binds K fd ["_law_found", "_law_values", "_law_scale"] []) (hm:mg "_law_are" = some (.ref f)) (D__law_is:Def P w K mg base k "_law_is" 3 d__law_is) (m_list:mg "list" = none) (m_isinstance:mg "isinstance" = none) (m_len:mg "len" = none) (m_zip:mg "zip" = none) :
  Def P w K mg base (k + 1) "_law_are" 3 (cz 5 3 (iy d__law_is)):=
 bH F jv hb hm fun cdv A outer s H E hr=>(ar (dt (SW.st (lG (dq (dE (aN eG rfl m_isinstance rfl (ag (af 0 (pv 0)) (ag (gD rfl m_list rfl) aq))))) (jy (cS (mT hr.units) (aN cF rfl m_len PySem.boot_len (ag (af 0 (pv 0)) aq)) (aN cF rfl m_len PySem.boot_len (ag (af 1 (pv 1)) aq)) (bZ _))))) (aA (aY gS)) bU)
  (ar (ia PassesOwn.never rfl (kG rfl m_zip (ag (af 0 (pv 0)) (ag (af 1 (pv 1)) aq))) (dC rfl (aL (az 3 jv.nd rfl (Or.inl rfl)) (aL (az 4 jv.nd rfl (Or.inl rfl)) cD)) (aT (aT di))) (aA (dt (dq (dE (aF D__law_is hr rfl (ag (af 3 (pv 3)) (ag (af 4 (pv 4)) (ag (af 2 (pv 2)) aq))) (ah (ah (ah aE)))))) (aA (aY gS)) bU)))
  (aA (aY gS))))
theorem kX:(["_law_place", "_law_table"]:List Str).Nodup:=by decide +kernel
theorem kY:(["_law_row", "_law_place"]:List Str).Nodup:=by decide +kernel
abbrev gy:Stmt:=top 62
def eR:FS:=
  (bE (bR 1 [0] (dB (aa (ae 1) ao)) (aj 0) av (bR 1 [0] (aW (ae 1)) (aj 0) av (aG bN (ae 0) (ae 1)))))
theorem nz:aQ ["_law_table", "_law_wide"] ["_law_table", "_law_wide"] (aw gy):=by walk_at "sc"
theorem nu (F:eY K "_law_columns" "_law_columns" gy f fd) (hb:Binds K fd ["_law_table", "_law_wide"] []) (hm:mg "_law_columns" = some (.ref f)) (m_range:mg "range" = none) :
  Def P w K mg base (k + 1) "_law_columns" 2 (cz 2 2 (eR)):=
 bH F nz hb hm fun cdv A outer s H E hr=>(aA (aY (bT (N':=["_law_place", "_law_table"]) (no:=1) (cap:=[0]) rfl rfl (aM rfl) rfl (bP rfl) (iM rfl m_range (ag (af 1 (pv 1)) aq)) (fun _ _ _ _ _ _=>(az 0 kX rfl (Or.inr rfl))) (fun _ _ _ _ _ _=>bC) (fun _ _ _ _ _ _=>(bT (N':=["_law_row", "_law_place"]) (no:=1) (cap:=[0]) rfl rfl (aM rfl) rfl (bP rfl) (cm (af 1 (pv 1))) (fun _ _ _ _ _ _=>(az 0 kY rfl (Or.inl rfl))) (fun _ _ _ _ _ _=>bC) (fun _ _ _ _ _ _=>(bx bz (af 0 (pv 0)) (af 1 (pv 1)) (fun _ _=>rfl))))))))
theorem ng:(["_law_row", "_law_columns_here"]:List Str).Nodup:=by decide +kernel
theorem nh:(["_law_column", "_law_row"]:List Str).Nodup:=by decide +kernel
abbrev iK:Stmt:=top 63
def gc (d__law_columns d__law_dot:List T -> Option T):FS:=
  (aV (bh 3 (ak d__law_columns (aa (ae 1) (aa (ae 2) ao))))
  (bE (bR 1 [3] (aW (ae 0)) (aj 0) av (bR 1 [0] (aW (ae 1)) (aj 0) av (ak d__law_dot (aa (ae 1) (aa (ae 0) ao)))))))
theorem jZ:aQ ["_law_table", "_law_other", "_law_wide", "_law_columns_here"] ["_law_table", "_law_other", "_law_wide"] (aw iK):=by walk_at "sc"
theorem qh {d__law_columns:List T -> Option T} {d__law_dot:List T -> Option T} (F:eY K "_law_times" "_law_times" iK f fd) (hb:Binds K fd ["_law_table", "_law_other", "_law_wide"] []) (hm:mg "_law_times" = some (.ref f)) (D__law_columns:Def P w K mg base k "_law_columns" 2 d__law_columns) (D__law_dot:Def P w K mg base k "_law_dot" 2 d__law_dot) :
  Def P w K mg base (k + 1) "_law_times" 3 (cz 4 3 (gc d__law_columns d__law_dot)):=
 bH F jZ hb hm fun cdv A outer s H E hr=>(ar (aZ 3 jZ.nd rfl (Or.inr rfl) (aF D__law_columns hr rfl (ag (af 1 (pv 1)) (ag (af 2 (pv 2)) aq)) (ah (ah aE))))
  (aA (aY (bT (N':=["_law_row", "_law_columns_here"]) (no:=1) (cap:=[3]) rfl rfl (aM rfl) rfl (bP rfl) (cm (af 0 (pv 0))) (fun _ _ _ _ _ _=>(az 0 ng rfl (Or.inr rfl))) (fun _ _ _ _ _ _=>bC) (fun _ _ _ _ _ _=>(bT (N':=["_law_column", "_law_row"]) (no:=1) (cap:=[0]) rfl rfl (aM rfl) rfl (bP rfl) (cm (af 1 (pv 1))) (fun _ _ _ _ _ _=>(az 0 nh rfl (Or.inl rfl))) (fun _ _ _ _ _ _=>bC) (fun _ _ _ _ _ _=>(aF D__law_dot hr rfl (ag (af 1 (pv 1)) (ag (af 0 (pv 0)) aq)) (ah (ah aE))))))))))
theorem kU:(["_law_table"]:List Str).Nodup:=by decide +kernel
abbrev gx:Stmt:=top 64
def eQ (d__law_ints d__law_are d__law_times:List T -> Option T):FS:=
  (aV (bY (m7 (cj (cn (ak bg (aa (ae 0) (aa (fC (.ty "list")) ao))))) (eP (aG mM (ak bM (aa (ae 0) ao)) (ae 2)))) (bE (fC (.bl false))) bI)
  (aV (jN (bR 1 [] (aW (ae 1)) (aj 0) av (ak d__law_ints (aa (ae 0) ao))) (uD (ay (aj 4) (ay (aj 5) (ay (aj 6) (ay (aj 7) bS))))))
  (aV (bh 8 (ae 7))
  (aV (bh 9 (fC (.int 27720)))
  (aV (bh 10 (ae 5))
  (aV (fO (aW (ae 0)) (aj 11) (aV (bY (m7 (cj (cn (ak bg (aa (ae 11) (aa (fC (.ty "list")) ao))))) (eP (aG mM (ak bM (aa (ae 11) ao)) (ak bM (aa (ae 8) ao))))) (bE (fC (.bl false))) bI)
  (aV (fO (dP (aa (ae 11) (aa (ae 8) ao))) (bX (ay (aj 12) (ay (aj 13) bS))) (bY (cj (cn (ak d__law_are (aa (ae 12) (aa (ae 13) (aa (ae 9) ao)))))) (bE (fC (.bl false))) bI))
  (aV (bh 8 (ak d__law_times (aa (ae 6) (aa (ae 10) (aa (ae 3) ao)))))
  (aV (bh 10 (ak d__law_times (aa (ae 4) (aa (ae 10) (aa (ae 3) ao)))))
  (bh 9 (aG aX (ae 9) (fC (.int 27720)))))))))
  (bE (fC (.bl true)))))))))
theorem bf:aQ ["_law_found", "_law_four_here", "_law_many", "_law_ins", "_law_move", "_law_push", "_law_look", "_law_through", "_law_due", "_law_scale", "_law_column", "_law_table", "_law_row", "_law_values"] ["_law_found", "_law_four_here", "_law_many", "_law_ins"] (aw gx):=by walk_at "sc"
theorem nq {d__law_ints:List T -> Option T} {d__law_are:List T -> Option T} {d__law_times:List T -> Option T} (F:eY K "_law_answers" "_law_answers" gx f fd) (hb:Binds K fd ["_law_found", "_law_four_here", "_law_many", "_law_ins"] []) (hm:mg "_law_answers" = some (.ref f)) (D__law_ints:Def P w K mg base k "_law_ints" 1 d__law_ints) (D__law_are:Def P w K mg base k "_law_are" 3 d__law_are) (D__law_times:Def P w K mg base k "_law_times" 3 d__law_times) (m_list:mg "list" = none) (m_isinstance:mg "isinstance" = none) (m_len:mg "len" = none) (m_zip:mg "zip" = none) :
  Def P w K mg base (k + 1) "_law_answers" 4 (cz 14 4 (eQ d__law_ints d__law_are d__law_times)):=
 bH F bf hb hm fun cdv A outer s H E hr=>(ar (dt (SW.st (lG (dq (dE (aN eG rfl m_isinstance rfl (ag (af 0 (pv 0)) (ag (gD rfl m_list rfl) aq))))) (jy (cS (mT hr.units) (aN cF rfl m_len PySem.boot_len (ag (af 0 (pv 0)) aq)) (af 2 (pv 2)) (bZ _))))) (aA (aY gS)) bU)
  (ar (kH (bT (N':=["_law_table"]) (no:=1) (cap:=[]) rfl rfl (aM rfl) rfl (bP rfl) (cm (af 1 (pv 1))) (fun _ _ _ _ _ _=>(az 0 kU rfl (Or.inl rfl))) (fun _ _ _ _ _ _=>bC) (fun _ _ _ _ _ _=>(aF D__law_ints hr rfl (ag (af 0 (pv 0)) aq) (ah aE)))) (G3 rfl (aL (az 4 bf.nd rfl (Or.inl rfl)) (aL (az 5 bf.nd rfl (Or.inl rfl)) (aL (az 6 bf.nd rfl (Or.inl rfl)) (aL (az 7 bf.nd rfl (Or.inl rfl)) cD)))) (aT (aT (aT (aT di))))))
  (ar (aZ 8 bf.nd rfl (Or.inl rfl) (af 7 (pv 7)))
  (ar (aZ 9 bf.nd rfl (Or.inl rfl) au)
  (ar (aZ 10 bf.nd rfl (Or.inl rfl) (af 5 (pv 5)))
  (ar (ia PassesOwn.never rfl (cm (af 0 (pv 0))) (az 11 bf.nd rfl (Or.inl rfl)) (ar (dt (SW.st (lG (dq (dE (aN eG rfl m_isinstance rfl (ag (af 11 (pv 11)) (ag (gD rfl m_list rfl) aq))))) (jy (cS (mT hr.units) (aN cF rfl m_len PySem.boot_len (ag (af 11 (pv 11)) aq)) (aN cF rfl m_len PySem.boot_len (ag (af 8 (pv 8)) aq)) (bZ _))))) (aA (aY gS)) bU)
  (ar (ia PassesOwn.never rfl (kG rfl m_zip (ag (af 11 (pv 11)) (ag (af 8 (pv 8)) aq))) (dC rfl (aL (az 12 bf.nd rfl (Or.inl rfl)) (aL (az 13 bf.nd rfl (Or.inl rfl)) cD)) (aT (aT di))) (aA (dt (dq (dE (aF D__law_are hr rfl (ag (af 12 (pv 12)) (ag (af 13 (pv 13)) (ag (af 9 (pv 9)) aq))) (ah (ah (ah aE)))))) (aA (aY gS)) bU)))
  (ar (aZ 8 bf.nd rfl (Or.inl rfl) (aF D__law_times hr rfl (ag (af 6 (pv 6)) (ag (af 10 (pv 10)) (ag (af 3 (pv 3)) aq))) (ah (ah (ah aE)))))
  (ar (aZ 10 bf.nd rfl (Or.inl rfl) (aF D__law_times hr rfl (ag (af 4 (pv 4)) (ag (af 10 (pv 10)) (ag (af 3 (pv 3)) aq))) (ah (ah (ah aE)))))
  (aA (aZ 9 bf.nd rfl (Or.inl rfl) (aK bo (af 9 (pv 9)) au))))))))
  (aA (aY gS))))))))
abbrev jr:Stmt:=top 65
def gM (d__law_frac:List T -> Option T):FS:=
  (bE (ak d__law_frac (aa (aG cq (aG aX (aG bN (ae 0) (fC (.int 0))) (aG bN (ae 1) (fC (.int 1)))) (aG aX (aG bN (ae 1) (fC (.int 0))) (aG bN (ae 0) (fC (.int 1))))) (aa (aG aX (aG bN (ae 0) (fC (.int 1))) (aG bN (ae 1) (fC (.int 1)))) ao))))
theorem tU:aQ ["_law_one", "_law_other"] ["_law_one", "_law_other"] (aw jr):=by walk_at "sc"
theorem tu {d__law_frac:List T -> Option T} (F:eY K "_law_plus" "_law_plus" jr f fd) (hb:Binds K fd ["_law_one", "_law_other"] []) (hm:mg "_law_plus" = some (.ref f)) (D__law_frac:Def P w K mg base k "_law_frac" 2 d__law_frac) :
  Def P w K mg base (k + 1) "_law_plus" 2 (cz 2 2 (gM d__law_frac)):=
 bH F tU hb hm fun cdv A outer s H E hr=>(aA (aY (aF D__law_frac hr rfl (ag (aK cQ (aK bo (bx bz (af 0 (pv 0)) au (fun _ _=>rfl)) (bx bz (af 1 (pv 1)) au (fun _ _=>rfl))) (aK bo (bx bz (af 1 (pv 1)) au (fun _ _=>rfl)) (bx bz (af 0 (pv 0)) au (fun _ _=>rfl)))) (ag (aK bo (bx bz (af 0 (pv 0)) au (fun _ _=>rfl)) (bx bz (af 1 (pv 1)) au (fun _ _=>rfl))) aq)) (ah (ah aE)))))
abbrev hJ:Stmt:=top 66
def fJ (d__law_frac d__law_plus:List T -> Option T):FS:=
  (aV (bh 4 (fz (aa (fC (.int 0)) (aa (fC (.int 1)) ao))))
  (aV (fO (dB (aa (aG cq (ae 2) (fC (.int 1))) ao)) (aj 5) (fO (dP (aa (aG bN (aG bN (ae 0) (ae 5)) (ae 3)) (aa (aG bN (ae 1) (aG jO (ae 2) (ae 5))) ao))) (bX (ay (aj 6) (ay (aj 7) bS))) (bh 4 (ak d__law_plus (aa (ae 4) (aa (ak d__law_frac (aa (aG aX (aG bN (ae 6) (fC (.int 0))) (aG bN (ae 7) (fC (.int 0)))) (aa (aG aX (aG bN (ae 6) (fC (.int 1))) (aG bN (ae 7) (fC (.int 1)))) ao))) ao))))))
  (bE (ae 4))))
theorem cY:aQ ["_law_found", "_law_inputs", "_law_turn", "_law_k", "_law_total", "_law_back", "_law_number", "_law_sent"] ["_law_found", "_law_inputs", "_law_turn", "_law_k"] (aw hJ):=by walk_at "sc"
theorem oS {d__law_frac:List T -> Option T} {d__law_plus:List T -> Option T} (F:eY K "_law_summed" "_law_summed" hJ f fd) (hb:Binds K fd ["_law_found", "_law_inputs", "_law_turn", "_law_k"] []) (hm:mg "_law_summed" = some (.ref f)) (D__law_frac:Def P w K mg base k "_law_frac" 2 d__law_frac) (D__law_plus:Def P w K mg base k "_law_plus" 2 d__law_plus) (m_range:mg "range" = none) (m_zip:mg "zip" = none) :
  Def P w K mg base (k + 1) "_law_summed" 4 (cz 8 4 (fJ d__law_frac d__law_plus)):=
 bH F cY hb hm fun cdv A outer s H E hr=>(ar (aZ 4 cY.nd rfl (Or.inl rfl) (fI (ag au (ag au aq))))
  (ar (ia PassesOwn.never rfl (iM rfl m_range (ag (aK cQ (af 2 (pv 2)) au) aq)) (az 5 cY.nd rfl (Or.inl rfl)) (aA (ia PassesOwn.never rfl (kG rfl m_zip (ag (bx bz (bx bz (af 0 (pv 0)) (af 5 (pv 5)) (fun _ _=>rfl)) (af 3 (pv 3)) (fun _ _=>rfl)) (ag (bx bz (af 1 (pv 1)) (aK tB (af 2 (pv 2)) (af 5 (pv 5))) (fun _ _=>rfl)) aq))) (dC rfl (aL (az 6 cY.nd rfl (Or.inl rfl)) (aL (az 7 cY.nd rfl (Or.inl rfl)) cD)) (aT (aT di))) (aA (aZ 4 cY.nd rfl (Or.inl rfl) (aF D__law_plus hr rfl (ag (af 4 (pv 4)) (ag (aF D__law_frac hr rfl (ag (aK bo (bx bz (af 6 (pv 6)) au (fun _ _=>rfl)) (bx bz (af 7 (pv 7)) au (fun _ _=>rfl))) (ag (aK bo (bx bz (af 6 (pv 6)) au (fun _ _=>rfl)) (bx bz (af 7 (pv 7)) au (fun _ _=>rfl))) aq)) (ah (ah aE))) aq)) (ah (ah aE))))))))
  (aA (aY (af 4 (pv 4))))))
end
open PySem PySem.Spec PyProof.Rows L2 TM
theorem BA:(["_law_sent", "_law_shape"]:List Str).Nodup:=by decide +kernel
theorem BB:(["_law_k", "_law_told", "_law_inputs", "_law_turn"]:List Str).Nodup:=by decide +kernel
abbrev qP:Stmt:=top 67
def uq (c_System:Addr) (d__law_cell d__law_four d__law_answers d__law_numbers d_run d_answers d__law_summed:List T -> Option T) (dO_answers:List T -> Option O) (dI_System:List T -> Option wg):FS:=
  (aV (bh 1 (ak d__law_cell (aa (ae 0) (aa (fC (.int 0)) ao))))
  (aV (eh 2 (aa (aG cU (ae 1) (fC (.int 4))) (aa (aG cq (fC (.int 1)) (aG cU (aG cP (ae 1) (fC (.int 4))) (fC (.int 2)))) (aa (aG cq (fC (.int 1)) (aG cU (aG cP (ae 1) (fC (.int 8))) (fC (.int 2)))) ao))))
  (aV (bh 3 (ak d__law_four (aa (ak d__law_cell (aa (ae 0) (aa (fC (.int 1)) ao))) (aa (aG bN (ae 2) (fC (.int 0))) (aa (aG bN (ae 2) (fC (.int 1))) (aa (aG bN (ae 2) (fC (.int 2))) ao))))))
  (aV (bh 4 (yB c_System dI_System (aa (aG bN (ae 3) (fC (.int 0))) (aa (aG bN (ae 3) (fC (.int 1))) (aa (aG bN (ae 3) (fC (.int 2))) (aa (aG bN (ae 3) (fC (.int 3))) ao))))))
  (aV (bh 5 (aG cU (ak d__law_cell (aa (ae 0) (aa (fC (.int 2)) ao))) (fC (.int 13))))
  (aV (oz 6 7 8 (iE dO_answers (aa (ae 4) (aa (ae 5) ao))) (cj (cn (ak d__law_answers (aa (ae 6) (aa (ae 3) (aa (ae 5) (aa (aG bN (ae 2) (fC (.int 1))) ao))))))))
  (aV (bh 9 (bR 1 [2] (aW (wI (ae 0) (dG (fC (.int 3))) (dG (fC (.int 11))))) (aj 0) av (ak d__law_numbers (aa (ae 0) (aa (aG bN (ae 1) (fC (.int 1))) ao)))))
  (aV (bh 10 (aG bN (ak d_run (aa (ae 4) (aa (aG wL (kl (aa (fz (aa (fC (.int 0)) (aa (fC (.int 1)) ao))) ao)) (aG bN (ae 2) (fC (.int 0)))) (aa (ae 9) ao)))) (fC (.int 0))))
  (aV (bh 11 (ak d_answers (aa (ae 4) (aa (ak bM (aa (ae 9) ao)) ao))))
  (aV (fO (dB (aa (ak bM (aa (ae 9) ao)) ao)) (aj 12) (bY (eP (aG mM (aG bN (ae 10) (ae 12)) (bR 1 [11,9,12] (dB (aa (aG bN (ae 2) (fC (.int 2))) ao)) (aj 0) av (ak d__law_summed (aa (ae 1) (aa (ae 2) (aa (ae 3) (aa (ae 0) ao)))))))) (bE (fC (.bl false))) bI))
  (bE (ak d__law_answers (aa (ak d_answers (aa (ae 4) (aa (ae 5) ao))) (aa (ae 3) (aa (ae 5) (aa (aG bN (ae 2) (fC (.int 1))) ao))))))))))))))))
theorem fH:aQ ["_law_script", "_law_cell_here", "_law_shape", "_law_four_here", "_law_system", "_law_many", "_law_found", "_law_table", "_law_row", "_law_inputs", "_law_outputs", "_law_told", "_law_turn"] ["_law_script"] (aw qP):=by walk_at "sc"
theorem FP {P:Program} {w:World} {K:PySem.W.Frag} {mg:Str -> Option Value} {base:Heap} {k:Nat} {f:Addr} {fd:FuncData} {c_System:Addr} {d__law_cell:List T -> Option T} {d__law_four:List T -> Option T} {d__law_answers:List T -> Option T} {d__law_numbers:List T -> Option T} {d_run:List T -> Option T} {d_answers:List T -> Option T} {d__law_summed:List T -> Option T} {dO_answers:List T -> Option O} {dI_System:List T -> Option wg} (F:eY K "law" "law" qP f fd) (D__law_cell:Def P w K mg base k "_law_cell" 2 d__law_cell) (D__law_four:Def P w K mg base k "_law_four" 4 d__law_four) (D__law_answers:Def P w K mg base k "_law_answers" 4 d__law_answers) (D__law_numbers:Def P w K mg base k "_law_numbers" 2 d__law_numbers) (D_run:Def P w K mg base k "run" 3 d_run) (D_answers:Def P w K mg base k "answers" 2 d_answers) (D__law_summed:Def P w K mg base k "_law_summed" 4 d__law_summed) (DO_answers:iU P w K mg base k "answers" 2 dO_answers) (DI_System:nY P w K mg base k "System" c_System 4 dI_System) (m_len:mg "len" = none) (m_range:mg "range" = none) :
  gb P w K mg base nC (k + 1) f fd ["_law_script"] (spT K 1 (cz 13 1 (uq c_System d__law_cell d__law_four d__law_answers d__law_numbers d_run d_answers d__law_summed dO_answers dI_System))):=
 CZ F fH fun cdv A outer s H E hr=>(ar (aZ 1 fH.nd rfl (Or.inl rfl) (aF D__law_cell hr rfl (ag (af 0 (pv 0)) (ag au aq)) (ah (ah aE))))
  (ar (mD 2 fH.nd rfl (Or.inr rfl) (ag (aK dQ (af 1 (pv 1)) au) (ag (aK cQ au (aK dQ (aK cC (af 1 (pv 1)) au) au)) (ag (aK cQ au (aK dQ (aK cC (af 1 (pv 1)) au) au)) aq))))
  (ar (aZ 3 fH.nd rfl (Or.inl rfl) (aF D__law_four hr rfl (ag (aF D__law_cell hr rfl (ag (af 0 (pv 0)) (ag au aq)) (ah (ah aE))) (ag (bx bz (af 2 (pv 2)) au (fun _ _=>rfl)) (ag (bx bz (af 2 (pv 2)) au (fun _ _=>rfl)) (ag (bx bz (af 2 (pv 2)) au (fun _ _=>rfl)) aq)))) (ah (ah (ah (ah aE))))))
  (ar (aZ 4 fH.nd rfl (Or.inl rfl) (DZ DI_System hr rfl (ag (bx bz (af 3 (pv 3)) au (fun _ _=>rfl)) (ag (bx bz (af 3 (pv 3)) au (fun _ _=>rfl)) (ag (bx bz (af 3 (pv 3)) au (fun _ _=>rfl)) (ag (bx bz (af 3 (pv 3)) au (fun _ _=>rfl)) aq)))) (ah (ah (ah (ah aE))))))
  (ar (aZ 5 fH.nd rfl (Or.inl rfl) (aK dQ (aF D__law_cell hr rfl (ag (af 0 (pv 0)) (ag au aq)) (ah (ah aE))) au))
  (Ar (x:=6) (t:=7) (r:=8) fH.nd rfl (Or.inl rfl) (vQ DO_answers hr rfl (ag (af 4 (pv 4)) (ag (af 5 (pv 5)) aq)) (ah (ah aE))) (dq (dE (aF D__law_answers hr rfl (ag (af 6 (pv 6)) (ag (af 3 (pv 3)) (ag (af 5 (pv 5)) (ag (bx bz (af 2 (pv 2)) au (fun _ _=>rfl)) aq)))) (ah (ah (ah (ah aE))))))) (aA (aY gS))
  (ar (aZ 9 fH.nd rfl (Or.inr rfl) (bT (N':=["_law_sent", "_law_shape"]) (no:=1) (cap:=[2]) rfl rfl (aM rfl) rfl (bP rfl) (cm (jx (af 0 (pv 0)) (gT au) (gT au))) (fun _ _ _ _ _ _=>(az 0 BA rfl (Or.inl rfl))) (fun _ _ _ _ _ _=>bC) (fun _ _ _ _ _ _=>(aF D__law_numbers hr rfl (ag (af 0 (pv 0)) (ag (bx bz (af 1 (pv 1)) au (fun _ _=>rfl)) aq)) (ah (ah aE))))))
  (ar (aZ 10 fH.nd rfl (Or.inl rfl) (bx bz (aF D_run hr rfl (ag (af 4 (pv 4)) (ag (aK GC (tX (ag (fI (ag au (ag au aq))) aq)) (bx bz (af 2 (pv 2)) au (fun _ _=>rfl))) (ag (af 9 (pv 9)) aq))) (ah (ah (ah aE)))) au (fun _ _=>rfl)))
  (ar (aZ 11 fH.nd rfl (Or.inr rfl) (aF D_answers hr rfl (ag (af 4 (pv 4)) (ag (aN cF rfl m_len PySem.boot_len (ag (af 9 (pv 9)) aq)) aq)) (ah (ah aE))))
  (ar (ia PassesOwn.never rfl (iM rfl m_range (ag (aN cF rfl m_len PySem.boot_len (ag (af 9 (pv 9)) aq)) aq)) (az 12 fH.nd rfl (Or.inr rfl)) (aA (dt (cS (mT hr.units) (bx bz (af 10 (pv 10)) (af 12 (pv 12)) (fun _ _=>rfl)) (bT (N':=["_law_k", "_law_told", "_law_inputs", "_law_turn"]) (no:=1) (cap:=[11,9,12]) rfl rfl (aM rfl) rfl (bP rfl) (iM rfl m_range (ag (bx bz (af 2 (pv 2)) au (fun _ _=>rfl)) aq)) (fun _ _ _ _ _ _=>(az 0 BB rfl (Or.inl rfl))) (fun _ _ _ _ _ _=>bC) (fun _ _ _ _ _ _=>(aF D__law_summed hr rfl (ag (af 1 (pv 1)) (ag (af 2 (pv 2)) (ag (af 3 (pv 3)) (ag (af 0 (pv 0)) aq)))) (ah (ah (ah (ah aE))))))) (bZ _)) (aA (aY gS)) bU)))
  (aA (aY (aF D__law_answers hr rfl (ag (aF D_answers hr rfl (ag (af 4 (pv 4)) (ag (af 5 (pv 5)) aq)) (ah (ah aE))) (ag (af 3 (pv 3)) (ag (af 5 (pv 5)) (ag (bx bz (af 2 (pv 2)) au (fun _ _=>rfl)) aq)))) (ah (ah (ah (ah aE)))))))))))
  PassesOwn.never rfl (tF fH.nd rfl (Or.inl rfl)) (tF fH.nd rfl (Or.inl rfl)) (pv 6) (pv 6) (pv 7) (pv 7) (pv 8) (by decide) (by decide) (by decide)))))))
open PySem PySem.Spec PyProof.Rows L2 TM
theorem Kt:(17:Nat) ≤ sizeLine:=da (by decide)
theorem Lz:(6:Nat) < sizeLine:=cH (by decide)
theorem Ba {a b c d:Int}:mL (.tup [.int a,.int b]) (.tup [.int c,.int d])=some (.bl (decide (a=c) && decide (b=d))):=by
 have e:mL (.tup [.int a,.int b]) (.tup [.int c,.int d])=some (.bl ((a == c) && ((b == d) && true))):=rfl
 rw [e,Bool.and_true,Bool.beq_eq_decide_eq,Bool.beq_eq_decide_eq]
theorem zR {x y:Bool}:mL (.lst [.bl x,.bl y]) (.lst [.bl x,.bl y])=some (.bl true):=by
 have e:mL (.lst [.bl x,.bl y]) (.lst [.bl x,.bl y])=some (.bl ((x == x) && ((y == y) && true))):=rfl
 rw [e,beq_self_eq_true,beq_self_eq_true]
 rfl
theorem lI:∀ (n:Nat) (u:Option Sl) (x y:Nat),y < n -> eL (eP (aG mM (ae 1) (fC (.int 0)))) (m8 0 1 (aa (ae 1) (aa (aG cU (ae 0) (ae 1)) ao))) n [some (.sh (.int x)),some (.sh (.int y)),u]
  = some (.nx [some (.sh (.int (Nat.gcd x y))),some (.sh (.int 0)),u])
 | 0,_,_,_,h=>by omega
 | n + 1,u,x,y,h=>by
  unfold eL
  by_cases hy:y=0
  ·subst hy
   have h0:((0:Nat):Int)=0:=rfl
   walk_at "ev"
   simp
  ·have hy':¬ ((y:Int)=0):=by omega
   have hm:Int.fmod (x:Int) (y:Int)=((x % y:Nat):Int):=by rw [Int.fmod_eq_emod_of_nonneg _ (by omega)]; rfl
   have hg:Nat.gcd x y=Nat.gcd y (x % y):=by rw [Nat.gcd_comm x y,Nat.gcd_rec y x,Nat.gcd_comm]
   have ih:=lI n u y (x % y) (by have:=Nat.mod_lt x (Nat.pos_of_ne_zero hy); omega)
   rw [hg]
   clear hg h hy
   walk_at "ev"
theorem Cd {ft:FT} {fb:FS} {τ τ':aH} {n:Nat} (h:ft τ=some (false,τ')) (hn:0 < n):eL ft fb n τ=some (.nx τ'):=by
 obtain ⟨m,rfl⟩:∃ m,n=m + 1:=⟨n - 1,by omega⟩
 unfold eL
 rw [h]
 rfl
theorem HA:0 < B:=by decide +kernel
theorem bits_le {x:Int} (h:x.natAbs < B):¬ ((Builtin.Int.intBits x:Int) > 4000):=by
 unfold Builtin.Int.intBits
 by_cases h0:x=0
 ·subst h0; decide
 ·rw [if_neg (by simpa using h0)]
  have:x.natAbs.log2 < 4000:=(Nat.log2_lt (by omega)).mpr h
  omega
def cK:List T -> Option T
 | [.int a,.int b]=>if a.natAbs < B /\ b.natAbs < B then some (.int (Int.gcd a b)) else none
 | _=>none
theorem dk {a b:Int} (ha:a.natAbs < B) (hb:b.natAbs < B):cK [.int a,.int b]=some (.int (Int.gcd a b)):=if_pos ⟨ha,hb⟩
theorem An (ts:List T) (t:T) (h:cK ts=some t):cz 3 2 (n0 B (fun _=>none)) ts=some t:=by
 unfold cK at h
 split at h
 ·next a b =>
  split at h
  ·next hb =>
   cases h
   have hw:=lI B none a.natAbs b.natAbs (hb.2)
   have hbits:=bits_le (x:=((b.natAbs:Nat):Int)) (by simpa using hb.2)
   have hgt:uC (.int (Builtin.Int.intBits ((b.natAbs:Nat):Int))) (.int 4000)=some (.bl false):=by
    show some (T.bl (decide _))=_
    rw [decide_eq_false hbits]
   have hno:eL (eP (aG uC (ub iP (ae 1)) (fC (.int 4000)))) (aV (m8 0 1 (aa (ae 1) (aa (aG cU (ae 0) (ae 1)) ao))) (bY (eP (aG uC (ub iP (ae 1)) (fC (.int 4000)))) (jN (ak (fun _=>none) (aa (ae 0) (aa (ae 1) ao))) (bX (ay (aj 0) (ay (aj 1) (ay (aj 2) bS))))) bI)) B [some (.sh (.int (a.natAbs:Nat))),some (.sh (.int (b.natAbs:Nat))),none]
     = some (.nx [some (.sh (.int (a.natAbs:Nat))),some (.sh (.int (b.natAbs:Nat))),none]):=Cd (by
      clear hw hbits
      walk_at "ev") HA
   unfold cz n0
   clear hb hbits hgt
   walk_at "ev"
   rfl
  ·cases h
 ·cases h
def sg (a b:Int):Int:=if b < 0 then -(Int.gcd a b:Int) else (Int.gcd a b:Int)
def rL (a b:Int):T:=.tup [.int (a.fdiv (sg a b)),.int (b.fdiv (sg a b))]
def vh:List T -> Option T
 | [.int a,.int b]=>if a.natAbs < B /\ b.natAbs < B /\ b ≠ 0 then some (rL a b) else none
 | _=>none
theorem Bt {a b:Int} (ha:a.natAbs < B) (hb:b.natAbs < B) (h0:b ≠ 0):vh [.int a,.int b]=some (rL a b):=if_pos ⟨ha,hb,h0⟩
theorem Bg {a b:Int} (h0:b ≠ 0):¬ ((Int.gcd a b:Nat):Int)=0:=by
 intro h
 have:Int.gcd a b=0:=by omega
 rw [Int.gcd_eq_zero_iff] at this
 exact h0 this.2
theorem qH {a b:Int} (hb:b.natAbs < B) (h0:b ≠ 0):Int.gcd a b < B:=by
 have h1:Int.gcd a b ∣ b.natAbs:=Int.gcd_dvd_natAbs_right a b
 have:=Nat.le_of_dvd (by omega) h1
 omega
theorem AI {x:Int} (h:x.natAbs < B):Bf (.int (Builtin.Int.intBits x)) (.int 8000)=some (.bl true):=by
 show some (T.bl (decide _))=_
 rw [decide_eq_true (by have:=bits_le h; omega)]
theorem Ea (ts:List T) (t:T) (h:vh ts=some t):cz 3 2 (wu cK) ts=some t:=by
 unfold vh at h
 split at h
 ·next a b =>
  split at h
  ·next hb =>
   cases h
   obtain ⟨ha,hb,h0⟩:=hb
   have h1:=dk ha hb
   have h2:=Bg (a:=a) h0
   have h3:=qH (a:=a) hb h0
   have h4:((Int.gcd a b:Nat):Int).natAbs < B:=by omega
   have h5:¬ -((Int.gcd a b:Nat):Int)=0:=by omega
   have h6:(-((Int.gcd a b:Nat):Int)).natAbs < B:=by omega
   have h7:=AI h4
   have h8:=AI h6
   unfold cz wu
   by_cases hs:b < 0
   ·have e:rL a b=.tup [.int (a.fdiv (-(Int.gcd a b:Int))),.int (b.fdiv (-(Int.gcd a b:Int)))]:=by unfold rL sg; rw [if_pos hs]
    walk_at "ev"
   ·have e:rL a b=.tup [.int (a.fdiv (Int.gcd a b:Int)),.int (b.fdiv (Int.gcd a b:Int))]:=by unfold rL sg; rw [if_neg hs]
    walk_at "ev"
  ·cases h
 ·cases h
open PySem PySem.Spec PyProof.Rows L2 TM Qm
def C:Nat:=2 ^ 1000
theorem J1:C * C + C * C < B:=by decide +kernel
theorem CB:C < B:=by decide +kernel
theorem Es:0 < C:=by decide +kernel
theorem ltB {a:Int} (h:a.natAbs < C):a.natAbs < B:=Nat.lt_trans h CB
theorem mulC {a b:Int} (ha:a.natAbs < C) (hb:b.natAbs < C):(a * b).natAbs < C * C:=by
 rw [Int.natAbs_mul]
 exact Nat.mul_lt_mul'' ha hb
theorem Kb {a b c d:Int} (ha:a.natAbs < C) (hb:b.natAbs < C) (hc:c.natAbs < C) (hd:d.natAbs < C):(a * b + c * d).natAbs < B:=by
 have h1:=mulC ha hb
 have h2:=mulC hc hd
 have h3:=J1
 omega
theorem gQ {a g:Int} (h:g ∣ a) (hg:g ≠ 0):(a.fdiv g).natAbs ≤ a.natAbs:=by
 obtain ⟨x,rfl⟩:=h
 rw [Int.mul_fdiv_cancel_left x hg,Int.natAbs_mul]
 exact Nat.le_mul_of_pos_left _ (by omega)
structure Fr (a b:Int):Prop where
 pos:0 < b
 cop:ib a b
 ba:a.natAbs < C
 bb:b.natAbs < C
theorem rM {a b:Int} (h:0 < b):rL a b=.tup [.int (a.fdiv (Int.gcd a b)),.int (b.fdiv (Int.gcd a b))]:=by
 unfold rL sg
 rw [if_neg (by omega)]
def two:List T -> Option (Int × Int × Int × Int)
 | [.tup [.int a,.int b],.tup [.int c,.int d]]=>some (a,b,c,d)
 | _=>none
theorem Hi {ts:List T} {a b c d:Int} (h:two ts=some (a,b,c,d)):ts=[.tup [.int a,.int b],.tup [.int c,.int d]]:=by
 unfold two at h
 split at h
 ·cases h; rfl
 ·cases h
instance (a b:Int):Decidable (Fr a b):=decidable_of_iff (0 < b /\ Int.gcd a b=1 /\ a.natAbs < C /\ b.natAbs < C) ⟨fun h=>⟨h.1,h.2.1,h.2.2.1,h.2.2.2⟩,fun h=>⟨h.pos,h.cop,h.ba,h.bb⟩⟩
def Dl (C:Int -> Int -> Int -> Int -> Bool) (g:Int -> Int -> Int -> Int -> T):List T -> Option T:=fun ts=>(two ts).bind fun p=>if Fr p.1 p.2.1 /\ Fr p.2.2.1 p.2.2.2 /\ C p.1 p.2.1 p.2.2.1 p.2.2.2=true then some (g p.1 p.2.1 p.2.2.1 p.2.2.2) else none
theorem vi {C:Int -> Int -> Int -> Int -> Bool} {g:Int -> Int -> Int -> Int -> T} {ts:List T} {t:T} (h:Dl C g ts=some t):∃ a b c d,ts=[.tup [.int a,.int b],.tup [.int c,.int d]] /\ Fr a b /\ Fr c d /\ C a b c d=true /\ t=g a b c d:=by
 obtain ⟨⟨a,b,c,d⟩,e,h⟩:=bind_some h
 dsimp only at h
 split at h
 ·next k=>cases h; exact ⟨a,b,c,d,Hi e,k.1,k.2.1,k.2.2,rfl⟩
 ·cases h
theorem yQ {C:Int -> Int -> Int -> Int -> Bool} {g:Int -> Int -> Int -> Int -> T} {a b c d:Int} (h1:Fr a b) (h2:Fr c d) (h3:C a b c d=true):Dl C g [.tup [.int a,.int b],.tup [.int c,.int d]]=some (g a b c d):=if_pos ⟨h1,h2,h3⟩
abbrev Hv:=Dl (fun _ _ _ _=>true) fun a b c d=>rL (a * d + c * b) (b * d)
abbrev IH:=Dl (fun _ _ _ _=>true) fun a b c d=>rL (a * c) (b * d)
theorem Eb (ts:List T) (t:T) (h:Hv ts=some t):cz 5 2 (wx cK) ts=some t:=by
 obtain ⟨a,b,c,d,rfl,h1,h2,_,rfl⟩:=vi h
 clear h
 obtain ⟨pb,cb,ba,bb⟩:=h1
 obtain ⟨pd,cd,bc,bd⟩:=h2
 obtain ⟨q1,q2,q3,q4⟩:=GR pb pd cb cd _ _ _ rfl rfl rfl
 have v1:((Int.gcd b d:Nat):Int) ∣ b:=Int.gcd_dvd_left b d
 have v2:((Int.gcd b d:Nat):Int) ∣ d:=Int.gcd_dvd_right b d
 have n1:=gQ v1 q3
 have n2:=gQ v2 q3
 have g1:Int.gcd b d < B:=qH (ltB bd) (by omega)
 have g1':((Int.gcd b d:Nat):Int).natAbs < B:=by omega
 generalize hs:((Int.gcd b d:Nat):Int)=s at *
 have tb:(a * d.fdiv s + c * b.fdiv s).natAbs < B:=Kb ba (by omega) bc (by omega)
 have g2:Int.gcd (a * d.fdiv s + c * b.fdiv s) s < B:=qH g1' q3
 have v3:((Int.gcd (a * d.fdiv s + c * b.fdiv s) s:Nat):Int) ∣ d:=Int.dvd_trans (Int.gcd_dvd_right _ _) v2
 have n3:=gQ v3 q4
 have k1:=dk (ltB bb) (ltB bd)
 have k2:=dk tb g1'
 rw [hs] at k1
 have e:rL (a * d + c * b) (b * d)=.tup [.int ((a * d.fdiv s + c * b.fdiv s).fdiv (Int.gcd (a * d.fdiv s + c * b.fdiv s) s:Nat)),.int (b.fdiv s * d.fdiv (Int.gcd (a * d.fdiv s + c * b.fdiv s) s:Nat))]:=by
  rw [rM (Int.mul_pos pb pd),q1,q2]
 have g2':((Int.gcd (a * d.fdiv s + c * b.fdiv s) s:Nat):Int).natAbs < B:=by omega
 generalize hl:((Int.gcd (a * d.fdiv s + c * b.fdiv s) s:Nat):Int)=l at *
 have w1:=ltB ba
 have w2:=ltB bc
 have cb':=CB
 have w3:(d.fdiv s).natAbs < B:=by omega
 have w4:(b.fdiv s).natAbs < B:=by omega
 have w5:(d.fdiv l).natAbs < B:=by omega
 clear q1 q2 v1 v2 n1 n2 n3 v3 cb cd ba bb bc bd pb pd hs hl g1 g2 cb'
 unfold cz wx
 walk_at "ev"
theorem B4 (ts:List T) (t:T) (h:IH ts=some t):cz 4 2 (rg cK) ts=some t:=by
 obtain ⟨a,b,c,d,rfl,h1,h2,_,rfl⟩:=vi h
 clear h
 obtain ⟨pb,cb,ba,bb⟩:=h1
 obtain ⟨pd,cd,bc,bd⟩:=h2
 obtain ⟨q1,q2,q3,q4⟩:=Ek pb pd cb cd _ _ rfl rfl
 have n1:=gQ (Int.gcd_dvd_left a d) q3
 have n2:=gQ (Int.gcd_dvd_right a d) q3
 have n3:=gQ (Int.gcd_dvd_left c b) q4
 have n4:=gQ (Int.gcd_dvd_right c b) q4
 have g1:Int.gcd a d < B:=qH (ltB bd) (by omega)
 have g2:Int.gcd c b < B:=qH (ltB bb) (by omega)
 have k1:=dk (ltB ba) (ltB bd)
 have k2:=dk (ltB bc) (ltB bb)
 have e:rL (a * c) (b * d)=.tup [.int (a.fdiv (Int.gcd a d:Nat) * c.fdiv (Int.gcd c b:Nat)),.int (b.fdiv (Int.gcd c b:Nat) * d.fdiv (Int.gcd a d:Nat))]:=by
  rw [rM (Int.mul_pos pb pd),q1,q2]
 have g1':((Int.gcd a d:Nat):Int).natAbs < B:=by omega
 have g2':((Int.gcd c b:Nat):Int).natAbs < B:=by omega
 generalize ((Int.gcd a d:Nat):Int)=l at *
 generalize ((Int.gcd c b:Nat):Int)=r at *
 have cb':=CB
 have w1:(a.fdiv l).natAbs < B:=by omega
 have w2:(d.fdiv l).natAbs < B:=by omega
 have w3:(c.fdiv r).natAbs < B:=by omega
 have w4:(b.fdiv r).natAbs < B:=by omega
 clear q1 q2 n1 n2 n3 n4 cb cd ba bb bc bd pb pd g1 g2 cb'
 unfold cz rg
 walk_at "ev"
open Rq
def bp (q:Rat):T:=.tup [.int q.num,.int (q.den:Int)]
theorem nJ {a b:Int} (hb:0 < b):rL a b=bp (Rat.divInt a b):=by
 have hs:b.sign=1:=Int.sign_eq_one_of_pos hb
 have hg:(Int.gcd b a:Int)=(Int.gcd a b:Int):=by rw [Int.gcd_comm]
 rw [rM hb]
 unfold bp
 rw [Rat.num_divInt,Rat.den_divInt,if_neg (by omega),hs,Int.one_mul,hg,Int.fdiv_eq_ediv_of_nonneg _ (by omega),Int.fdiv_eq_ediv_of_nonneg _ (by omega)]
 congr 3
 rw [Int.natCast_ediv,Int.natAbs_of_nonneg (by omega),hg]
structure Sm (q:Rat):Prop where
 n:q.num.natAbs < C
 d:q.den < C
theorem Sm.fr {q:Rat} (h:Sm q):Fr q.num q.den:=⟨by have:=q.den_nz; omega,by
 have:=q.reduced
 show Int.gcd q.num q.den=1
 exact this,h.n,by have:=h.d; omega⟩
theorem cR (q:Rat):Rat.divInt q.num q.den=q:=Rat.num_divInt_den q
theorem den_pos (q:Rat):(0:Int) < (q.den:Int):=by have:=q.den_nz; omega
theorem add_eq (x y:Rat):rL (x.num * y.den + y.num * x.den) (x.den * y.den)=bp (x + y):=by
 rw [nJ (Int.mul_pos (den_pos x) (den_pos y))]
 congr 1
 rw [<- Rat.divInt_add_divInt _ _ (Int.ne_of_gt (den_pos x)) (Int.ne_of_gt (den_pos y)),cR,cR]
theorem mul_eq (x y:Rat):rL (x.num * y.num) (x.den * y.den)=bp (x * y):=by
 rw [nJ (Int.mul_pos (den_pos x) (den_pos y))]
 congr 1
 rw [<- Rat.divInt_mul_divInt,cR,cR]
theorem IE {x y:Rat} (hx:Sm x) (hy:Sm y):Hv [bp x,bp y]=some (bp (x + y)):=by
 have h:=yQ (C:=fun _ _ _ _=>true) (g:=fun a b c d=>rL (a * d + c * b) (b * d)) hx.fr hy.fr rfl
 rw [add_eq] at h
 exact h
theorem II {x y:Rat} (hx:Sm x) (hy:Sm y):IH [bp x,bp y]=some (bp (x * y)):=by
 have h:=yQ (C:=fun _ _ _ _=>true) (g:=fun a b c d=>rL (a * c) (b * d)) hx.fr hy.fr rfl
 rw [mul_eq] at h
 exact h
theorem Lj:2 ^ 100 * DD 12 < C:=by decide +kernel
theorem Jj {k m:Nat} {q:Rat} (h:Lq k m q) (hk:k ≤ 12) (hm:m ≤ 2 ^ 100):Sm q:=by
 obtain ⟨h1,h2⟩:=h.bd
 have hd:DD k ≤ DD 12:=Nat.pow_le_pow_right (by decide) hk
 have hp:=cO k
 have h3:q.den ≤ DD k:=Nat.le_of_dvd hp h2
 have h4:m * DD k ≤ 2 ^ 100 * DD 12:=Nat.mul_le_mul hm hd
 have h5:DD k ≤ 2 ^ 100 * DD 12:=Nat.le_trans hd (Nat.le_mul_of_pos_left _ (by decide))
 have:=Lj
 exact ⟨by omega,by omega⟩
open PySem PySem.Spec PyProof.Rows L2 TM Qm Rq
open Classical in
def mk {α:Type} (R:List T -> α -> Prop):List T -> Option α:=fun ts=>if h:∃ t,R ts t then some (Classical.choose h) else none
theorem xj {α:Type} {R:List T -> α -> Prop} {ts:List T} {t:α} (h:mk R ts=some t):R ts t:=by
 unfold mk at h
 split at h
 ·next hh=>cases h; exact Classical.choose_spec hh
 ·cases h
theorem mk_eq {α:Type} {R:List T -> α -> Prop} {ts:List T} {t:α} (h:R ts t) (u:∀ t',R ts t' -> t'=t):mk R ts=some t:=by
 unfold mk
 rw [dif_pos ⟨t,h⟩]
 congr 1
 exact u _ (Classical.choose_spec (⟨t,h⟩:∃ t,R ts t))
theorem DS {x y:Rat} (h:bp x=bp y):x=y:=by
 unfold bp at h
 injection h with h
 injection h with h1 h2
 injection h2 with h2 _
 injection h1 with h1
 injection h2 with h2
 exact Rat.ext h1 (by omega)
theorem map_inj {α β:Type} {f:α -> β} (hf:∀ x y,f x=f y -> x=y):∀ {a b:List α},a.map f=b.map f -> a=b
 | [],[],_=>rfl
 | [],_ :: _,h=>by cases h
 | _ :: _,[],h=>by cases h
 | x :: a,y :: b,h=>by
  rw [List.map_cons,List.map_cons] at h
  injection h with h1 h2
  rw [hf _ _ h1,map_inj hf h2]
def aD (r:List Rat):T:=.lst (r.map bp)
def ai (A:List (List Rat)):T:=.lst (A.map aD)
def iX (r:List Rat):O:=vJ (r.map bp)
def du (A:List (List Rat)):O:=.lst (A.map iX)
theorem oX {r s:List Rat} (h:aD r=aD s):r=s:=by
 unfold aD at h
 injection h with h
 exact map_inj (fun _ _=>DS) h
theorem B9 {r s:List (List Rat)} (h:ai r=ai s):r=s:=by
 unfold ai at h
 injection h with h
 exact map_inj (fun _ _=>oX) h
theorem DW (r:List Rat):(iX r).tr=aD r:=by
 show T.lst (O.trs ((r.map bp).map O.val))=_
 rw [iq]
 rfl
theorem nU {α:Type} {f:α -> O} {g:α -> T} (h:∀ x,(f x).tr=g x):∀ l:List α,O.trs (l.map f)=l.map g
 | []=>rfl
 | x :: l=>by rw [List.map_cons,O.trs,nU h l,h x]; rfl
theorem eW (A:List (List Rat)):(du A).tr=ai A:=by
 show T.lst (O.trs (A.map iX))=_
 rw [nU DW]
 rfl
theorem bO {α:Type} {φ:α -> T} {fe:FE} {g:α -> T} {ρ:aH} (hr:cg ρ=true):∀ (l:List α) (u:Option Sl) (acc:List T),(∀ x ∈ l,fe (some (.sh (φ x)) :: ρ)=some (g x,some (.sh (φ x)) :: ρ)) -> acc.length + l.length ≤ sizeLine -> fm (aj 0) av fe (l.map φ) (u :: ρ) acc=some (acc ++ l.map g)
 | [],u,acc,_,_=>by simp [fm]
 | x :: l,u,acc,h,hl=>by
  have hl':acc.length + (l.length + 1) ≤ sizeLine:=hl
  rw [List.map_cons,fm,show aj 0 (φ x) (u :: ρ)=some (some (.sh (φ x)) :: ρ) from rfl,Option.bind_some,show av (some (.sh (φ x)) :: ρ)=some (true,some (.sh (φ x)) :: ρ) from rfl,Option.bind_some,if_pos rfl,h x List.mem_cons_self,Option.bind_some,if_pos ⟨hr,by omega⟩,
   bO hr l _ _ (fun z hz=>h z (List.mem_cons_of_mem _ hz)) (by rw [List.length_append]; simp; omega),List.map_cons,List.append_assoc]
  rfl
theorem eE {α:Type} {φ:α -> T} {fe:lL} {g:α -> O} {ρ:aH} (hr:cg ρ=true):∀ (l:List α) (u:Option Sl) (acc:List O),(∀ x ∈ l,fe (some (.sh (φ x)) :: ρ)=some (g x,some (.sh (φ x)) :: ρ)) -> acc.length + l.length ≤ sizeLine -> gZ (aj 0) av fe (l.map φ) (u :: ρ) acc=some (acc ++ l.map g)
 | [],u,acc,_,_=>by simp [gZ]
 | x :: l,u,acc,h,hl=>by
  have hl':acc.length + (l.length + 1) ≤ sizeLine:=hl
  rw [List.map_cons,gZ,show aj 0 (φ x) (u :: ρ)=some (some (.sh (φ x)) :: ρ) from rfl,Option.bind_some,show av (some (.sh (φ x)) :: ρ)=some (true,some (.sh (φ x)) :: ρ) from rfl,Option.bind_some,if_pos rfl,h x List.mem_cons_self,Option.bind_some,if_pos ⟨hr,by omega⟩,
   eE hr l _ _ (fun z hz=>h z (List.mem_cons_of_mem _ hz)) (by rw [List.length_append]; simp; omega),List.map_cons,List.append_assoc]
  rfl
abbrev pZ:FG:=bX (ay (aj 0) (ay (aj 1) bS))
theorem C5 (x y:T) (u v:Option Sl) (ρ:aH):pZ (.tup [x,y]) (u :: v :: ρ)=some (some (.sh x) :: some (.sh y) :: ρ):=rfl
theorem gq {α:Type} {φ ψ:α -> T} {fe:FE} {g:α -> T} {ρ:aH} (hr:cg ρ=true):∀ (l:List α) (u v:Option Sl) (acc:List T),(∀ x ∈ l,fe (some (.sh (φ x)) :: some (.sh (ψ x)) :: ρ)=some (g x,some (.sh (φ x)) :: some (.sh (ψ x)) :: ρ)) -> acc.length + l.length ≤ sizeLine ->
  fm pZ av fe (l.map fun x=>.tup [φ x,ψ x]) (u :: v :: ρ) acc=some (acc ++ l.map g)
 | [],u,v,acc,_,_=>by simp [fm]
 | x :: l,u,v,acc,h,hl=>by
  have hl':acc.length + (l.length + 1) ≤ sizeLine:=hl
  rw [List.map_cons,fm,C5,Option.bind_some,show av (some (.sh (φ x)) :: some (.sh (ψ x)) :: ρ)=some (true,some (.sh (φ x)) :: some (.sh (ψ x)) :: ρ) from rfl,Option.bind_some,if_pos rfl,h x List.mem_cons_self,Option.bind_some,if_pos ⟨hr,by omega⟩,
   gq hr l _ _ _ (fun z hz=>h z (List.mem_cons_of_mem _ hz)) (by rw [List.length_append]; simp; omega),List.map_cons,List.append_assoc]
  rfl
theorem fS {α β:Type} (φ:α -> T) (ψ:β -> T):∀ (r:List α) (s:List β),gG (r.map φ) (s.map ψ)=(List.zip r s).map fun p=>.tup [φ p.1,ψ p.2]
 | [],s=>by simp [gG]
 | x :: r,[]=>by simp [gG]
 | x :: r,y :: s=>by simp [gG,fS φ ψ r s]
theorem xZ:∀ (n:Nat) (lo:Int),TM.upTo lo n=(List.range n).map fun (i:Nat)=>T.int (lo + i):=by
 intro n lo
 apply List.ext_getElem?
 intro i
 by_cases h:i < n
 ·rw [pO n lo i h,List.getElem?_map,List.getElem?_range h]; rfl
 ·rw [List.getElem?_eq_none (by rw [gU]; omega),List.getElem?_eq_none (by simp; omega)]
theorem vY (n:Nat):TM.upTo 0 n=(List.range n).map fun (i:Nat)=>T.int i:=by
 rw [xZ]
 congr 1
 funext i
 congr 1
 omega
theorem bF {no:Nat} {cap:List Nat} {fi:FA} {fg:FG} {ft:FT} {fe:FE} {τ:aH} {ts us:List T} (h1:fi τ=some (ts,τ)) (h2:frzAll cap τ=τ) (h3:cg (cE no cap τ)=true) (h4:fm fg ft fe ts (cE no cap τ) []=some us):bR no cap fi fg ft fe τ=some (.lst us,τ):=by
 unfold bR
 rw [h1,Option.bind_some]
 dsimp only
 rw [h2,if_pos h3,h4]
 rfl
theorem ie {no:Nat} {cap:List Nat} {fi:FA} {fg:FG} {ft:FT} {fe:lL} {τ:aH} {ts:List T} {us:List O} (h1:fi τ=some (ts,τ)) (h2:frzAll cap τ=τ) (h3:cg (cE no cap τ)=true) (h4:gZ fg ft fe ts (cE no cap τ) []=some us):ef no cap fi fg ft fe τ=some (.lst us,τ):=by
 unfold ef
 rw [h1,Option.bind_some]
 dsimp only
 rw [h2,if_pos h3,h4]
 rfl
theorem dw {fg:FG} {fb:FS} {t:T} {ts:List T} {τ τ1 τ2:aH} (h1:fg t τ=some τ1) (h2:fb τ1=some (.nx τ2)):df fg fb (t :: ts) τ=df fg fb ts τ2:=by
 rw [df,h1,Option.bind_some,h2]
 rfl
theorem lj {f:FE} {τ:aH} {n:Int} (h:f τ=some (.int n,τ)) (h0:0 ≤ n) (h1:n ≤ 1000):dB (aa f ao) τ=some (TM.upTo 0 n.toNat,τ):=by
 unfold dB aa ao
 rw [h]
 show (if _ then _ else _)=_
 rw [if_pos (by omega)]
theorem nR {f:FE} {τ:aH} {n:Nat} (h:f τ=some (.int n,τ)) (h1:n ≤ 1000):dB (aa f ao) τ=some ((List.range n).map fun (i:Nat)=>T.int i,τ):=by
 have e:=lj h (by omega) (by omega)
 rw [Int.toNat_natCast,vY] at e
 exact e
structure Gd (k m:Nat) (r:List Rat):Prop where
 len:r.length ≤ 8
 lq:∀ x ∈ r,Lq k m x
def K4 (k m:Nat):Prop:=k ≤ 6 /\ m ≤ 2 ^ 40
theorem Gd.sm {k m:Nat} {r:List Rat} (h:Gd k m r) (f:K4 k m) {x:Rat} (hx:x ∈ r):Sm x:=Jj (h.lq x hx) (by have:=f.1; omega) (Nat.le_trans f.2 (by decide))
open PySem PySem.Spec PyProof.Rows L2 TM Qm Rq
theorem JE {g:List T -> Option T} {f:FA} {ρ:aH} {t:T} (ts:List T) (h1:f ρ=some (ts,ρ)) (h2:g ts=some t):m9 (ak g f) ρ=some (.val t,ρ):=by
 unfold m9 ak
 rw [h1,Option.bind_some]
 dsimp only
 rw [h2]
 rfl
theorem my {n:Nat} (h:n ≤ 8):([]:List O).length + n ≤ sizeLine:=by rw [List.length_nil,Nat.zero_add]; exact da (by omega)
theorem bW {n:Nat} (h:n ≤ 8):([]:List T).length + n ≤ sizeLine:=by rw [List.length_nil,Nat.zero_add]; exact da (by omega)
theorem nV {α β:Type} (r:List α) (s:List β) (h:r.length ≤ 8):(List.zip r s).length ≤ 8:=by rw [List.length_zip]; omega
theorem cV {α β:Type} {r:List α} {s:List β} {p:α × β} (h:p ∈ List.zip r s):p.1 ∈ r /\ p.2 ∈ s:=⟨(List.of_mem_zip h).1,(List.of_mem_zip h).2⟩
def HK (r s:List Rat):List Rat:=(List.zip r s).map fun p=>p.1 + p.2
def mulR (b:Rat) (r:List Rat):List Rat:=r.map (b * ·)
structure Tb (k m:Nat) (A:List (List Rat)):Prop where
 len:A.length ≤ 8
 row:∀ r ∈ A,Gd k m r
def HL (A B:List (List Rat)):List (List Rat):=(List.zip A B).map fun p=>HK p.1 p.2
theorem yp {g:List T -> Option O} {f:FA} {ρ:aH} {t:O} (ts:List T) (h1:f ρ=some (ts,ρ)) (h2:g ts=some t):iE g f ρ=some (t,ρ):=by
 unfold iE
 rw [h1,Option.bind_some]
 dsimp only
 rw [h2]
 rfl
theorem aI {g:List T -> Option T} {f:FA} {ρ:aH} {t:T} (ts:List T) (h1:f ρ=some (ts,ρ)) (h2:g ts=some t):ak g f ρ=some (t,ρ):=by
 unfold ak
 rw [h1,Option.bind_some]
 dsimp only
 rw [h2]
 rfl
def IM (b:Rat) (A:List (List Rat)):List (List Rat):=A.map (mulR b)
open PySem PySem.Spec PyProof.Rows L2 TM Qm Rq
def aS (r:List Rat):Nat:=r.foldl (fun l x=>Nat.lcm l x.den) 1
theorem vf:∀ (r:List Rat) (l:Nat),l ∣ r.foldl (fun l x=>Nat.lcm l x.den) l
 | [],l=>Nat.dvd_refl l
 | x :: r,l=>Nat.dvd_trans (Nat.dvd_lcm_left _ _) (vf r _)
theorem yx:∀ (r:List Rat) (l:Nat) (x:Rat),x ∈ r -> x.den ∣ r.foldl (fun l x=>Nat.lcm l x.den) l
 | y :: r,l,x,h=>by
  rcases List.mem_cons.mp h with rfl | h
  ·exact Nat.dvd_trans (Nat.dvd_lcm_right _ _) (vf r _)
  ·exact yx r _ x h
theorem Li {k:Nat} (h:k ≤ 12):DD k < B:=by
 have hd:DD k ≤ DD 12:=Nat.pow_le_pow_right (by decide) h
 have:DD 12 < B:=by decide +kernel
 omega
theorem Bq {l b:Nat} (hl:0 < l) (hb:0 < b):((l:Int).fdiv (Int.gcd (l:Int) (b:Int):Nat)) * (b:Int)=(Nat.lcm l b:Nat):=by
 have hg:Int.gcd (l:Int) (b:Int)=Nat.gcd l b:=rfl
 rw [hg,Int.fdiv_eq_ediv_of_nonneg _ (by omega)]
 have:(l:Int) / (Nat.gcd l b:Nat)=((l / Nat.gcd l b:Nat):Int):=by rw [Int.natCast_ediv]
 rw [this,<- Int.natCast_mul]
 congr 1
 unfold Nat.lcm
 rw [Nat.div_mul_right_comm (Nat.gcd_dvd_left l b)]
def pk:FS:=bh 1 (aG aX (aG cP (ae 1) (ak cK (aa (ae 1) (aa (ae 3) ao)))) (ae 3))
theorem yZ {D:Nat} (hB:D < B) (hp:0 < D) (x0:Option Sl):∀ (r:List Rat) (l:Nat) (u v:Option Sl),l ∣ D -> (∀ x ∈ r,x.den ∣ D) -> ∃ u' v',df (bX (ay (aj 2) (ay (aj 3) bS))) pk (r.map bp) [x0,some (.sh (.int l)),u,v]
  = some (.nx [x0,some (.sh (.int (r.foldl (fun l x=>Nat.lcm l x.den) l:Nat))),u',v'])
 | [],l,u,v,_,_=>⟨u,v,by simp [df]⟩
 | x :: r,l,u,v,h1,h2=>by
  have hl0:0 < l:=Nat.pos_of_dvd_of_pos h1 hp
  have hl:l ≤ D:=Nat.le_of_dvd hp h1
  have hd:=h2 x List.mem_cons_self
  have hd0:0 < x.den:=Nat.pos_of_ne_zero x.den_nz
  have hdl:x.den ≤ D:=Nat.le_of_dvd hp hd
  obtain ⟨u',v',ih⟩:=yZ hB hp x0 r (Nat.lcm l x.den) (some (.sh (.int x.num))) (some (.sh (.int x.den))) (Nat.lcm_dvd h1 hd) fun z hz=>h2 z (List.mem_cons_of_mem _ hz)
  refine ⟨u',v',?_⟩
  have k1:=dk (a:=(l:Int)) (b:=(x.den:Int)) (by omega) (by omega)
  have e1:=Bq hl0 hd0
  have hg:Int.gcd (l:Int) (x.den:Int) ≤ l:=by
   show Nat.gcd l x.den ≤ l
   exact Nat.le_of_dvd hl0 (Nat.gcd_dvd_left _ _)
  have hg0:0 < Int.gcd (l:Int) (x.den:Int):=by
   show 0 < Nat.gcd l x.den
   exact Nat.gcd_pos_of_pos_left _ hl0
  have n1:¬ ((Int.gcd (l:Int) (x.den:Int):Nat):Int)=0:=by omega
  have n2:((Int.gcd (l:Int) (x.den:Int):Nat):Int).natAbs < B:=by omega
  have n3:((l:Int).fdiv ((Int.gcd (l:Int) (x.den:Int):Nat):Int)).natAbs < B:=by
   rw [Int.fdiv_eq_ediv_of_nonneg _ (by omega)]
   have:=Int.ediv_le_self ((Int.gcd (l:Int) (x.den:Int):Nat):Int) (show (0:Int) ≤ (l:Int) by omega)
   have:=Int.ediv_nonneg (show (0:Int) ≤ (l:Int) by omega) (show (0:Int) ≤ ((Int.gcd (l:Int) (x.den:Int):Nat):Int) by omega)
   omega
  have n4:(x.den:Int).natAbs < B:=by omega
  have hb:pk [x0,some (.sh (.int l)),some (.sh (.int x.num)),some (.sh (.int x.den))]=some (.nx [x0,some (.sh (.int (Nat.lcm l x.den:Nat))),some (.sh (.int x.num)),some (.sh (.int x.den))]):=by
   rw [<- e1]
   clear ih h1 h2 hB hp hl0 hl hd hd0 hdl e1 hg hg0
   unfold pk
   walk_at "ev"
  rw [List.map_cons,dw (τ1:=[x0,some (.sh (.int l)),some (.sh (.int x.num)),some (.sh (.int x.den))]) rfl hb,ih]
  rfl
structure Gn (D N:Nat) (r:List Rat):Prop where
 len:r.length ≤ 8
 den:∀ x ∈ r,x.den ∣ D
 num:∀ x ∈ r,x.num.natAbs ≤ N
 dp:0 < D
 db:D < B
 nb:N < B
theorem Fo:2 ^ 40 * DD 6 < B:=by decide +kernel
theorem Gn.of {k m:Nat} {r:List Rat} (h:Gd k m r) (f:K4 k m):Gn (DD k) (m * DD k) r:=by
 have hd:DD k ≤ DD 6:=Nat.pow_le_pow_right (by decide) f.1
 exact ⟨h.len,fun x hx=>(h.lq x hx).bd.2,fun x hx=>(h.lq x hx).bd.1,cO k,Li (by have:=f.1; omega),Nat.lt_of_le_of_lt (Nat.mul_le_mul f.2 hd) Fo⟩
def Ln (ts:List T) (t:T):Prop:=∃ r D N,ts=[aD r] /\ Gn D N r /\ t=.int (aS r:Nat)
def JS:List T -> Option T:=mk Ln
theorem BQ {r r':List Rat} (e:([aD r]:List T)=[aD r']):r=r':=by
 injection e with e _
 exact oX e
theorem IG {r:List Rat} {D N:Nat} (h1:Gn D N r):JS [aD r]=some (.int (aS r:Nat)):=
 mk_eq ⟨r,D,N,rfl,h1,rfl⟩ fun t' ⟨r',_,_,e,_,e2⟩=>by rw [e2,BQ e]
theorem mz (ts:List T) (t:T) (h:JS ts=some t):cz 4 1 (fT cK) ts=some t:=by
 obtain ⟨r,D,N,rfl,h1,rfl⟩:=xj h
 clear h
 obtain ⟨u,v,hl⟩:=yZ h1.db h1.dp (some (.sh (aD r))) r 1 none none (Nat.one_dvd _) h1.den
 have e:cz 4 1 (fT cK) [aD r]=(((df (bX (ay (aj 2) (ay (aj 3) bS))) pk (r.map bp) [some (.sh (aD r)),some (.sh (.int 1)),none,none]).bind fun r=>match r with | .nx τ'=>bE (ae 1) τ' | r=>some r).bind fun r=>match r with | .rt t=>some t | .nx _=>some .non | _=>none):=rfl
 have hl':df (bX (ay (aj 2) (ay (aj 3) bS))) pk (r.map bp) [some (.sh (aD r)),some (.sh (.int 1)),none,none]=_:=hl
 rw [e,hl']
 rfl
def bu (L:Nat) (x:Rat):Int:=x.num * ((L:Int).fdiv x.den)
theorem xU {L:Nat} {x:Rat} (hL:0 < L) (h:x.den ∣ L):Rat.divInt (bu L x) L=x:=by
 obtain ⟨c,hc⟩:=h
 have hc0:(c:Int) ≠ 0:=fun z=>by
  have:c=0:=by omega
  rw [this,Nat.mul_zero] at hc
  omega
 have hd:=den_pos x
 have e:(L:Int).fdiv x.den=c:=by
  rw [hc,Int.natCast_mul]
  exact Int.mul_fdiv_cancel_left _ (by omega)
 unfold bu
 rw [e,hc,Int.natCast_mul,Rat.divInt_mul_right hc0]
 exact cR x
def Lm (ts:List T) (t:T):Prop:=∃ r D N,ts=[aD r,.int (aS r:Nat)] /\ Gn D N r /\ t=.lst (r.map fun x=>T.int (bu (aS r) x))
def JR:List T -> Option T:=mk Lm
theorem IF {r:List Rat} {D N:Nat} (h1:Gn D N r):JR [aD r,.int (aS r:Nat)]=some (.lst (r.map fun x=>T.int (bu (aS r) x))):=
 mk_eq ⟨r,D,N,rfl,h1,rfl⟩ fun t' hq__=>by
  obtain ⟨r',_,_,e,_,e2⟩:=hq__
  injection e with e3 e4
  rw [e2,oX e3]
theorem ve {D:Nat}:∀ (r:List Rat) (l:Nat),l ∣ D -> (∀ x ∈ r,x.den ∣ D) -> r.foldl (fun l x=>Nat.lcm l x.den) l ∣ D
 | [],l,h,_=>h
 | x :: r,l,h,hx=>ve r _ (Nat.lcm_dvd h (hx x List.mem_cons_self)) fun z hz=>hx z (List.mem_cons_of_mem _ hz)
theorem yM {r:List Rat} {D N:Nat} (h1:Gn D N r):aS r ∣ D /\ 0 < aS r /\ ∀ x ∈ r,x.den ∣ aS r:=by
 have h:aS r ∣ D:=ve r 1 (Nat.one_dvd _) h1.den
 exact ⟨h,Nat.pos_of_dvd_of_pos h h1.dp,fun x hx=>yx r 1 x hx⟩
theorem Ff {D N:Nat} {x:Rat} {L:Nat} (hx:x.num.natAbs ≤ N) (hp:0 < D) (hL:L ∣ D):(bu L x).natAbs ≤ N * D:=by
 have hl:L ≤ D:=Nat.le_of_dvd hp hL
 have hd:=den_pos x
 unfold bu
 rw [Int.natAbs_mul,Int.fdiv_eq_ediv_of_nonneg _ (by omega)]
 refine Nat.mul_le_mul hx ?_
 have:=Int.ediv_le_self (x.den:Int) (show (0:Int) ≤ (L:Int) by omega)
 have:=Int.ediv_nonneg (show (0:Int) ≤ (L:Int) by omega) (show (0:Int) ≤ (x.den:Int) by omega)
 omega
theorem Ao (ts:List T) (t:T) (h:JR ts=some t):cz 2 2 ur ts=some t:=by
 obtain ⟨r,D,N,rfl,h1,rfl⟩:=xj h
 clear h
 obtain ⟨q1,q2,q3⟩:=yM h1
 have hB:=h1.db
 have hN:=h1.nb
 have hLk:aS r ≤ D:=Nat.le_of_dvd h1.dp q1
 have hc:=gq (φ:=fun x:Rat=>T.int x.num) (ψ:=fun x=>T.int x.den) (fe:=aG aX (ae 0) (aG cP (ae 2) (ae 1))) (g:=fun x=>T.int (bu (aS r) x)) (ρ:=[some (.sh (.int (aS r:Nat)))]) rfl r none none [] (fun x hx=>by
  have hd:=den_pos x
  have hxd:x.den ≤ aS r:=Nat.le_of_dvd q2 (q3 x hx)
  have n1:¬ ((x.den:Int)=0):=by omega
  have n2:(x.den:Int).natAbs < B:=by omega
  have n3:x.num.natAbs < B:=by have:=h1.num x hx; omega
  have n4:((aS r:Nat):Int).fdiv (x.den:Int)=((aS r:Nat):Int) / (x.den:Int):=Int.fdiv_eq_ediv_of_nonneg _ (by omega)
  have n5:(((aS r:Nat):Int).fdiv (x.den:Int)).natAbs < B:=by
   rw [n4]
   have:=Int.ediv_le_self (x.den:Int) (show (0:Int) ≤ ((aS r:Nat):Int) by omega)
   have:=Int.ediv_nonneg (show (0:Int) ≤ ((aS r:Nat):Int) by omega) (show (0:Int) ≤ (x.den:Int) by omega)
   omega
  have e:bu (aS r) x=x.num * ((aS r:Nat):Int).fdiv (x.den:Int):=rfl
  rw [e]
  clear e n4 hd hxd q1 q2 q3 hB hN hLk h1 hx
  walk_at "ev") (bW h1.len)
 have e:=bF (no:=2) (cap:=[1]) (fi:=aW (ae 0)) (fg:=pZ) (ft:=av) (τ:=[some (.sh (aD r)),some (.sh (.int (aS r:Nat)))]) (h1:=rfl) rfl rfl hc
 show (((bR 2 [1] _ pZ av _ [some (.sh (aD r)),some (.sh (.int (aS r:Nat)))]).bind fun p=>some (R.rt p.1)).bind _)=_
 rw [e]
 rfl
open PySem PySem.Spec PyProof.Rows L2 TM Qm Rq
def bitsQ (r:List Rat):List Int:=r.map fun x=>(Builtin.Int.intBits (x.den:Int):Int)
def longest (r:List Rat):Int:=if bitsQ r=[] then 1 else bestOf (bitsQ r)
def liftT (r:List Rat):T:=.tup [aD r,.lst (r.map fun x=>T.int (bu (aS r) x)),.int (aS r:Nat),.int (longest r)]
theorem Ep {r s:List Rat} (f g:Rat -> Int):(List.zip r s).map (fun p=>f p.1 * g p.2)=List.zipWith (· * ·) (r.map f) (s.map g):=by
 rw [List.zipWith_map]
 induction r generalizing s with
 | nil=>simp
 | cons x r ih =>
  cases s with
  | nil=>simp
  | cons y s=>simp [ih]
theorem xS {M:Nat}:∀ l:List Int,(∀ n ∈ l,n.natAbs ≤ M) -> l.sum.natAbs ≤ l.length * M
 | [],_=>by simp
 | n :: l,h=>by
  rw [List.sum_cons,List.length_cons,Nat.add_mul,Nat.one_mul]
  have h1:=h n List.mem_cons_self
  have h2:=xS l fun z hz=>h z (List.mem_cons_of_mem _ hz)
  have:=Int.natAbs_add_le n l.sum
  omega
open PySem PySem.Spec PyProof.Rows L2 TM Qm Rq
theorem wH {no:Nat} {cap:List Nat} {fi:FA} {fg:FG} {ft:FT} {fe:lL} {τ τ1:aH} {ts:List T} {us:List O} (h1:fi τ=some (ts,τ1)) (h2:frzAll cap τ1=τ1) (h3:cg (cE no cap τ1)=true) (h4:gZ fg ft fe ts (cE no cap τ1) []=some us):ef no cap fi fg ft fe τ=some (.lst us,τ1):=by
 unfold ef
 rw [h1,Option.bind_some]
 dsimp only
 rw [h2,if_pos h3,h4]
 rfl
theorem Gf {r:List Rat} {j:Nat} (h:j < r.length):bN (aD r) (.int (j:Nat))=some (bp (r.getD j 0)):=by
 have e:(r.map bp)[j]? = some (bp (r.getD j 0)):=by
  rw [List.getElem?_map,List.getD_eq_getElem?_getD,List.getElem?_eq_getElem h]
  rfl
 exact rd e
def Wd (w:Nat) (A:List (List Rat)):Prop:=∀ r ∈ A,r.length=w
def eN (A:List (List Rat)) (w:Nat):List (List Rat):=(List.range w).map fun j=>fN A j
theorem yu {k m:Nat} {A:List (List Rat)} (h:Tb k m A) (j:Nat):Gd k m (fN A j):=by
 refine ⟨by unfold fN; rw [List.length_map]; exact h.len,fun x hx=>?_⟩
 obtain ⟨r,hr,rfl⟩:=List.mem_map.mp hx
 rw [List.getD_eq_getElem?_getD]
 cases e:r[j]? with
 | none=>exact (Lq.zero k).mono (Nat.zero_le _)
 | some y=>exact (h.row r hr).lq y (List.mem_of_getElem? e)
def Lo (ts:List T) (o:O):Prop:=∃ A,∃ w:Nat,ts=[ai A,.int (w:Nat)] /\ A.length ≤ 8 /\ Wd w A /\ w ≤ 8 /\ o=du (eN A w)
def IJ:List T -> Option O:=mk Lo
theorem C9 {a b:Nat} (h:T.int (a:Nat)=T.int (b:Nat)):a=b:=by
 injection h with h
 omega
theorem IK {A:List (List Rat)} {w:Nat} (h1:A.length ≤ 8) (h2:Wd w A) (h3:w ≤ 8):IJ [ai A,.int (w:Nat)]=some (du (eN A w)):=
 mk_eq ⟨A,w,rfl,h1,h2,h3,rfl⟩ fun t' hq__=>by
  obtain ⟨A',w',e,_,_,_,e2⟩:=hq__
  injection e with e3 e4
  injection e4 with e4 _
  rw [e2,B9 e3,C9 e4]
theorem Ap (ts:List T) (o:O) (h:IJ ts=some o):lU 2 2 jf ts=some o:=by
 obtain ⟨A,w,rfl,h1,h2,h3,rfl⟩:=xj h
 clear h
 have inner:∀ j:Nat,j < w -> ef 1 [0] (aW (ae 1)) (aj 0) av (m9 (aG bN (ae 0) (ae 1))) [some (.sh (.int (j:Nat))),some (.sh (ai A))]=some (iX (fN A j),[some (.sh (.int (j:Nat))),some (.sh (ai A))]):=fun j hj=>by
  have hc:=eE (φ:=aD) (fe:=m9 (aG bN (ae 0) (ae 1))) (g:=fun r=>O.val (bp (r.getD j 0))) (ρ:=[some (.sh (.int (j:Nat)))]) rfl A none [] (fun r hr=>by
   have e:=Gf (r:=r) (j:=j) (by rw [h2 r hr]; exact hj)
   show (((bN (aD r) (.int (j:Nat))).bind fun t=>some (t,[some (Sl.sh (aD r)),some (Sl.sh (T.int (j:Nat)))])).bind fun p=>some (O.val p.1,p.2))=_
   rw [e]
   rfl) (my h1)
  have e:=ie (no:=1) (cap:=[0]) (fi:=aW (ae 1)) (fg:=aj 0) (ft:=av) (τ:=[some (.sh (.int (j:Nat))),some (.sh (ai A))]) rfl rfl rfl hc
  rw [e]
  show some (O.lst (A.map fun r=>O.val (bp (r.getD j 0))),_)=some (O.lst (((fN A j).map bp).map O.val),_)
  unfold fN
  rw [List.map_map,List.map_map]
  rfl
 have hc:=eE (φ:=fun j:Nat=>T.int (j:Nat)) (fe:=ef 1 [0] (aW (ae 1)) (aj 0) av (m9 (aG bN (ae 0) (ae 1)))) (g:=fun j=>iX (fN A j)) (ρ:=[some (.sh (ai A))]) rfl (List.range w) none [] (fun j hj=>inner j (List.mem_range.mp hj)) (my (by rw [List.length_range]; exact h3))
 have e:=ie (no:=1) (cap:=[0]) (fi:=dB (aa (ae 1) ao)) (fg:=aj 0) (ft:=av) (τ:=[some (.sh (ai A)),some (.sh (.int (w:Nat)))]) (nR (f:=ae 1) rfl (by omega)) rfl rfl hc
 have e0:lU 2 2 jf [ai A,.int (w:Nat)]=jf [some (.sh (ai A)),some (.sh (.int (w:Nat)))]:=rfl
 rw [e0]
 unfold jf ot
 rw [e]
 show some (O.lst ((List.range w).map fun j=>iX (fN A j)))=some (O.lst ((eN A w).map iX))
 unfold eN
 rw [List.map_map]
 rfl
abbrev xf:List T -> Option T:=fun ts=>(IJ ts).bind fun o=>some o.tr
theorem Gs {A:List (List Rat)} {w:Nat} (h1:A.length ≤ 8) (h2:Wd w A) (h3:w ≤ 8):xf [ai A,.int (w:Nat)]=some (ai (eN A w)):=by
 show (IJ _).bind _=_
 rw [IK h1 h2 h3]
 show some (du _).tr=_
 rw [eW]
def dJ (A B:List (List Rat)):List (List Rat):=(List.zip A B).map fun p=>p.1 ++ p.2
open PySem PySem.Spec PyProof.Rows L2 TM Qm Rq
open PySem PySem.Spec PyProof.Rows L2 TM Qm Rq
mutual
theorem eqv_refl:∀ d:PyData,d.canLay0=true -> PyData.eqv d d=true
 | .none,_=>by simp [PyData.eqv]
 | .bool _,_=>by simp [PyData.eqv]
 | .int _,_=>by simp [PyData.eqv]
 | .str _,_=>by simp [PyData.eqv]
 | .list xs,h=>by
  simp only [PyData.canLay0] at h
  simp only [PyData.eqv]
  exact eqvAll_refl xs h
 | .tuple xs,h=>by
  simp only [PyData.canLay0] at h
  simp only [PyData.eqv]
  exact eqvAll_refl xs h
 | .dict _,h=>by simp [PyData.canLay0] at h
theorem eqvAll_refl:∀ ds:List PyData,PyData.canLayAll0 ds=true -> PyData.eqvAll ds ds=true
 | [],_=>by simp [PyData.eqvAll]
 | d :: ds,h=>by
  simp only [PyData.canLayAll0,Bool.and_eq_true] at h
  simp only [PyData.eqvAll,eqv_refl d h.1,eqvAll_refl ds h.2,Bool.and_self]
end
def Hx (n:Nat) (t:T):Prop:=∃ d,El t=some d /\ d.canLay0=true /\ d.depth ≤ n
theorem zi {n:Nat}:∀ {ts:List T},(∀ x ∈ ts,Hx n x) -> ∃ ds,pL ts=some ds /\ PyData.canLayAll0 ds=true /\ PyData.depthAll ds ≤ n
 | [],_=>⟨[],rfl,rfl,Nat.zero_le _⟩
 | t :: ts,h=>by
  obtain ⟨d,h1,h2,h3⟩:=h t List.mem_cons_self
  obtain ⟨ds,g1,g2,g3⟩:=zi fun x hx=>h x (List.mem_cons_of_mem _ hx)
  refine ⟨d :: ds,by simp only [pL,h1,g1,Option.bind_some],by simp only [PyData.canLayAll0,h2,g2,Bool.and_self],by simp only [PyData.depthAll]; omega⟩
theorem D4 {n:Nat} {ts:List T} (h:∀ x ∈ ts,Hx n x):Hx (n + 1) (.lst ts):=by
 obtain ⟨ds,h1,h2,h3⟩:=zi h
 exact ⟨.list ds,by simp only [El,h1,Option.map_some],by simp only [PyData.canLay0,h2],by simp only [PyData.depth]; omega⟩
theorem Ji (q:Rat):Hx 1 (bp q):=⟨.tuple [.int q.num,.int q.den],rfl,rfl,Nat.le_of_ble_eq_true rfl⟩
theorem D5 (r:List Rat):Hx 2 (aD r):=D4 fun x hx=>by
 obtain ⟨q,_,rfl⟩:=List.mem_map.mp hx
 exact Ji q
theorem cmp_self {neg:Bool} {t:T} {n:Nat} (h:Hx n t) (hn:n ≤ 60):C0 neg t t=some (.bl (!neg)):=by
 obtain ⟨d,h1,h2,h3⟩:=h
 have hs:SeqAt.shaped d=true:=by
  unfold SeqAt.shaped
  rw [h2,Bool.true_and]
  exact decide_eq_true (by omega)
 unfold C0
 rw [h1,Option.bind_some,Option.bind_some,if_pos ⟨hs,hs⟩,eqv_refl d h2]
 cases neg <;> rfl
open PySem PySem.Spec PyProof.Rows L2 TM Qm Rq
structure K9 (n:Nat) (A:List (List Rat)):Prop where
 sq:Sq n A
 n4:n ≤ 4
 lq:∀ r ∈ A,∀ x ∈ r,Lq 1 9 x
theorem K9.tb {n:Nat} {A:List (List Rat)} (h:K9 n A):Tb 1 9 A:=⟨by have:=h.sq.1; have:=h.n4; omega,fun r hr=>⟨by have:=h.sq.2 r hr; have:=h.n4; omega,h.lq r hr⟩⟩
theorem jD {f:FE} {s:FS} {τ:aH} (h:f τ=some (.bl true,τ)):bY (cj (cn f)) s bI τ=some (.nx τ):=by
 unfold bY cj cn
 rw [h]
 rfl
theorem br {t u:FS} {τ τ':aH} (h:t τ=some (.nx τ')):aV t u τ=u τ':=by
 unfold aV
 rw [h]
 rfl
theorem dS {f:FE} {τ:aH} {t:T} (h:f τ=some (t,τ)):aa f ao τ=some ([t],τ):=by
 unfold aa
 rw [h]
 rfl
theorem fM {f g:FE} {τ:aH} {t u:T} (h:f τ=some (t,τ)) (h':g τ=some (u,τ)):aa f (aa g ao) τ=some ([t,u],τ):=by
 unfold aa
 rw [h,Option.bind_some]
 dsimp only
 rw [h']
 rfl
theorem Tb.add {k m m':Nat} {A B:List (List Rat)} (h1:Tb k m A) (h2:Tb k m' B):Tb k (m + m') (HL A B):=by
 refine ⟨by unfold HL; rw [List.length_map]; exact nV A B h1.len,fun r hr=>?_⟩
 obtain ⟨p,hp,rfl⟩:=List.mem_map.mp hr
 refine ⟨by unfold HK; rw [List.length_map]; exact nV _ _ (h1.row _ (cV hp).1).len,fun x hx=>?_⟩
 obtain ⟨q,hq,rfl⟩:=List.mem_map.mp hx
 exact ((h1.row _ (cV hp).1).lq _ (cV hq).1).add ((h2.row _ (cV hp).2).lq _ (cV hq).2)
theorem Tb.scale {k m k' m':Nat} {b:Rat} {A:List (List Rat)} (h1:Lq k m b) (h2:Tb k' m' A):Tb (k + k') (m * m') (IM b A):=by
 refine ⟨by unfold IM; rw [List.length_map]; exact h2.len,fun r hr=>?_⟩
 obtain ⟨p,hp,rfl⟩:=List.mem_map.mp hr
 refine ⟨by unfold mulR; rw [List.length_map]; exact (h2.row p hp).len,fun x hx=>?_⟩
 obtain ⟨q,hq,rfl⟩:=List.mem_map.mp hx
 exact h1.mul ((h2.row p hp).lq q hq)
theorem Tb.turn {k m w:Nat} {A:List (List Rat)} (h:Tb k m A) (hw:w ≤ 8):Tb k m (eN A w):=by
 refine ⟨by unfold eN; rw [List.length_map,List.length_range]; exact hw,fun r hr=>?_⟩
 obtain ⟨j,_,rfl⟩:=List.mem_map.mp hr
 exact yu h j
theorem Tb.mul {k m k' m' w:Nat} {A B:List (List Rat)} (h1:Tb k m A) (h2:Tb k' m' B) (hw:w ≤ 8):Tb (k + k') (8 * (m * m')) (mulM A B w):=by
 refine ⟨by unfold mulM; rw [List.length_map]; exact h1.len,fun r hr=>?_⟩
 obtain ⟨p,hp,rfl⟩:=List.mem_map.mp hr
 refine ⟨by rw [vK]; exact hw,fun x hx=>?_⟩
 obtain ⟨j,_,rfl⟩:=List.mem_map.mp hx
 exact (zC (h1.row p hp).lq (yu h2 j).lq).mono (Nat.mul_le_mul_right _ (h1.row p hp).len)
open PySem PySem.Spec PyProof.Rows L2 TM Qm Rq
structure Dr (w:Nat) (A:List (List Rat)):Prop where
 len:A.length ≤ 4
 wd:Wd w A
 w4:w ≤ 4
 lq:∀ r ∈ A,∀ x ∈ r,Lq 1 9 x
theorem Dr.tb {w:Nat} {A:List (List Rat)} (h:Dr w A):Tb 1 9 A:=⟨by have:=h.len; omega,fun r hr=>⟨by have:=h.wd r hr; have:=h.w4; omega,h.lq r hr⟩⟩
theorem Jg (n:Nat):(List.replicate n ([bp 0]:List T)).flatten=(List.replicate n (0:Rat)).map bp:=by
 induction n with
 | zero=>rfl
 | succ n ih=>rw [List.replicate_succ,List.flatten_cons,ih,List.replicate_succ]; rfl
theorem C4 {ts:List T} {k:Int} (h1 : -(2 ^ 63) ≤ k) (h2:k < 2 ^ 63) (h3:ts.length * k.toNat ≤ sizeLine):wL (.lst ts) (.int k)=some (.lst (List.replicate k.toNat ts).flatten):=if_pos ⟨⟨h1,h2⟩,h3⟩
theorem FX {n:Nat} (h:n ≤ 8):wL (.lst [bp 0]) (.int (n:Nat))=some (aD (List.replicate n 0)):=by
 have e:=C4 (ts:=[bp 0]) (k:=(n:Int)) (by omega) (by omega) (by rw [List.length_singleton,Nat.one_mul,Int.toNat_natCast]; exact da (by omega))
 rw [e,Int.toNat_natCast,Jg]
 rfl
theorem kN {fi:FA} {fg:FG} {fb:FS} {τ:aH} {ts:List T} {r:R} (h1:fi τ=some (ts,τ)) (h2:df fg fb ts τ=some r):fO fi fg fb τ=some r:=by
 unfold fO
 rw [h1,Option.bind_some]
 exact h2
theorem fQ {f:FE} {τ τ':aH} {t:T} (h:f τ=some (t,τ')):bE f τ=some (.rt t):=by
 unfold bE
 rw [h]
 rfl
open PySem PySem.Spec PyProof.Rows L2 TM Qm Rq
theorem iw {f g i:FE} {τ:aH} {t u v:T} (h:f τ=some (t,τ)) (h':g τ=some (u,τ)) (h'':i τ=some (v,τ)):aa f (aa g (aa i ao)) τ=some ([t,u,v],τ):=by
 have e:=fM h' h''
 generalize hg:aa g (aa i ao)=G at *
 unfold aa
 rw [h,Option.bind_some]
 dsimp only
 rw [e]
 rfl
theorem dg {i:Nat} {f:FE} {τ τ1 τ2:aH} {t:T} (h:f τ=some (t,τ1)) (h2:bh i (fC t) τ1=some (.nx τ2)):bh i f τ=some (.nx τ2):=by
 unfold bh at *
 rw [h]
 exact h2
open PySem PySem.Spec PyProof.Rows L2 TM Qm Rq
theorem Iw {L:List T} {i:Int} (h0:0 ≤ i) (h1:i < (L.length:Int)):∃ t,bN (.lst L) (.int i)=some t /\ t ∈ L:=by
 obtain ⟨j,rfl⟩:=Int.eq_ofNat_of_zero_le h0
 have hj:j < L.length:=by omega
 exact ⟨L[j],rd (List.getElem?_eq_getElem hj),List.getElem_mem hj⟩
theorem cu {i:Int} (h1 : -1000000 ≤ i) (h2:i ≤ 1000000):i.natAbs < B:=by
 have:=HN
 omega
theorem En (a:Int):T.tup [.int a,.int 1]=bp (Rat.divInt a 1):=by
 have e:=Rat.divInt_ofNat a 1
 rw [show ((1:Nat):Int)=1 from rfl] at e
 rw [e,Rat.mkRat_one]
 rfl
def drawn (d:Int):Rat:=Rat.divInt (d.fmod 19 - 9) (1 + d.fdiv 19)
open PySem PySem.Spec PyProof.Rows L2 TM Qm Rq
theorem IQ {f:FE} {τ:aH} (h:f τ=some (.bl true,τ)):cj (cn f) τ=some (false,τ):=by
 unfold cj cn
 rw [h]
 rfl
open PySem PySem.Spec PyProof.Rows L2 TM Qm Rq
def iT (l:List Int):T:=.lst (l.map T.int)
theorem Gb {l:List Int} {p:Nat} (h:p < l.length):bN (iT l) (.int (p:Nat))=some (.int (l.getD p 0)):=by
 show nF (l.map T.int) (p:Int)=_
 unfold nF yI
 rw [if_pos (by omega),if_pos (by rw [List.length_map]; omega),Option.bind_some,Int.toNat_natCast,List.getElem?_map,List.getElem?_eq_getElem h,List.getD_eq_getElem?_getD,List.getElem?_eq_getElem h]
 rfl
def Lf (M:Nat) (x:Dt.Row):Prop:=∀ j,(x j).natAbs ≤ M
theorem dN {m n:Nat} {fb:FS} {ts:List T} {t:T} (hl:ts.length=n) (h:fb (ts.map (fun t=>some (Sl.sh t)) ++ List.replicate (m - n) none)=some (.rt t)):cz m n fb ts=some t:=by
 unfold cz
 rw [if_pos hl,h]
 rfl
open PySem PySem.Spec PyProof.Rows L2 TM Qm Rq
theorem EC {i:Nat} {f:FE} {τ:aH} {ts:List T} {t:T} (h:τ[i]? = some (some (.own ts))) (hf:f τ=some (t,τ)) (hl:ts.length < sizeLine):m6 i f τ=some (.nx (τ.set i (some (.own (ts ++ [t]))))):=by
 unfold m6
 rw [h]
 dsimp only
 rw [hf,Option.bind_some]
 dsimp only
 rw [h]
 dsimp only
 rw [if_pos hl]
structure Lh (M L:Nat) (R:List Dt.Row) (ps:List Nat) (ks:List (Nat × List Int)):Prop where
 fw:Dt.Fw L [] [] ks R ps
 bd:∀ y ∈ R,Lf M y
 lr:R.length ≤ 5
 lp:ps.length ≤ 5
open PySem PySem.Spec PyProof.Rows L2 TM Qm Rq
def Hb (r:List Rat):List Int:=r.map (bu (aS r))
theorem CH {g:List T -> Option T} {f:FA} {ρ ρ':aH} {t:T} (ts:List T) (h1:f ρ=some (ts,ρ')) (h2:g ts=some t):ak g f ρ=some (t,ρ'):=by
 unfold ak
 rw [h1,Option.bind_some,h2]
 rfl
theorem rA {f:FE} {g:FA} {τ τ1 τ2:aH} {t:T} {ts:List T} (h1:f τ=some (t,τ1)) (h2:g τ1=some (ts,τ2)):aa f g τ=some (t :: ts,τ2):=by
 unfold aa
 rw [h1,Option.bind_some,h2]
 rfl
theorem bA {g:T -> T -> Option T} {fa fb:FE} {τ:aH} {a b t:T} (h1:fa τ=some (a,τ)) (h2:fb τ=some (b,τ)) (h:g a b=some t):aG g fa fb τ=some (t,τ):=by
 unfold aG
 rw [h1,Option.bind_some,h2,Option.bind_some]
 show (g a b).bind _=_
 rw [h]
 rfl
theorem len_tab (A:List (List Rat)):bM [ai A]=some (.int (A.length:Nat)):=by
 show some (T.int ((A.map aD).length:Nat))=_
 rw [List.length_map]
theorem ID {f g:FE} {τ:aH} {a b:Nat} (h1:f τ=some (.int (a:Nat),τ)) (h2:g τ=some (.int (b:Nat),τ)):eP (aG Bf f g) τ=some (decide (a < b),τ):=by
 unfold eP aG
 rw [h1,Option.bind_some]
 dsimp only
 rw [h2,Option.bind_some]
 show some (decide ((a:Int) < (b:Int)),τ)=_
 congr 2
 simp only [Int.ofNat_lt]
theorem sL {A:List (List Rat)} {i:Nat} (h:i < A.length):bN (ai A) (.int (i:Nat))=some (aD (A.getD i [])):=by
 show nF (A.map aD) (i:Int)=_
 unfold nF yI
 rw [if_pos (by omega),List.length_map,if_pos (by omega),Option.bind_some,Int.toNat_natCast,List.getElem?_map,List.getElem?_eq_getElem h,List.getD_eq_getElem?_getD,List.getElem?_eq_getElem h]
 rfl
theorem qI {l:List (List Rat)} {c:Nat} (h:c < l.length):l.getD c [] ∈ l:=by
 rw [List.getD_eq_getElem?_getD,List.getElem?_eq_getElem h]
 exact List.getElem_mem h
def wG (row Hb:List Int):Int:=(List.zipWith (· * ·) row Hb).sum
theorem yz {N d:Int} (hd:¬ d=0) (bd:d.natAbs < B):cP (.int N) (.int d)=some (.int (N.fdiv d)):=if_pos ⟨hd,bd⟩
theorem iS {a b:Int} (h1:a.natAbs < B) (h2:b.natAbs < B):aX (.int a) (.int b)=some (.int (a * b)):=if_pos ⟨h1,h2⟩
theorem Jn {a b:Int}:jO (.int a) (.int b)=some (.int (a - b)):=rfl
def JD (m i:Nat) (low:Nat):List Int:=(List.range m).map fun o=>if o=i then (low:Int) else 0
def He (m i:Nat) (r:List Rat):List Int:=Hb r ++ JD m i (aS r)
def JB (A:List (List Rat)):List (List Int):=(List.range A.length).map fun i=>He A.length i (A.getD i [])
theorem jk {f:FE} {τ:aH} {k:Int} (h:f τ=some (.int k,τ)):dG f τ=some (some k,τ):=by
 unfold dG
 rw [h]
 rfl
theorem BY {f:FE} {fl fh:FO} {τ:aH} {a t:T} {lo hi:Option Int} (h:f τ=some (a,τ)) (h1:fl τ=some (lo,τ)) (h2:fh τ=some (hi,τ)) (h3:Hu a lo hi=some t):wI f fl fh τ=some (t,τ):=by
 unfold wI
 rw [h,Option.bind_some]
 dsimp only
 rw [h1,Option.bind_some]
 dsimp only
 rw [h2,Option.bind_some]
 dsimp only
 rw [h3]
 rfl
theorem wD {a b:Int} (hb:b ≠ 0):(Rat.divInt a b).den ∣ b.natAbs:=by
 rw [Rat.den_divInt,if_neg hb]
 exact Nat.div_dvd_of_dvd (by
  have:=Int.natAbs_dvd_natAbs.mpr (Int.gcd_dvd_left b a)
  rwa [Int.natAbs_natCast] at this)
theorem wF {a b:Int} (hb:b ≠ 0):(Rat.divInt a b).num.natAbs ≤ a.natAbs:=by
 rw [Rat.num_divInt]
 have h1:((Int.gcd b a:Nat):Int) ∣ b.sign * a:=Int.dvd_mul_of_dvd_right (Int.gcd_dvd_right _ _)
 rw [Int.natAbs_ediv_of_dvd h1,Int.natAbs_mul]
 have h2:b.sign.natAbs=1:=by
  rcases Int.lt_or_gt_of_ne hb with h | h
  ·rw [Int.sign_eq_neg_one_of_neg h]; rfl
  ·rw [Int.sign_eq_one_of_pos h]; rfl
 rw [h2,Nat.one_mul]
 exact Nat.div_le_self _ _
theorem G2 {t:FS} {u:zJ} {τ τ':aH} (h:t τ=some (.nx τ')):mK t u τ=u τ':=by
 unfold mK
 rw [h]
 rfl
theorem qK {N d:Int} (hd:¬ d=0):cU (.int N) (.int d)=some (.int (N.fmod d)):=if_pos hd
structure Bw (w M:Nat) (A:List (List Rat)):Prop where
 wd:∀ r ∈ A,r.length=w
 lq:∀ r ∈ A,∀ x ∈ r,Lq 1 M x
theorem lZ {f:FE} {c:FT} {s:FS} {τ τ' τ'':aH} (h1:f τ=some (.bl true,τ')) (h2:c τ'=some (false,τ'')):bY (m7 (cj (cn f)) c) s bI τ=some (.nx τ''):=by
 have e:cj (cn f) τ=some (false,τ'):=by
  unfold cj cn
  rw [h1]
  rfl
 unfold bY m7
 rw [e,Option.bind_some]
 dsimp only
 rw [if_neg (by decide),h2]
 rfl
theorem uE {c:FT} {s:FS} {τ τ':aH} (h:c τ=some (false,τ')):bY c s bI τ=some (.nx τ'):=by
 unfold bY
 rw [h]
 rfl
theorem iq:∀ ts:List T,O.trs (ts.map O.val)=ts
 | []=>rfl
 | t :: ts=>by rw [List.map_cons,O.trs,iq ts]; rfl
theorem BE {f:FE} {τ:aH} (h:f τ=some (.bl true,τ)):cj (cn f) τ=some (false,τ):=by
 unfold cj cn
 rw [h]
 rfl
open PySem PySem.Spec PyProof.Rows L2 TM Qm Rq
def Tr (w m:Nat) (Jq:Nat -> Nat -> Rat) (x:Dt.Row):Prop:=∀ j < w + 1,((x j:Int):Rat)=Dq.sm (List.range m) fun k=>((x (w + 1 + k):Int):Rat) * Jq k j
theorem Tr.sp {w m:Nat} {Jq:Nat -> Nat -> Rat}:∀ {W:List Dt.Row} {x:Dt.Row},Dt.Sp W x -> (∀ y ∈ W,Tr w m Jq y) -> Tr w m Jq x
 | _,_,.nil h,_=>fun j _=>by
  rw [h j,Dq.pE (g:=fun _=>0) fun k _=>by rw [h]; exact Rat.zero_mul _,Dq.zo]
  rfl
 | _,_,.cons (w:=v) (y:=y) a h hy,hw=>fun j hj=>by
  have h1:=hw v List.mem_cons_self j hj
  have h2:=Tr.sp hy (fun z hz=>hw z (List.mem_cons_of_mem _ hz)) j hj
  have e3:(Dq.sm (List.range m) fun k=>((a:Int):Rat) * (((v (w + 1 + k):Int):Rat) * Jq k j) + 1 * (((y (w + 1 + k):Int):Rat) * Jq k j))=((a:Int):Rat) * (Dq.sm (List.range m) fun k=>((v (w + 1 + k):Int):Rat) * Jq k j) + 1 * (Dq.sm (List.range m) fun k=>((y (w + 1 + k):Int):Rat) * Jq k j):=Dq.B3 _ _ _ _ _
  rw [Rat.one_mul,<- h1,<- h2] at e3
  rw [h j,Rat.intCast_add,Rat.intCast_mul,<- e3]
  refine Dq.pE fun k _=>?_
  rw [h,Rat.intCast_add,Rat.intCast_mul]
  grind
open PySem PySem.Spec PyProof.Rows L2 TM Qm Rq
open PySem PySem.Spec PyProof.Rows L2 TM Qm Rq
def Ov (D N:Nat) (q:Rat):Prop:=∃ a:Int,q=Rat.divInt a (D:Int) /\ a.natAbs ≤ N
theorem Ov.zero (D:Nat):Ov D 0 0:=⟨0,by rw [Rat.zero_divInt],by simp⟩
theorem Ov.mono {D N N':Nat} {q:Rat} (h:Ov D N q) (hn:N ≤ N'):Ov D N' q:=by
 obtain ⟨a,h1,h2⟩:=h
 exact ⟨a,h1,Nat.le_trans h2 hn⟩
theorem Ov.add {D N N':Nat} (hD:0 < D) {x y:Rat} (h:Ov D N x) (h':Ov D N' y):Ov D (N + N') (x + y):=by
 obtain ⟨a,rfl,ha⟩:=h
 obtain ⟨b,rfl,hb⟩:=h'
 have hd:(D:Int) ≠ 0:=by omega
 refine ⟨a + b,?_,by have:=Int.natAbs_add_le a b; omega⟩
 rw [Rat.divInt_add_divInt _ _ hd hd,<- Int.add_mul,Rat.divInt_mul_right hd]
theorem Ov.mul {D D' N N':Nat} {x y:Rat} (h:Ov D N x) (h':Ov D' N' y):Ov (D * D') (N * N') (x * y):=by
 obtain ⟨a,rfl,ha⟩:=h
 obtain ⟨b,rfl,hb⟩:=h'
 refine ⟨a * b,?_,by rw [Int.natAbs_mul]; exact Nat.mul_le_mul ha hb⟩
 rw [Rat.divInt_mul_divInt,Int.natCast_mul]
theorem Ov.num {D N:Nat} (hD:0 < D) {q:Rat} (h:Ov D N q):q.num.natAbs ≤ N:=by
 obtain ⟨a,rfl,ha⟩:=h
 exact Nat.le_trans (wF (by omega)) ha
theorem Ov.den {D N:Nat} (hD:0 < D) {q:Rat} (h:Ov D N q):q.den ∣ D:=by
 obtain ⟨a,rfl,ha⟩:=h
 have:=wD (a:=a) (b:=(D:Int)) (by omega)
 rw [Int.natAbs_natCast] at this
 exact this
theorem Ov.sm {D N:Nat} (hD:0 < D) (hd:D < C) (hn:N < C) {q:Rat} (h:Ov D N q):Sm q:=⟨Nat.lt_of_le_of_lt (h.num hD) hn,Nat.lt_of_le_of_lt (Nat.le_of_dvd hD (h.den hD)) hd⟩
theorem Ov.lq {k m:Nat} {q:Rat} (h:Lq k m q):Ov (DD k) (m * DD k) q:=h
structure Gv (D N:Nat) (r:List Rat):Prop where
 len:r.length ≤ 8
 ov:∀ x ∈ r,Ov D N x
 dp:0 < D
 db:D < C
 nb:N < C
theorem Gv.gn {D N:Nat} {r:List Rat} (h:Gv D N r):Gn D N r:=⟨h.len,fun x hx=>(h.ov x hx).den h.dp,fun x hx=>(h.ov x hx).num h.dp,h.dp,Nat.lt_trans h.db CB,Nat.lt_trans h.nb CB⟩
theorem Gv.sm {D N:Nat} {r:List Rat} (h:Gv D N r) {x:Rat} (hx:x ∈ r):Sm x:=(h.ov x hx).sm h.dp h.db h.nb
structure Ey (D N D' N':Nat):Prop where
 dd:D * D' < C
 nn:8 * (N * N') < C
def pP (P:List T -> Option T):FS:=bh 2 (ak P (aa (ae 2) (aa (ak IH (aa (ae 3) (aa (ae 4) ao))) ao)))
theorem vZ {P:List T -> Option T} (hP:∀ x y:Rat,Sm x -> Sm y -> P [bp x,bp y]=some (bp (x + y))) {D N D' N':Nat} (hD:0 < D) (hD':0 < D') (hd:D < C) (hn:N < C) (hd':D' < C) (hn':N' < C) (hdd:D * D' < C) (x0 x1:Option Sl):∀ (r s:List Rat) (a:Rat) (M:Nat) (u v:Option Sl),(∀ x ∈ r,Ov D N x) -> (∀ y ∈ s,Ov D' N' y) -> Ov (D * D') M a -> M + r.length * (N * N') < C ->
  ∃ u' v',df (bX (ay (aj 3) (ay (aj 4) bS))) (pP P) ((List.zip r s).map fun p=>T.tup [bp p.1,bp p.2]) [x0,x1,some (.sh (bp a)),u,v]=some (.nx [x0,x1,some (.sh (bp (a + wsum r s))),u',v'])
 | [],s,a,M,u,v,_,_,_,_=>⟨u,v,by rw [cN,Rat.add_zero]; simp [df]⟩
 | x :: r,[],a,M,u,v,_,_,_,_=>⟨u,v,by
   have z:wsum (x :: r) []=0:=by unfold wsum; rw [List.zipWith_nil_right]; rfl
   rw [z,Rat.add_zero]; simp [df]⟩
 | x :: r,y :: s,a,M,u,v,h1,h2,h3,h4=>by
  have hx:=h1 x List.mem_cons_self
  have hy:=h2 y List.mem_cons_self
  have lx:=hx.mul hy
  have hp:=Nat.mul_pos hD hD'
  have la:=h3.add hp lx
  rw [List.length_cons,Nat.add_mul,Nat.one_mul] at h4
  obtain ⟨u',v',ih⟩:=vZ hP hD hD' hd hn hd' hn' hdd x0 x1 r s (a + x * y) (M + N * N') (some (.sh (bp x))) (some (.sh (bp y))) (fun z hz=>h1 z (List.mem_cons_of_mem _ hz)) (fun z hz=>h2 z (List.mem_cons_of_mem _ hz)) la (by omega)
  refine ⟨u',v',?_⟩
  have k1:=II (hx.sm hD hd hn) (hy.sm hD' hd' hn')
  have k2:=hP _ _ (h3.sm hp hdd (by omega)) (lx.sm hp hdd (by omega))
  have hb:(pP P) [x0,x1,some (.sh (bp a)),some (.sh (bp x)),some (.sh (bp y))]=some (.nx [x0,x1,some (.sh (bp (a + x * y))),some (.sh (bp x)),some (.sh (bp y))]):=by
   clear hP ih h1 h2 h3 h4 hx hy lx la hD hD' hd hn hd' hn' hdd hp
   unfold pP
   walk_at "ev"
  rw [List.zip_cons_cons,List.map_cons,dw (τ1:=[x0,x1,some (.sh (bp a)),some (.sh (bp x)),some (.sh (bp y))]) rfl hb,ih,bD,Rat.add_assoc]
theorem zD {D N D' N':Nat} (hD:0 < D) (hD':0 < D'):∀ {r s:List Rat},(∀ x ∈ r,Ov D N x) -> (∀ y ∈ s,Ov D' N' y) -> Ov (D * D') (r.length * (N * N')) (wsum r s)
 | [],s,_,_=>by rw [cN]; exact (Ov.zero _).mono (Nat.zero_le _)
 | x :: r,[],_,_=>by
  have z:wsum (x :: r) []=0:=by unfold wsum; rw [List.zipWith_nil_right]; rfl
  rw [z]; exact (Ov.zero _).mono (Nat.zero_le _)
 | x :: r,y :: s,h1,h2=>by
  rw [bD,List.length_cons,Nat.add_mul,Nat.one_mul,Nat.add_comm]
  exact ((h1 x List.mem_cons_self).mul (h2 y List.mem_cons_self)).add (Nat.mul_pos hD hD') (zD hD hD' (fun z hz=>h1 z (List.mem_cons_of_mem _ hz)) (fun z hz=>h2 z (List.mem_cons_of_mem _ hz)))
theorem Hk {P:List T -> Option T} (hP:∀ x y:Rat,Sm x -> Sm y -> P [bp x,bp y]=some (bp (x + y))) {D N D' N':Nat} {r s:List Rat} (h1:Gv D N r) (h2:Gv D' N' s) (f:Ey D N D' N') :
  ∃ u v,fO (dP (aa (ae 0) (aa (ae 1) ao))) (bX (ay (aj 3) (ay (aj 4) bS))) (pP P) [some (.sh (aD r)),some (.sh (aD s)),some (.sh (bp 0)),none,none]=some (.nx [some (.sh (aD r)),some (.sh (aD s)),some (.sh (bp (wsum r s))),u,v]):=by
 have hm:=Nat.mul_le_mul_right (N * N') h1.len
 obtain ⟨u,v,hl⟩:=vZ hP h1.dp h2.dp h1.db h1.nb h2.db h2.nb f.dd (some (.sh (aD r))) (some (.sh (aD s))) r s 0 0 none none h1.ov h2.ov (Ov.zero _) (by have:=f.nn; omega)
 rw [Rat.zero_add] at hl
 have hi:dP (aa (ae 0) (aa (ae 1) ao)) [some (.sh (aD r)),some (.sh (aD s)),some (.sh (bp 0)),none,none]=some ((List.zip r s).map fun p=>T.tup [bp p.1,bp p.2],[some (.sh (aD r)),some (.sh (aD s)),some (.sh (bp 0)),none,none]):=by
  rw [<- fS]
  rfl
 exact ⟨u,v,kN hi hl⟩
abbrev JN:List T -> Option T:=cz 5 2 (qt IH Hv)
theorem Ij {D N D' N':Nat} {r s:List Rat} (h1:Gv D N r) (h2:Gv D' N' s) (f:Ey D N D' N'):JN [aD r,aD s]=some (bp (wsum r s)):=by
 obtain ⟨u,v,hl⟩:=Hk (P:=Hv) (fun _ _=>IE) h1 h2 f
 refine dN rfl ?_
 show aV (bh 2 (fC (.tup [.int 0,.int 1]))) (aV (fO (dP (aa (ae 0) (aa (ae 1) ao))) (bX (ay (aj 3) (ay (aj 4) bS))) (pP Hv)) (bE (ae 2))) [some (.sh (aD r)),some (.sh (aD s)),none,none,none]=_
 rw [br (τ':=[some (.sh (aD r)),some (.sh (aD s)),some (.sh (bp 0)),none,none]) rfl,br hl]
 rfl
theorem qJ {r:List Rat} {D N:Nat} (h:Gv D N r):0 ≤ longest r /\ longest r ≤ 4000:=by
 have hb:∀ n ∈ bitsQ r,0 ≤ n /\ n ≤ 4000:=fun n hn=>by
  obtain ⟨x,hx,rfl⟩:=List.mem_map.mp hn
  have h1:(x.den:Int).natAbs < B:=by have:=(h.sm hx).d; have:=CB; omega
  have:=wy h1
  omega
 unfold longest
 split
 ·omega
 ·unfold bestOf
  rw [List.getD_eq_getElem?_getD]
  cases e:(bitsQ r)[argBest (fun i j=>decide ((bitsQ r).getD i 0 > (bitsQ r).getD j 0)) ((bitsQ r).length - 1)]? with
  | none=>show (0:Int) ≤ 0 /\ (0:Int) ≤ 4000; omega
  | some n=>exact hb n (List.mem_of_getElem? e)
abbrev AQ:List T -> Option T:=cz 2 1 (n9 JS JR)
theorem ER {r:List Rat} {D N:Nat} (h1:Gv D N r):AQ [aD r]=some (liftT r):=by
 have k1:=IG h1.gn
 have k2:=IF h1.gn
 have hc:=gq (φ:=fun x:Rat=>T.int x.num) (ψ:=fun x=>T.int x.den) (fe:=ub iP (ae 1)) (g:=fun x=>T.int (Builtin.Int.intBits (x.den:Int):Int)) (ρ:=[]) rfl r none none [] (fun x hx=>rfl) (bW h1.len)
 have e:=bF (no:=2) (cap:=[]) (fi:=aW (ae 0)) (fg:=pZ) (ft:=av) (τ:=[some (.sh (aD r)),some (.sh (.int (aS r:Nat)))]) (h1:=rfl) rfl rfl hc
 rw [List.nil_append] at e
 have e2:(r.map fun x:Rat=>T.int (Builtin.Int.intBits (x.den:Int):Int))=(bitsQ r).map T.int:=by unfold bitsQ; rw [List.map_map]; rfl
 rw [e2] at e
 have e3:yF (.lst ((bitsQ r).map T.int)) (.int 1)=some (.int (longest r)):=by
  show ((intsOf ((bitsQ r).map T.int)).bind fun ns=>some (T.int (if ns=[] then 1 else bestOf ns)))=_
  rw [iF]
  rfl
 have l4:=Ku
 clear h1 hc e2
 unfold AQ cz n9 liftT
 walk_at "ev"
theorem pM {r:List Rat} {D N:Nat} (h:Gn D N r):(r.map (bu (aS r))).map (fun n=>Rat.divInt n (aS r:Nat))=r:=by
 obtain ⟨q1,q2,q3⟩:=yM h
 rw [List.map_map]
 have:r.map ((fun n=>Rat.divInt n (aS r:Nat)) ∘ bu (aS r))=r.map id:=List.map_congr_left fun x hx=>xU q2 (q3 x hx)
 rw [this,List.map_id]
theorem Lg:C * C * C < B:=by decide +kernel
abbrev Ck:List T -> Option T:=cz 10 2 (fy JN vh)
set_option maxHeartbeats 1000000 in
theorem Ik {D N D' N':Nat} {r s:List Rat} (h1:Gv D N r) (h2:Gv D' N' s) (f:Ey D N D' N'):Ck [liftT r,liftT s]=some (bp (wsum r s)):=by
 obtain ⟨q1,q2,q3⟩:=yM h1.gn
 obtain ⟨p1,p2,p3⟩:=yM h2.gn
 have kW:=Ij h1 h2 f
 have bl:=qJ h1
 have bl':=qJ h2
 have hL:aS r ≤ D:=Nat.le_of_dvd h1.dp q1
 have hL':aS s ≤ D':=Nat.le_of_dvd h2.dp p1
 have cc:=Lg
 have hcc:C ≤ C * C:=Nat.le_mul_of_pos_left C Es
 have hccc:C * C ≤ C * C * C:=Nat.le_mul_of_pos_right _ Es
 have t1:∀ x ∈ r,(bu (aS r) x).natAbs ≤ N * D:=fun x hx=>Ff ((h1.ov x hx).num h1.dp) h1.dp q1
 have t2:∀ x ∈ s,(bu (aS s) x).natAbs ≤ N' * D':=fun x hx=>Ff ((h2.ov x hx).num h2.dp) h2.dp p1
 have hND:N * D < B:=by
  have:=Nat.mul_le_mul (Nat.le_of_lt h1.nb) (Nat.le_of_lt h1.db)
  omega
 have hND':N' * D' < B:=by
  have:=Nat.mul_le_mul (Nat.le_of_lt h2.nb) (Nat.le_of_lt h2.db)
  omega
 have hc:=gq (φ:=fun p:Rat × Rat=>T.int (bu (aS r) p.1)) (ψ:=fun p=>T.int (bu (aS s) p.2)) (fe:=aG aX (ae 0) (ae 1)) (g:=fun p=>T.int (bu (aS r) p.1 * bu (aS s) p.2)) (ρ:=[]) rfl (List.zip r s) none none [] (fun p hp=>by
  have a1:=t1 _ (cV hp).1
  have a2:=t2 _ (cV hp).2
  exact bA rfl rfl (iS (by omega) (by omega))) (bW (nV r s h1.len))
 rw [List.nil_append] at hc
 have hsum:(List.zip r s).map (fun p=>bu (aS r) p.1 * bu (aS s) p.2)=List.zipWith (· * ·) (r.map (bu (aS r))) (s.map (bu (aS s))):=Ep _ _
 have hlst:((List.zip r s).map fun p:Rat × Rat=>T.int (bu (aS r) p.1 * bu (aS s) p.2))=(List.zipWith (· * ·) (r.map (bu (aS r))) (s.map (bu (aS s)))).map T.int:=by rw [<- hsum,List.map_map]; rfl
 rw [hlst] at hc
 have hbs:(List.zipWith (· * ·) (r.map (bu (aS r))) (s.map (bu (aS s)))).sum.natAbs < B:=by
  have hM:∀ n ∈ List.zipWith (· * ·) (r.map (bu (aS r))) (s.map (bu (aS s))),n.natAbs ≤ (N * D) * (N' * D'):=fun n hn=>by
   rw [<- hsum] at hn
   obtain ⟨p,hp,rfl⟩:=List.mem_map.mp hn
   rw [Int.natAbs_mul]
   exact Nat.mul_le_mul (t1 _ (cV hp).1) (t2 _ (cV hp).2)
  have h3:=xS _ hM
  have h4:(List.zipWith (· * ·) (r.map (bu (aS r))) (s.map (bu (aS s)))).length ≤ 8:=by
   rw [List.length_zipWith,List.length_map]
   have:=h1.len
   omega
  have h5:=Nat.mul_le_mul_right ((N * D) * (N' * D')) h4
  have h6:8 * ((N * D) * (N' * D'))=(8 * (N * N')) * (D * D'):=by rw [Nat.mul_mul_mul_comm N D N' D']; exact (Nat.mul_assoc 8 (N * N') (D * D')).symm
  have h7:=Nat.mul_le_mul (Nat.le_of_lt f.nn) (Nat.le_of_lt f.dd)
  omega
 have hbl:(((aS r:Nat):Int) * ((aS s:Nat):Int)).natAbs < B:=by
  rw [Int.natAbs_mul,Int.natAbs_natCast,Int.natAbs_natCast]
  have:=Nat.mul_le_mul hL hL'
  have:=f.dd
  omega
 have hpos:(0:Int) < ((aS r:Nat):Int) * ((aS s:Nat):Int):=Int.mul_pos (by omega) (by omega)
 have kF:=Bt hbs hbl (Int.ne_of_gt hpos)
 rw [nJ hpos,<- mF (by omega) (by omega),pM h1.gn,pM h2.gn] at kF
 have hi:dP (aa (ae 3) (aa (ae 7) ao)) [some (.sh (liftT r)),some (.sh (liftT s)),some (.sh (aD r)),some (.sh (.lst (r.map fun x=>T.int (bu (aS r) x)))),some (.sh (.int (aS r:Nat))),some (.sh (.int (longest r))),some (.sh (aD s)),some (.sh (.lst (s.map fun x=>T.int (bu (aS s) x)))),some (.sh (.int (aS s:Nat))),some (.sh (.int (longest s)))]
   = some ((List.zip r s).map fun p=>T.tup [T.int (bu (aS r) p.1),T.int (bu (aS s) p.2)],[some (.sh (liftT r)),some (.sh (liftT s)),some (.sh (aD r)),some (.sh (.lst (r.map fun x=>T.int (bu (aS r) x)))),some (.sh (.int (aS r:Nat))),some (.sh (.int (longest r))),some (.sh (aD s)),some (.sh (.lst (s.map fun x=>T.int (bu (aS s) x)))),some (.sh (.int (aS s:Nat))),some (.sh (.int (longest s)))]):=by
  have z:=fS (fun x:Rat=>T.int (bu (aS r) x)) (fun x:Rat=>T.int (bu (aS s) x)) r s
  rw [<- z]
  rfl
 have e:=bF (no:=2) (cap:=[]) (fg:=pZ) (ft:=av) hi rfl rfl hc
 have eS:AS [.lst ((List.zipWith (· * ·) (r.map (bu (aS r))) (s.map (bu (aS s)))).map T.int)]=some (.int (List.zipWith (· * ·) (r.map (bu (aS r))) (s.map (bu (aS s)))).sum):=by
  show ((intsOf _).bind fun ns=>some (T.int ns.sum))=_
  rw [iF]
  rfl
 have b4:(4:Int).natAbs < B:=by decide +kernel
 have bL:(longest r + longest s).natAbs < B:=by
  have:(8000:Nat) < B:=by decide +kernel
  omega
 have c1:((aS r:Nat):Int).natAbs < B:=by have:=h1.db; have:=CB; omega
 have c2:((aS s:Nat):Int).natAbs < B:=by have:=h2.db; have:=CB; omega
 have hgt:∃ b,uC (.int ((Builtin.Int.intBits ((aS r:Nat):Int):Int) + (Builtin.Int.intBits ((aS s:Nat):Int):Int))) (.int (4 * (longest r + longest s) + 128))=some (.bl b):=⟨_,rfl⟩
 obtain ⟨b,hgt⟩:=hgt
 have JP:liftT r=.tup [aD r,.lst (r.map fun x=>T.int (bu (aS r) x)),.int (aS r:Nat),.int (longest r)]:=rfl
 have Ip:liftT s=.tup [aD s,.lst (s.map fun x=>T.int (bu (aS s) x)),.int (aS s:Nat),.int (longest s)]:=rfl
 have e':bR 2 [] (dP (aa (ae 3) (aa (ae 7) ao))) (bX (ay (aj 0) (ay (aj 1) bS))) av (aG aX (ae 0) (ae 1)) _=_:=e
 rw [JP,Ip] at e' ⊢
 clear e JP Ip t1 t2 hND hND' cc hcc hccc
 generalize wsum r s=W at *
 generalize (List.zipWith (· * ·) (r.map (bu (aS r))) (s.map (bu (aS s))))=zw at *
 clear hc hlst hsum hi hbs hbl hpos bl bl' hL hL' q1 q2 q3 p1 p2 p3 h1 h2 f
 unfold Ck cz fy
 generalize JN=dW at *
 cases b with
 | true=>walk_at "ev"
 | false=>walk_at "ev"
open PySem PySem.Spec PyProof.Rows L2 TM Qm Rq
structure Tv (D N:Nat) (A:List (List Rat)):Prop where
 len:A.length ≤ 8
 row:∀ r ∈ A,r.length ≤ 8 /\ ∀ x ∈ r,Ov D N x
 dp:0 < D
 db:D < C
 nb:N < C
theorem Tv.gv {D N:Nat} {A:List (List Rat)} (h:Tv D N A) {r:List Rat} (hr:r ∈ A):Gv D N r:=⟨(h.row r hr).1,(h.row r hr).2,h.dp,h.db,h.nb⟩
theorem Tv.col {D N:Nat} {A:List (List Rat)} (h:Tv D N A) (j:Nat):Gv D N (fN A j):=by
 refine ⟨by unfold fN; rw [List.length_map]; exact h.len,fun x hx=>?_,h.dp,h.db,h.nb⟩
 obtain ⟨r,hr,rfl⟩:=List.mem_map.mp hx
 rw [List.getD_eq_getElem?_getD]
 cases e:r[j]? with
 | none=>exact (Ov.zero D).mono (Nat.zero_le _)
 | some y=>exact (h.row r hr).2 y (List.mem_of_getElem? e)
abbrev CQ:List T -> Option O:=lU 5 3 (gh AQ xf Ck)
theorem ET {D N D' N' w:Nat} {A X:List (List Rat)} (h1:Tv D N A) (h2:Tv D' N' X) (h3:Wd w X) (h4:w ≤ 8) (f:Ey D N D' N'):CQ [ai A,ai X,.int (w:Nat)]=some (du (mulM A X w)):=by
 have cA:=bO (φ:=aD) (fe:=ak AQ (aa (ae 0) ao)) (g:=liftT) (ρ:=[]) rfl A none [] (fun r hr=>aI [aD r] rfl (ER (h1.gv hr))) (bW h1.len)
 have cB:=bO (φ:=aD) (fe:=ak AQ (aa (ae 0) ao)) (g:=liftT) (ρ:=[]) rfl (eN X w) none [] (fun r hr=>by
  obtain ⟨j,_,rfl⟩:=List.mem_map.mp hr
  exact aI [aD (fN X j)] rfl (ER (h2.col j))) (bW (by unfold eN; rw [List.length_map,List.length_range]; exact h4))
 rw [List.nil_append] at cA cB
 have kT:=Gs h2.len h3 h4
 have eA:ou 3 1 [] (aW (ae 0)) (aj 0) av (ak AQ (aa (ae 0) ao)) [some (.sh (ai A)),some (.sh (ai X)),some (.sh (.int (w:Nat))),none,none]
   = some (.nx [some (.sh (ai A)),some (.sh (ai X)),some (.sh (.int (w:Nat))),some (.own (A.map liftT)),none]):=by
  show (if cg [none]=true then (fm (aj 0) av (ak AQ (aa (ae 0) ao)) (A.map aD) [none] []).bind _ else none)=_
  rw [if_pos (show cg [none]=true from rfl),cA]
  rfl
 have eI:aW (ak xf (aa (ae 1) (aa (ae 2) ao))) [some (.sh (ai A)),some (.sh (ai X)),some (.sh (.int (w:Nat))),some (.own (A.map liftT)),none]=some ((eN X w).map aD,[some (.sh (ai A)),some (.sh (ai X)),some (.sh (.int (w:Nat))),some (.own (A.map liftT)),none]):=by
  have q:ak xf (aa (ae 1) (aa (ae 2) ao)) [some (.sh (ai A)),some (.sh (ai X)),some (.sh (.int (w:Nat))),some (.own (A.map liftT)),none]=some (ai (eN X w),[some (.sh (ai A)),some (.sh (ai X)),some (.sh (.int (w:Nat))),some (.own (A.map liftT)),none]):=aI [ai X,.int (w:Nat)] rfl kT
  unfold aW
  rw [q]
  rfl
 have eB:=bF (no:=1) (cap:=[]) (fg:=aj 0) (ft:=av) eI rfl rfl cB
 have inner:∀ r ∈ A,ef 1 [0] (aW (ae 1)) (aj 0) av (m9 (ak Ck (aa (ae 1) (aa (ae 0) ao)))) [some (.sh (liftT r)),some (.sh (.lst ((eN X w).map liftT)))]=some (iX (iY r X w),[some (.sh (liftT r)),some (.sh (.lst ((eN X w).map liftT)))]):=fun r hr=>by
  have hc:=eE (φ:=fun j:Nat=>liftT (fN X j)) (fe:=m9 (ak Ck (aa (ae 1) (aa (ae 0) ao)))) (g:=fun j=>O.val (bp (wsum r (fN X j)))) (ρ:=[some (.sh (liftT r))]) rfl (List.range w) none [] (fun j hj=>JE [liftT r,liftT (fN X j)] rfl (Ik (h1.gv hr) (h2.col j) f)) (my (by rw [List.length_range]; exact h4))
  have hm:(List.range w).map (fun j=>liftT (fN X j))=(eN X w).map liftT:=by unfold eN; rw [List.map_map]; rfl
  rw [hm] at hc
  have e:=ie (no:=1) (cap:=[0]) (fi:=aW (ae 1)) (fg:=aj 0) (ft:=av) (τ:=[some (.sh (liftT r)),some (.sh (.lst ((eN X w).map liftT)))]) rfl rfl rfl hc
  rw [e]
  show some (O.lst ((List.range w).map fun j=>O.val (bp (wsum r (fN X j)))),_)=some (O.lst (((iY r X w).map bp).map O.val),_)
  unfold iY
  rw [List.map_map,List.map_map]
  rfl
 have hc:=eE (φ:=liftT) (fe:=ef 1 [0] (aW (ae 1)) (aj 0) av (m9 (ak Ck (aa (ae 1) (aa (ae 0) ao))))) (g:=fun r=>iX (iY r X w)) (ρ:=[some (.sh (.lst ((eN X w).map liftT)))]) rfl A none [] inner (my h1.len)
 have eC:=wH (no:=1) (cap:=[4]) (fi:=aW (ae 3)) (fg:=aj 0) (ft:=av) (τ:=[some (.sh (ai A)),some (.sh (ai X)),some (.sh (.int (w:Nat))),some (.own (A.map liftT)),some (.sh (.lst ((eN X w).map liftT)))]) (τ1:=[some (.sh (ai A)),some (.sh (ai X)),some (.sh (.int (w:Nat))),some (.sh (.lst (A.map liftT))),some (.sh (.lst ((eN X w).map liftT)))]) rfl rfl rfl hc
 have e1:lU 5 3 (gh AQ xf Ck) [ai A,ai X,.int (w:Nat)]=gh AQ xf Ck [some (.sh (ai A)),some (.sh (ai X)),some (.sh (.int (w:Nat))),none,none]:=rfl
 show lU 5 3 (gh AQ xf Ck) [ai A,ai X,.int (w:Nat)]=_
 rw [e1]
 unfold gh mK
 rw [eA,Option.bind_some]
 dsimp only
 unfold bh
 rw [eB]
 show ot _ [some (.sh (ai A)),some (.sh (ai X)),some (.sh (.int (w:Nat))),some (.own (A.map liftT)),some (.sh (.lst ((eN X w).map liftT)))]=_
 unfold ot
 rw [eC]
 show some (O.lst (A.map fun r=>iX (iY r X w)))=some (O.lst ((mulM A X w).map iX))
 unfold mulM
 rw [List.map_map]
 rfl
abbrev rG:List T -> Option T:=fun ts=>(CQ ts).bind fun o=>some o.tr
theorem AY {D N D' N' w:Nat} {A X:List (List Rat)} (h1:Tv D N A) (h2:Tv D' N' X) (h3:Wd w X) (h4:w ≤ 8) (f:Ey D N D' N'):rG [ai A,ai X,.int (w:Nat)]=some (ai (mulM A X w)):=by
 show (CQ _).bind _=_
 rw [ET h1 h2 h3 h4 f,Option.bind_some,eW]
theorem Jh {f:FE} {τ τ':aH} {ts:List T} (h:f τ=some (.lst ts,τ')):aW f τ=some (ts,τ'):=by
 unfold aW
 rw [h]
 rfl
abbrev ED:List T -> Option T:=cz 2 2 (qr rG)
theorem CJ (xs:List Rat):fN (xs.map fun x=>[x]) 0=xs:=by
 unfold fN
 rw [List.map_map]
 exact List.map_id xs
theorem EO {D N D' N':Nat} {A:List (List Rat)} {xs:List Rat} (h1:Tv D N A) (h2:Gv D' N' xs) (f:Ey D N D' N'):ED [ai A,aD xs]=some (aD (A.map fun r=>wsum r xs)):=by
 have hX:Tv D' N' (xs.map fun x=>[x]):=⟨by rw [List.length_map]; exact h2.len,fun r hr=>by
  obtain ⟨x,hx,rfl⟩:=List.mem_map.mp hr
  exact ⟨by simp,fun y hy=>by rw [List.mem_singleton.mp hy]; exact h2.ov x hx⟩,h2.dp,h2.db,h2.nb⟩
 have c1:=bO (φ:=bp) (fe:=kl (aa (ae 0) ao)) (g:=fun x=>T.lst [bp x]) (ρ:=[]) rfl xs none [] (fun x _=>by
  have l1:=Ks
  walk_at "ev") (bW h2.len)
 have e1:=bF (no:=1) (cap:=[]) (fi:=aW (ae 1)) (fg:=aj 0) (ft:=av) (τ:=[some (.sh (ai A)),some (.sh (aD xs))]) (h1:=rfl) rfl rfl c1
 rw [List.nil_append,show T.lst (xs.map fun x=>T.lst [bp x])=ai (xs.map fun x=>[x]) by unfold ai; rw [List.map_map]; rfl] at e1
 have e2:ak rG (aa (ae 0) (aa (bR 1 [] (aW (ae 1)) (aj 0) av (kl (aa (ae 0) ao))) (aa (fC (.int 1)) ao))) [some (.sh (ai A)),some (.sh (aD xs))]=some (ai (mulM A (xs.map fun x=>[x]) 1),[some (.sh (ai A)),some (.sh (aD xs))]):=aI [ai A,ai (xs.map fun x=>[x]),.int 1] (iw rfl e1 rfl) (AY (w:=1) h1 hX (fun r hr=>by
  obtain ⟨x,_,rfl⟩:=List.mem_map.mp hr
  rfl) (by decide) f)
 have e3:aW (ak rG (aa (ae 0) (aa (bR 1 [] (aW (ae 1)) (aj 0) av (kl (aa (ae 0) ao))) (aa (fC (.int 1)) ao)))) [some (.sh (ai A)),some (.sh (aD xs))]=some (A.map fun r=>aD [wsum r xs],[some (.sh (ai A)),some (.sh (aD xs))]):=by
  refine (Jh e2).trans ?_
  unfold mulM
  rw [List.map_map]
  refine congrArg (fun z=>some (z,_)) (List.map_congr_left fun r _=>?_)
  show aD ([wsum r (fN (xs.map fun x=>[x]) 0)])=_
  rw [CJ]
 have c4:=bO (φ:=fun r:List Rat=>aD [wsum r xs]) (fe:=aG bN (ae 0) (fC (.int 0))) (g:=fun r=>bp (wsum r xs)) (ρ:=[]) rfl A none [] (fun r _=>rfl) (bW h1.len)
 have e4:=bF (no:=1) (cap:=[]) (fg:=aj 0) (ft:=av) e3 rfl rfl c4
 refine dN rfl ?_
 refine (fQ e4).trans ?_
 rw [List.nil_append]
 unfold aD
 rw [List.map_map]
 rfl
theorem qB {α:Type} (f:α -> Bool):∀ l:List α,boolsOf (l.map fun x=>T.bl (f x))=some (l.map f)
 | []=>rfl
 | x :: l=>by rw [List.map_cons,boolsOf,qB f l]; rfl
theorem all_map {α:Type} (f:α -> Bool) (l:List α):om [.lst (l.map fun x=>T.bl (f x))]=some (.bl (l.all f)):=by
 show (boolsOf _).bind _=_
 rw [qB,Option.bind_some,List.all_map]
 rfl
abbrev EF:List T -> Option T:=cz 1 1 kh
abbrev EE:List T -> Option T:=cz 3 1 (gW EF cK)
theorem xb (n:Int):EF [.int n]=some (.bl true):=by
 unfold EF cz kh
 walk_at "ev"
theorem Kp {x:Rat} (h:Sm x):EE [bp x]=some (.bl true):=by
 have k1:=dk (a:=x.num) (b:=(x.den:Int)) (ltB h.n) (ltB (by rw [Int.natAbs_natCast]; exact h.d))
 have hg:Int.gcd x.num (x.den:Int)=1:=x.reduced
 rw [hg] at k1
 have k2:=xb x.num
 have k3:=xb (x.den:Int)
 have hp:Kj (.int (x.den:Int)) (.int 1)=some (.bl true):=by
  have:=x.den_nz
  show some (T.bl (decide ((x.den:Int) ≥ 1)))=_
  rw [decide_eq_true (by omega)]
 have k4:mL (.int ((1:Nat):Int)) (.int 1)=some (.bl true):=rfl
 unfold bp
 have c2:decide (((2:Nat):Int)=2)=true:=rfl
 generalize hw:EF=w at *
 generalize x.num=a at *
 generalize (x.den:Int)=b at *
 unfold EE cz gW
 rw [hw]
 walk_at "ev"
open PySem PySem.Spec PyProof.Rows L2 TM Qm Rq
theorem qV:∀ (n:Nat) (x y:Nat),y < n -> eL (eP (aG uC (ae 1) (fC (.int 0)))) (m8 0 1 (aa (ae 1) (aa (aG cU (ae 0) (ae 1)) ao))) n [some (.sh (.int x)),some (.sh (.int y))]
  = some (.nx [some (.sh (.int (Nat.gcd x y))),some (.sh (.int 0))])
 | 0,_,_,h=>by omega
 | n + 1,x,y,h=>by
  unfold eL
  by_cases hy:y=0
  ·subst hy
   have h0:((0:Nat):Int)=0:=rfl
   walk_at "ev"
   simp
  ·have hy':¬ ((y:Int)=0):=by omega
   have hy2:(0:Int) < y:=by omega
   have hm:Int.fmod (x:Int) (y:Int)=((x % y:Nat):Int):=by rw [Int.fmod_eq_emod_of_nonneg _ (by omega)]; rfl
   have hg:Nat.gcd x y=Nat.gcd y (x % y):=by rw [Nat.gcd_comm x y,Nat.gcd_rec y x,Nat.gcd_comm]
   have ih:=qV n y (x % y) (by have:=Nat.mod_lt x (Nat.pos_of_ne_zero hy); omega)
   rw [hg]
   clear hg h hy
   walk_at "ev"
theorem pF (ts:List T) (t:T) (h:cK ts=some t):cz 2 2 (gp B) ts=some t:=by
 unfold cK at h
 split at h
 ·next a b =>
  split at h
  ·next hb =>
   cases h
   have hw:=qV B a.natAbs b.natAbs (hb.2)
   have hg:Nat.gcd a.natAbs b.natAbs=Int.gcd a b:=rfl
   unfold cz gp
   clear hb
   walk_at "ev"
  ·cases h
 ·cases h
def yP:List T -> Option T
 | [.int a,.int b]=>if a.natAbs < B /\ b.natAbs < B /\ 0 < b then some (bp (Rat.divInt a b)) else none
 | _=>none
theorem sO {a b:Int} (ha:a.natAbs < B) (hb:b.natAbs < B) (h0:0 < b):yP [.int a,.int b]=some (bp (Rat.divInt a b)):=if_pos ⟨ha,hb,h0⟩
theorem vS (ts:List T) (t:T) (h:yP ts=some t):cz 3 2 (je cK) ts=some t:=by
 unfold yP at h
 split at h
 ·next a b =>
  split at h
  ·next hb =>
   cases h
   obtain ⟨ha,hb,h0⟩:=hb
   have h2:=Bg (a:=a) (b:=b) (by omega)
   have h3:=qH (a:=a) hb (by omega)
   have h4:((Int.gcd a b:Nat):Int).natAbs < B:=by omega
   have hc:=dk ha hb
   have e:rL a b=.tup [.int (a.fdiv (Int.gcd a b:Int)),.int (b.fdiv (Int.gcd a b:Int))]:=by unfold rL sg; rw [if_neg (by omega)]
   rw [<- nJ h0,e]
   unfold cz je
   clear e h0
   walk_at "ev"
  ·cases h
 ·cases h
def Gu (c k:Int):Int:=
 let a:=(c + 7919 * k + 12345).fmod 2147483629
 let b:=(a * a + 48271 * k).fmod 2147483629
 (b * b).fmod 2147483587
abbrev EH:List T -> Option T:=cz 3 2 iA
theorem AX {c k:Int} (h0:0 ≤ k) (h1:k ≤ 1000):EH [.int c,.int k]=some (.int (Gu c k)):=by
 have r1:=eU (c + 7919 * k + 12345) (b:=2147483629) (by decide)
 have r2:=eU ((c + 7919 * k + 12345).fmod 2147483629 * (c + 7919 * k + 12345).fmod 2147483629 + 48271 * k) (b:=2147483629) (by decide)
 have bb:2147483629 < B:=by decide +kernel
 have bk:k.natAbs < B:=by omega
 have b1:((c + 7919 * k + 12345).fmod 2147483629).natAbs < B:=by omega
 have b2:(((c + 7919 * k + 12345).fmod 2147483629 * (c + 7919 * k + 12345).fmod 2147483629 + 48271 * k).fmod 2147483629).natAbs < B:=by omega
 have b3:(7919:Int).natAbs < B:=by omega
 have b4:(48271:Int).natAbs < B:=by omega
 have n1:¬ (2147483629:Int)=0:=by decide
 have n2:¬ (2147483587:Int)=0:=by decide
 unfold Gu
 dsimp only
 clear r1 r2 bb h0 h1
 unfold EH cz iA
 walk_at "ev"
theorem Am {i:Nat} {f g:FE} {τ:aH} {us:List T} {u t:T} (h:τ[i]? = some (some (.own (us ++ [u])))) (hf:f τ=some (t,τ)) (hg:g τ=some (.int (-1),τ)):oy i f g τ=some (.nx (τ.set i (some (.own (us ++ [t]))))):=by
 unfold oy
 rw [hf,Option.bind_some]
 dsimp only
 rw [h]
 dsimp only
 rw [hg,Option.bind_some]
 dsimp only
 rw [h]
 dsimp only
 rw [show yI (us ++ [u]).length (-1)=some us.length from by
  unfold yI
  rw [if_neg (by decide),List.length_append,List.length_cons,List.length_nil,if_pos (by omega)]
  rw [show (-1:Int) + ((us.length + (0 + 1):Nat):Int)=(us.length:Nat) by omega,Int.toNat_natCast]]
 rw [Option.bind_some,List.set_append_right _ _ (Nat.le_refl _),Nat.sub_self]
 rfl
def Bz:FS:=(aV (m6 2 (ak yP (aa (aG jO (aG cU (ae 3) (fC (.int 19))) (fC (.int 9))) (aa (aG cq (fC (.int 1)) (aG cU (aG cP (ae 3) (fC (.int 19))) (fC (.int 12)))) ao))))
  (bh 3 (aG cP (ae 3) (fC (.int 228)))))
def oN:FE:=(aG bN (kl (aa (fz (aa (fC (.int 0)) (aa (fC (.int 1)) ao))) (aa (fz (aa (aG jO (aG cU (aG cP (ae 5) (fC (.int 4))) (fC (.int 3))) (fC (.int 1))) (aa (fC (.int 1)) ao))) (aa (fz (aa (fC (.int 1)) (aa (fC (.int 2)) ao))) (aa (fz (aa (fC (.int 0)) (aa (fC (.int 1)) ao))) ao))))) (ae 6))
def Dv:FE:=(ak yP (aa (aG jO (aG cU (aG cP (ae 5) (fC (.int 4))) (fC (.int 19))) (fC (.int 9))) (aa (aG cq (fC (.int 1)) (aG cU (aG cP (ae 5) (fC (.int 76))) (fC (.int 12)))) ao)))
def sR:FS:=(aV (bh 5 (ak EH (aa (ae 0) (aa (ae 4) ao))))
  (aV (bh 6 (aG cU (ae 5) (fC (.int 4))))
  (aV (m6 2 oN)
  (bY (eP (aG mL (ae 6) (fC (.int 2)))) (oy 2 Dv (ub wK (fC (.int 1)))) bI))))
def oM:FS:=(bY (eP (aG mL (aG cU (ae 0) (fC (.int 2))) (fC (.int 1)))) Bz sR)
abbrev lK (c n:Int) (ts:List T) (r:Int) (x4 x5 x6:Option Sl):aH:=[some (.sh (.int c)),some (.sh (.int n)),some (.own ts),some (.sh (.int r)),x4,x5,x6]
theorem C6:Lq 1 9 (Rat.divInt 1 2):=Lq.small (a:=1) (b:=2) (by decide) (by decide) (by decide)
theorem Gw (c n r:Int) (ts:List T) (x4 x5 x6:Option Sl) (hl:ts.length < 1000):∃ q:Rat,Lq 1 9 q /\ Bz (lK c n ts r x4 x5 x6)=some (.nx (lK c n (ts ++ [bp q]) (r.fdiv 228) x4 x5 x6)):=by
 have r19:=eU r (b:=19) (by decide)
 have r12:=eU (r.fdiv 19) (b:=12) (by decide)
 have hf:=sO (a:=r.fmod 19 - 9) (b:=1 + (r.fdiv 19).fmod 12) (cu (by omega) (by omega)) (cu (by omega) (by omega)) (by omega)
 have hn:=Lq.small (a:=r.fmod 19 - 9) (b:=1 + (r.fdiv 19).fmod 12) (by omega) (by omega) (by omega)
 generalize Rat.divInt (r.fmod 19 - 9) (1 + (r.fdiv 19).fmod 12)=q at *
 refine ⟨q,hn,?_⟩
 have hz:ts.length < sizeLine:=cH (by omega)
 have n228:¬ (228:Int)=0:=by decide
 have n19:¬ (19:Int)=0:=by decide
 have n12:¬ (12:Int)=0:=by decide
 have b228:(228:Int).natAbs < B:=cu (by decide) (by decide)
 have b19:(19:Int).natAbs < B:=cu (by decide) (by decide)
 have b12:(12:Int).natAbs < B:=cu (by decide) (by decide)
 clear r19 r12 hn hl
 generalize bp q=Q at *
 unfold Bz
 walk_at "ev"
theorem Dx (c n r k:Int) (ts:List T) (x5 x6:Option Sl) (hk:0 ≤ k /\ k ≤ 1000) (hl:ts.length < 1000):∃ q:Rat,∃ y5 y6,Lq 1 9 q /\ sR (lK c n ts r (some (.sh (.int k))) x5 x6)=some (.nx (lK c n (ts ++ [bp q]) r (some (.sh (.int k))) y5 y6)):=by
 have hm:=AX (c:=c) (k:=k) hk.1 hk.2
 generalize Gu c k=m at *
 have r3:=eU (m.fdiv 4) (b:=3) (by decide)
 have r4:=eU m (b:=4) (by decide)
 have r19:=eU (m.fdiv 4) (b:=19) (by decide)
 have r12:=eU (m.fdiv 76) (b:=12) (by decide)
 have hf:=sO (a:=(m.fdiv 4).fmod 19 - 9) (b:=1 + (m.fdiv 76).fmod 12) (cu (by omega) (by omega)) (cu (by omega) (by omega)) (by omega)
 have hn:=Lq.small (a:=(m.fdiv 4).fmod 19 - 9) (b:=1 + (m.fdiv 76).fmod 12) (by omega) (by omega) (by omega)
 have hn2:=Lq.small (a:=(m.fdiv 4).fmod 3 - 1) (b:=1) (by omega) (by omega) (by omega)
 generalize Rat.divInt ((m.fdiv 4).fmod 19 - 9) (1 + (m.fdiv 76).fmod 12)=fr at *
 obtain ⟨t,ht,hmem⟩:=Iw (L:=[.tup [.int 0,.int 1],.tup [.int ((m.fdiv 4).fmod 3 - 1),.int 1],.tup [.int 1,.int 2],.tup [.int 0,.int 1]]) (i:=m.fmod 4) (by omega) (by simp; omega)
 have hz:ts.length < sizeLine:=cH (by omega)
 have n4:¬ (4:Int)=0:=by decide
 have n3:¬ (3:Int)=0:=by decide
 have n19:¬ (19:Int)=0:=by decide
 have n76:¬ (76:Int)=0:=by decide
 have n12:¬ (12:Int)=0:=by decide
 have b4:(4:Int).natAbs < B:=cu (by decide) (by decide)
 have b3:(3:Int).natAbs < B:=cu (by decide) (by decide)
 have b19:(19:Int).natAbs < B:=cu (by decide) (by decide)
 have b76:(76:Int).natAbs < B:=cu (by decide) (by decide)
 have b12:(12:Int).natAbs < B:=cu (by decide) (by decide)
 have l4:(4:Nat) ≤ sizeLine:=da (by decide)
 have l2:=Iz
 have hq:∃ q,t=bp q /\ Lq 1 9 q:=by
  simp only [List.mem_cons,List.not_mem_nil,or_false] at hmem
  rcases hmem with rfl | rfl | rfl | rfl
  ·exact ⟨0,rfl,(Lq.zero 1).mono (Nat.zero_le _)⟩
  ·exact ⟨_,En _,hn2⟩
  ·exact ⟨Rat.divInt 1 2,rfl,C6⟩
  ·exact ⟨0,rfl,(Lq.zero 1).mono (Nat.zero_le _)⟩
 obtain ⟨q,rfl,hq⟩:=hq
 have e1:bh 5 (ak EH (aa (ae 0) (aa (ae 4) ao))) (lK c n ts r (some (.sh (.int k))) x5 x6)=some (.nx (lK c n ts r (some (.sh (.int k))) (some (.sh (.int m))) x6)):=dg (aI [.int c,.int k] (fM rfl rfl) hm) rfl
 have e2:bh 6 (aG cU (ae 5) (fC (.int 4))) (lK c n ts r (some (.sh (.int k))) (some (.sh (.int m))) x6)=some (.nx (lK c n ts r (some (.sh (.int k))) (some (.sh (.int m))) (some (.sh (.int (m.fmod 4)))))):=dg (bA (g:=cU) rfl rfl (qK n4)) rfl
 have e3:oN (lK c n ts r (some (.sh (.int k))) (some (.sh (.int m))) (some (.sh (.int (m.fmod 4)))))=some (bp q,lK c n ts r (some (.sh (.int k))) (some (.sh (.int m))) (some (.sh (.int (m.fmod 4))))):=by
  clear hm hf hn hn2 hmem hq e1 e2 r3 r4 r19 r12 hk hl
  generalize bp q=Q at *
  unfold oN
  walk_at "ev"
 have e4:=EC (i:=2) (f:=oN) (τ:=lK c n ts r (some (.sh (.int k))) (some (.sh (.int m))) (some (.sh (.int (m.fmod 4))))) rfl e3 hz
 have e4':m6 2 oN (lK c n ts r (some (.sh (.int k))) (some (.sh (.int m))) (some (.sh (.int (m.fmod 4)))))=some (.nx (lK c n (ts ++ [bp q]) r (some (.sh (.int k))) (some (.sh (.int m))) (some (.sh (.int (m.fmod 4)))))):=e4
 have t5:eP (aG mL (ae 6) (fC (.int 2))) (lK c n (ts ++ [bp q]) r (some (.sh (.int k))) (some (.sh (.int m))) (some (.sh (.int (m.fmod 4)))))=some (decide (m.fmod 4=2),lK c n (ts ++ [bp q]) r (some (.sh (.int k))) (some (.sh (.int m))) (some (.sh (.int (m.fmod 4))))):=by
  have e:=bA (g:=mL) (fa:=ae 6) (fb:=fC (.int 2)) (τ:=lK c n (ts ++ [bp q]) r (some (.sh (.int k))) (some (.sh (.int m))) (some (.sh (.int (m.fmod 4))))) rfl rfl (nK _ _)
  unfold eP
  rw [e]
  rfl
 by_cases h2:m.fmod 4=2
 ·refine ⟨fr,some (.sh (.int m)),some (.sh (.int (m.fmod 4))),hn,?_⟩
  have e6:Dv (lK c n (ts ++ [bp q]) r (some (.sh (.int k))) (some (.sh (.int m))) (some (.sh (.int (m.fmod 4)))))=some (bp fr,lK c n (ts ++ [bp q]) r (some (.sh (.int k))) (some (.sh (.int m))) (some (.sh (.int (m.fmod 4))))):=by
   clear hm hn hn2 hmem hq e1 e2 e3 e4 e4' t5 r3 r4 r19 r12 hk hl ht h2
   generalize bp q=Q at *
   generalize bp fr=Q2 at *
   unfold Dv
   walk_at "ev"
  have e7:=Am (i:=2) (f:=Dv) (g:=ub wK (fC (.int 1))) (us:=ts) (u:=bp q) (τ:=lK c n (ts ++ [bp q]) r (some (.sh (.int k))) (some (.sh (.int m))) (some (.sh (.int (m.fmod 4))))) rfl e6 rfl
  unfold sR
  rw [br e1,br e2,br e4']
  unfold bY
  rw [t5,Option.bind_some]
  refine (if_pos (decide_eq_true h2)).trans ?_
  exact e7
 ·refine ⟨q,some (.sh (.int m)),some (.sh (.int (m.fmod 4))),hq,?_⟩
  unfold sR
  rw [br e1,br e2,br e4']
  refine uE ?_
  rw [t5,decide_eq_false h2]
theorem Dy (c n r k:Int) (ts:List T) (x5 x6:Option Sl) (hk:0 ≤ k /\ k ≤ 1000) (hl:ts.length < 1000):∃ q:Rat,∃ r' y5 y6,Lq 1 9 q /\ oM (lK c n ts r (some (.sh (.int k))) x5 x6)=some (.nx (lK c n (ts ++ [bp q]) r' (some (.sh (.int k))) y5 y6)):=by
 have t5:eP (aG mL (aG cU (ae 0) (fC (.int 2))) (fC (.int 1))) (lK c n ts r (some (.sh (.int k))) x5 x6)=some (decide (c.fmod 2=1),lK c n ts r (some (.sh (.int k))) x5 x6):=by
  have e:=bA (g:=mL) (fa:=aG cU (ae 0) (fC (.int 2))) (fb:=fC (.int 1)) (τ:=lK c n ts r (some (.sh (.int k))) x5 x6) (bA (g:=cU) rfl rfl (qK (by decide))) rfl (nK _ _)
  unfold eP
  rw [e]
  rfl
 by_cases h:c.fmod 2=1
 ·obtain ⟨q,h1,h2⟩:=Gw c n r ts (some (.sh (.int k))) x5 x6 hl
  refine ⟨q,r.fdiv 228,x5,x6,h1,?_⟩
  unfold oM bY
  rw [t5,Option.bind_some]
  exact (if_pos (decide_eq_true h)).trans h2
 ·obtain ⟨q,y5,y6,h1,h2⟩:=Dx c n r k ts x5 x6 hk hl
  refine ⟨q,r,y5,y6,h1,?_⟩
  unfold oM bY
  rw [t5,Option.bind_some]
  refine (if_neg ?_).trans h2
  intro z
  exact h (of_decide_eq_true z)
theorem yS (c n:Int):∀ (m:Nat) (lo r:Int) (ts:List T) (x4 x5 x6:Option Sl),0 ≤ lo -> lo + m ≤ 1000 -> ts.length + m < 1000 -> ∃ us:List Rat,∃ r' y4 y5 y6,(∀ t ∈ us,Lq 1 9 t) /\ us.length=m /\ df (aj 4) oM (TM.upTo lo m) (lK c n ts r x4 x5 x6)=some (.nx (lK c n (ts ++ us.map bp) r' y4 y5 y6))
 | 0,lo,r,ts,x4,x5,x6,_,_,_=>⟨[],r,x4,x5,x6,fun t ht=>(by cases ht),rfl,by simp [TM.upTo,df]⟩
 | m + 1,lo,r,ts,x4,x5,x6,h0,h1,h2=>by
  obtain ⟨t,r',y5,y6,ht,hb⟩:=Dy c n r lo ts x5 x6 (by omega) (by omega)
  obtain ⟨us,r2,z4,z5,z6,g1,g2,g3⟩:=yS c n m (lo + 1) r' (ts ++ [bp t]) (some (.sh (.int lo))) y5 y6 (by omega) (by omega) (by simp; omega)
  refine ⟨t :: us,r2,z4,z5,z6,fun x hx=>?_,by simp [g2],?_⟩
  ·rcases List.mem_cons.mp hx with rfl | hx
   ·exact ht
   ·exact g1 x hx
  ·rw [show TM.upTo lo (m + 1)=T.int lo :: TM.upTo (lo + 1) m from rfl,dw rfl hb,g3]
   simp
abbrev AR:List T -> Option T:=cz 7 2 (eT yP EH)
theorem CG:eT yP EH=aV (eh 2 ao) (aV (bh 3 (aG cP (ae 0) (fC (.int 2)))) (aV (fO (dB (aa (ae 1) ao)) (aj 4) oM) (bE (ae 2)))):=rfl
theorem kj (c:Int) (n:Nat) (hn:n ≤ 100):∃ r:List Rat,AR [.int c,.int (n:Nat)]=some (aD r) /\ r.length=n /\ ∀ x ∈ r,Lq 1 9 x:=by
 obtain ⟨us,r',y4,y5,y6,h1,h2,h3⟩:=yS c (n:Nat) n 0 (c.fdiv 2) [] none none none (by decide) (by omega) (by simp; omega)
 refine ⟨us,?_,h2,h1⟩
 have hr:=lj (f:=ae 1) (τ:=lK c (n:Nat) [] (c.fdiv 2) none none none) (n:=(n:Int)) rfl (by omega) (by omega)
 rw [Int.toNat_natCast] at hr
 rw [List.nil_append] at h3
 have e1:eh 2 ao [some (.sh (.int c)),some (.sh (.int (n:Nat))),none,none,none,none,none]=some (.nx [some (.sh (.int c)),some (.sh (.int (n:Nat))),some (.own []),none,none,none,none]):=by
  have:=Kr
  walk_at "ev"
 have e2:bh 3 (aG cP (ae 0) (fC (.int 2))) [some (.sh (.int c)),some (.sh (.int (n:Nat))),some (.own []),none,none,none,none]=some (.nx (lK c (n:Nat) [] (c.fdiv 2) none none none)):=dg (bA (g:=cP) rfl rfl (yz (by decide) (cu (by decide) (by decide)))) rfl
 refine dN rfl ?_
 show eT yP EH [some (.sh (.int c)),some (.sh (.int (n:Nat))),none,none,none,none,none]=_
 rw [CG,br e1,br e2,br (kN hr h3)]
 rfl
open PySem PySem.Spec PyProof.Rows L2 TM Qm Rq
abbrev Cj:List T -> Option T:=cz 2 2 gJ
theorem rJ (ns:List Int) (k:Nat):Cj [.scr (ns.map T.int),.int (k:Nat)]=some (.int (ns.getD k 0)):=by
 have hl:ak bM (aa (ae 0) ao) [some (.sh (.scr (ns.map T.int))),some (.sh (.int (k:Nat)))]=some (.int (ns.length:Nat),[some (.sh (.scr (ns.map T.int))),some (.sh (.int (k:Nat)))]):=aI [.scr (ns.map T.int)] (dS rfl) (by
  show some (T.int ((ns.map T.int).length:Nat))=_
  rw [List.length_map])
 have ht:=ID (f:=ae 1) (g:=ak bM (aa (ae 0) ao)) (τ:=[some (.sh (.scr (ns.map T.int))),some (.sh (.int (k:Nat)))]) (a:=k) (b:=ns.length) rfl hl
 refine dN rfl ?_
 show gJ [some (.sh (.scr (ns.map T.int))),some (.sh (.int (k:Nat)))]=_
 unfold gJ
 by_cases h:k < ns.length
 ·have e:=Dc (ns:=ns) (k:=(k:Nat)) (by omega) (by omega)
  rw [Int.toNat_natCast] at e
  unfold aV bY
  rw [ht,Option.bind_some]
  dsimp only
  rw [if_pos (decide_eq_true h),fQ (bA (g:=bN) (fa:=ae 0) (fb:=ae 1) rfl rfl e)]
  rfl
 ·rw [br (uE (by rw [ht,decide_eq_false h]))]
  rw [List.getD_eq_getElem?_getD,List.getElem?_eq_none (by omega)]
  rfl
theorem oK {a b:Nat} (ha:a ≤ 1000) (hb:b ≤ 1000):aX (.int (a:Nat)) (.int (b:Nat))=some (.int ((a * b:Nat):Nat)):=by
 rw [iS (BF (by omega)) (BF (by omega)),Int.natCast_mul]
theorem qX {a b:Nat}:cq (.int (a:Nat)) (.int (b:Nat))=some (.int ((a + b:Nat):Nat)):=by
 rw [ig,Int.natCast_add]
theorem CL (xs:List Rat) (a b:Nat) (h:a + b ≤ xs.length):Hu (aD xs) (some (a:Nat)) (some ((a + b:Nat):Nat))=some (aD ((xs.drop a).take b)):=by
 show some (T.lst (oj (xs.map bp) (some (a:Nat)) (some ((a + b:Nat):Nat))))=_
 unfold oj
 rw [HT.jJ,HT.jJ,List.length_map,Nat.min_eq_left h,Nat.min_eq_left (by omega:a ≤ xs.length),Nat.add_sub_cancel_left,<- List.map_drop,<- List.map_take]
 rfl
theorem rD (xs:List Rat) (a:Nat) (h:a ≤ xs.length):Hu (aD xs) (some (a:Nat)) none=some (aD (xs.drop a)):=by
 show some (T.lst (oj (xs.map bp) (some (a:Nat)) none))=_
 unfold oj
 rw [HT.jJ,HT.vM,List.length_map,Nat.min_eq_left h,<- List.map_drop,List.take_of_length_le (by rw [List.length_map,List.length_drop]; omega)]
 rfl
def mU (xs:List Rat) (m w:Nat):List (List Rat):=(List.range m).map fun k=>(xs.drop (w * k)).take w
structure Tw (m w:Nat) (A:List (List Rat)):Prop where
 len:A.length=m
 bw:Bw w 9 A
theorem nS {xs:List Rat} {m w:Nat} (h:m * w ≤ xs.length) (hq:∀ x ∈ xs,Lq 1 9 x):Tw m w (mU xs m w):=by
 unfold mU
 refine ⟨by rw [List.length_map,List.length_range],fun r hr=>?_,fun r hr x hx=>?_⟩
 ·obtain ⟨k,hk,rfl⟩:=List.mem_map.mp hr
  have hkm:=List.mem_range.mp hk
  have hkw:w * k + w ≤ m * w:=by
   have:(k + 1) * w ≤ m * w:=Nat.mul_le_mul_right w hkm
   rw [Nat.add_mul,Nat.one_mul,Nat.mul_comm] at this
   exact this
  rw [List.length_take,List.length_drop]
  omega
 ·obtain ⟨k,hk,rfl⟩:=List.mem_map.mp hr
  exact hq x (List.mem_of_mem_drop (List.mem_of_mem_take hx))
abbrev EJ:List T -> Option T:=cz 3 3 gN
theorem nI {xs:List Rat} {m w:Nat} (hm:m ≤ 8) (hw:w ≤ 8) (h:m * w ≤ xs.length):EJ [aD xs,.int (m:Nat),.int (w:Nat)]=some (ai (mU xs m w)):=by
 have hc:=bO (φ:=fun j:Nat=>T.int (j:Nat)) (fe:=wI (ae 1) (dG (aG aX (ae 2) (ae 0))) (dG (aG cq (aG aX (ae 2) (ae 0)) (ae 2)))) (g:=fun k=>aD ((xs.drop (w * k)).take w)) (ρ:=[some (.sh (aD xs)),some (.sh (.int (w:Nat)))]) rfl (List.range m) none [] (fun k hk=>by
  have hkm:=List.mem_range.mp hk
  have hkw:w * k + w ≤ m * w:=by
   have:(k + 1) * w ≤ m * w:=Nat.mul_le_mul_right w hkm
   rw [Nat.add_mul,Nat.one_mul,Nat.mul_comm] at this
   exact this
  have m1:=bA (g:=aX) (fa:=ae 2) (fb:=ae 0) (τ:=[some (.sh (.int (k:Nat))),some (.sh (aD xs)),some (.sh (.int (w:Nat)))]) (a:=.int (w:Nat)) (b:=.int (k:Nat)) rfl rfl (oK (by omega) (by omega))
  exact BY (a:=aD xs) rfl (jk m1) (jk (bA (g:=cq) (b:=.int (w:Nat)) m1 rfl qX)) (CL xs (w * k) w (by omega))) (bW (by rw [List.length_range]; omega))
 have e:=bF (no:=1) (cap:=[0,2]) (fi:=dB (aa (ae 1) ao)) (fg:=aj 0) (ft:=av) (τ:=[some (.sh (aD xs)),some (.sh (.int (m:Nat))),some (.sh (.int (w:Nat)))]) (nR (f:=ae 1) (n:=m) rfl (by omega)) rfl rfl hc
 refine dN rfl ?_
 show gN [some (.sh (aD xs)),some (.sh (.int (m:Nat))),some (.sh (.int (w:Nat)))]=_
 unfold gN
 rw [fQ e]
 unfold ai mU
 rw [List.map_map]
 rfl
theorem uk {f g i j:FE} {τ:aH} {t u v x:T} (h:f τ=some (t,τ)) (h':g τ=some (u,τ)) (h'':i τ=some (v,τ)) (h3:j τ=some (x,τ)):aa f (aa g (aa i (aa j ao))) τ=some ([t,u,v,x],τ):=rA h (iw h' h'' h3)
theorem IC {f:FA} {τ τ':aH} {ts:List T} (h:f τ=some (ts,τ')) (hl:ts.length ≤ 1000):kl f τ=some (.lst ts,τ'):=by
 unfold kl
 rw [h,Option.bind_some]
 exact if_pos (da hl)
abbrev Hq:List T -> Option T:=cz 8 4 (gK AR EJ)
structure dc (m i o:Nat) (A B C D:List (List Rat)):Prop where
 a:Tw m m A
 b:Tw m i B
 c:Tw o m C
 d:Tw o i D
abbrev bQ (A B C D:List (List Rat)):T:=.lst [ai A,ai B,ai C,ai D]
theorem CU (c:Int) {m i o:Nat} (hm:m ≤ 3) (hi:i ≤ 2) (ho:o ≤ 2):∃ A B C D,Hq [.int c,.int (m:Nat),.int (i:Nat),.int (o:Nat)]=some (bQ A B C D) /\ dc m i o A B C D:=by
 have p1:m * m ≤ 9:=Nat.mul_le_mul hm hm
 have p2:m * i ≤ 6:=Nat.mul_le_mul hm hi
 have p3:o * m ≤ 6:=Nat.mul_le_mul ho hm
 have p4:o * i ≤ 4:=Nat.mul_le_mul ho hi
 obtain ⟨xs,e1,e2,e3⟩:=kj c (m * m + m * i + o * m + o * i) (by omega)
 have q1:=nI (xs:=xs) (m:=m) (w:=m) (by omega) (by omega) (by omega)
 have l2:(xs.drop (m * m)).length=m * i + o * m + o * i:=by rw [List.length_drop]; omega
 have m2:∀ x ∈ xs.drop (m * m),Lq 1 9 x:=fun x hx=>e3 x (List.mem_of_mem_drop hx)
 have q2:=nI (xs:=xs.drop (m * m)) (m:=m) (w:=i) (by omega) (by omega) (by omega)
 have l3:((xs.drop (m * m)).drop (m * i)).length=o * m + o * i:=by rw [List.length_drop]; omega
 have m3:∀ x ∈ (xs.drop (m * m)).drop (m * i),Lq 1 9 x:=fun x hx=>m2 x (List.mem_of_mem_drop hx)
 have q3:=nI (xs:=(xs.drop (m * m)).drop (m * i)) (m:=o) (w:=m) (by omega) (by omega) (by omega)
 have l4:(((xs.drop (m * m)).drop (m * i)).drop (o * m)).length=o * i:=by rw [List.length_drop]; omega
 have m4:∀ x ∈ ((xs.drop (m * m)).drop (m * i)).drop (o * m),Lq 1 9 x:=fun x hx=>m3 x (List.mem_of_mem_drop hx)
 have q4:=nI (xs:=((xs.drop (m * m)).drop (m * i)).drop (o * m)) (m:=o) (w:=i) (by omega) (by omega) (by omega)
 have t1:=nS (m:=m) (w:=m) (show m * m ≤ xs.length by omega) e3
 have t2:=nS (m:=m) (w:=i) (show m * i ≤ (xs.drop (m * m)).length by omega) m2
 have t3:=nS (m:=o) (w:=m) (show o * m ≤ ((xs.drop (m * m)).drop (m * i)).length by omega) m3
 have t4:=nS (m:=o) (w:=i) (show o * i ≤ (((xs.drop (m * m)).drop (m * i)).drop (o * m)).length by omega) m4
 have c1:=rD xs (m * m) (by omega)
 have c2:=rD (xs.drop (m * m)) (m * i) (by omega)
 have c3:=rD ((xs.drop (m * m)).drop (m * i)) (o * m) (by omega)
 refine ⟨_,_,_,_,?_,t1,t2,t3,t4⟩
 generalize mU xs m m=A at *
 generalize mU (xs.drop (m * m)) m i=B at *
 generalize mU ((xs.drop (m * m)).drop (m * i)) o m=C at *
 generalize mU (((xs.drop (m * m)).drop (m * i)).drop (o * m)) o i=D at *
 generalize hx3:((xs.drop (m * m)).drop (m * i)).drop (o * m)=x3 at *
 generalize hx2:(xs.drop (m * m)).drop (m * i)=x2 at *
 generalize hx1:xs.drop (m * m)=x1 at *
 refine dN rfl ?_
 show gK AR EJ [some (.sh (.int c)),some (.sh (.int (m:Nat))),some (.sh (.int (i:Nat))),some (.sh (.int (o:Nat))),none,none,none,none]=_
 have v:∀ {s4 s5 s6 s7:Option Sl},aG aX (ae 1) (ae 1) [some (.sh (.int c)),some (.sh (.int (m:Nat))),some (.sh (.int (i:Nat))),some (.sh (.int (o:Nat))),s4,s5,s6,s7]=some (.int ((m * m:Nat):Nat),_):=fun {s4 s5 s6 s7}=>bA (g:=aX) rfl rfl (oK (by omega) (by omega))
 have v2:∀ {s4 s5 s6 s7:Option Sl},aG aX (ae 1) (ae 2) [some (.sh (.int c)),some (.sh (.int (m:Nat))),some (.sh (.int (i:Nat))),some (.sh (.int (o:Nat))),s4,s5,s6,s7]=some (.int ((m * i:Nat):Nat),_):=fun {s4 s5 s6 s7}=>bA (g:=aX) rfl rfl (oK (by omega) (by omega))
 have v3:∀ {s4 s5 s6 s7:Option Sl},aG aX (ae 3) (ae 1) [some (.sh (.int c)),some (.sh (.int (m:Nat))),some (.sh (.int (i:Nat))),some (.sh (.int (o:Nat))),s4,s5,s6,s7]=some (.int ((o * m:Nat):Nat),_):=fun {s4 s5 s6 s7}=>bA (g:=aX) rfl rfl (oK (by omega) (by omega))
 have v4:∀ {s4 s5 s6 s7:Option Sl},aG aX (ae 3) (ae 2) [some (.sh (.int c)),some (.sh (.int (m:Nat))),some (.sh (.int (i:Nat))),some (.sh (.int (o:Nat))),s4,s5,s6,s7]=some (.int ((o * i:Nat):Nat),_):=fun {s4 s5 s6 s7}=>bA (g:=aX) rfl rfl (oK (by omega) (by omega))
 have s1:=dg (i:=4) (τ:=[some (.sh (.int c)),some (.sh (.int (m:Nat))),some (.sh (.int (i:Nat))),some (.sh (.int (o:Nat))),none,none,none,none]) (aI (g:=AR) (f:=aa (ae 0) (aa (aG cq (aG cq (aG cq (aG aX (ae 1) (ae 1)) (aG aX (ae 1) (ae 2))) (aG aX (ae 3) (ae 1))) (aG aX (ae 3) (ae 2))) ao)) _ (fM rfl (bA (g:=cq) (bA (g:=cq) (bA (g:=cq) v v2 qX) v3 qX) v4 qX)) e1) rfl
 have s2:=dg (i:=5) (τ:=[some (.sh (.int c)),some (.sh (.int (m:Nat))),some (.sh (.int (i:Nat))),some (.sh (.int (o:Nat))),some (.sh (aD xs)),none,none,none]) (aI (g:=EJ) (f:=aa (ae 4) (aa (ae 1) (aa (ae 1) ao))) _ (iw rfl rfl rfl) q1) rfl
 have s3:=dg (i:=4) (τ:=[some (.sh (.int c)),some (.sh (.int (m:Nat))),some (.sh (.int (i:Nat))),some (.sh (.int (o:Nat))),some (.sh (aD xs)),some (.sh (ai A)),none,none]) (f:=wI (ae 4) (dG (aG aX (ae 1) (ae 1))) gP) (BY (a:=aD xs) rfl (jk v) rfl c1) rfl
 have s4:=dg (i:=6) (τ:=[some (.sh (.int c)),some (.sh (.int (m:Nat))),some (.sh (.int (i:Nat))),some (.sh (.int (o:Nat))),some (.sh (aD x1)),some (.sh (ai A)),none,none]) (aI (g:=EJ) (f:=aa (ae 4) (aa (ae 1) (aa (ae 2) ao))) _ (iw rfl rfl rfl) q2) rfl
 have s5:=dg (i:=4) (τ:=[some (.sh (.int c)),some (.sh (.int (m:Nat))),some (.sh (.int (i:Nat))),some (.sh (.int (o:Nat))),some (.sh (aD x1)),some (.sh (ai A)),some (.sh (ai B)),none]) (f:=wI (ae 4) (dG (aG aX (ae 1) (ae 2))) gP) (BY (a:=aD x1) rfl (jk v2) rfl c2) rfl
 have s6:=dg (i:=7) (τ:=[some (.sh (.int c)),some (.sh (.int (m:Nat))),some (.sh (.int (i:Nat))),some (.sh (.int (o:Nat))),some (.sh (aD x2)),some (.sh (ai A)),some (.sh (ai B)),none]) (aI (g:=EJ) (f:=aa (ae 4) (aa (ae 3) (aa (ae 1) ao))) _ (iw rfl rfl rfl) q3) rfl
 have s7:=aI (g:=EJ) (f:=aa (wI (ae 4) (dG (aG aX (ae 3) (ae 1))) gP) (aa (ae 3) (aa (ae 2) ao))) (ρ:=[some (.sh (.int c)),some (.sh (.int (m:Nat))),some (.sh (.int (i:Nat))),some (.sh (.int (o:Nat))),some (.sh (aD x2)),some (.sh (ai A)),some (.sh (ai B)),some (.sh (ai C))]) _ (iw (BY (a:=aD x2) rfl (jk v3) rfl c3) rfl rfl) q4
 unfold gK
 rw [br s1]
 show aV _ _ [some (.sh (.int c)),some (.sh (.int (m:Nat))),some (.sh (.int (i:Nat))),some (.sh (.int (o:Nat))),some (.sh (aD xs)),none,none,none]=_
 rw [br s2]
 show aV _ _ [some (.sh (.int c)),some (.sh (.int (m:Nat))),some (.sh (.int (i:Nat))),some (.sh (.int (o:Nat))),some (.sh (aD xs)),some (.sh (ai A)),none,none]=_
 rw [br s3]
 show aV _ _ [some (.sh (.int c)),some (.sh (.int (m:Nat))),some (.sh (.int (i:Nat))),some (.sh (.int (o:Nat))),some (.sh (aD x1)),some (.sh (ai A)),none,none]=_
 rw [br s4]
 show aV _ _ [some (.sh (.int c)),some (.sh (.int (m:Nat))),some (.sh (.int (i:Nat))),some (.sh (.int (o:Nat))),some (.sh (aD x1)),some (.sh (ai A)),some (.sh (ai B)),none]=_
 rw [br s5]
 show aV _ _ [some (.sh (.int c)),some (.sh (.int (m:Nat))),some (.sh (.int (i:Nat))),some (.sh (.int (o:Nat))),some (.sh (aD x2)),some (.sh (ai A)),some (.sh (ai B)),none]=_
 rw [br s6]
 exact fQ (IC (uk rfl rfl rfl s7) (by show 4 ≤ 1000; decide))
open PySem PySem.Spec PyProof.Rows L2 TM Qm Rq
def zT (Z:List (List Int)):T:=.lst (Z.map iT)
def ax (A:List (List Rat)):List (List Int):=A.map fun r=>r.map (bu 27720)
theorem Kw {m:Nat} {x:Rat} (h:Lq 1 m x):x.den ∣ 27720 /\ x.num.natAbs ≤ m * 27720:=by
 have hd:(0:Nat) < DD 1:=cO 1
 have e:DD 1=27720:=by decide
 have a:=(Ov.lq h).den hd
 have b:=(Ov.lq h).num hd
 rw [e] at a b
 exact ⟨a,b⟩
theorem K2 {x:Rat} (h:Lq 1 9 x):(bu 27720 x).natAbs ≤ 9 * 27720:=by
 obtain ⟨a,hx,hb⟩:=h
 have e:DD 1=27720:=by decide
 rw [e] at hx hb
 have hd:=(Kw ⟨a,by rw [e]; exact hx,by rw [e]; exact hb⟩:x.den ∣ 27720 /\ _).1
 have h1:=xU (L:=27720) (by decide) hd
 have h2:bu 27720 x=a:=by
  have h3:Rat.divInt (bu 27720 x) ((27720:Nat):Int)=Rat.divInt a ((27720:Nat):Int):=h1.trans hx
  have h4:=(Rat.divInt_eq_divInt_iff (by decide) (by decide)).mp h3
  exact Int.eq_of_mul_eq_mul_right (by decide) h4
 rw [h2]
 exact hb
abbrev EG:List T -> Option T:=cz 1 1 gL
theorem nH {m w:Nat} {A:List (List Rat)} (hA:Tw m w A) (hm:m ≤ 8) (hw:w ≤ 8):EG [ai A]=some (zT (ax A)):=by
 have hc:=bO (φ:=aD) (fe:=bR 2 [] (aW (ae 0)) pZ av (aG aX (ae 0) (aG cP (fC (.int 27720)) (ae 1)))) (g:=fun r=>iT (r.map (bu 27720))) (ρ:=[]) rfl A none [] (fun r hr=>by
  have hc:=gq (φ:=fun x:Rat=>T.int x.num) (ψ:=fun x:Rat=>T.int (x.den:Nat)) (fe:=aG aX (ae 0) (aG cP (fC (.int 27720)) (ae 1))) (g:=fun x=>T.int (bu 27720 x)) (ρ:=[]) rfl r none none [] (fun x hx=>by
   obtain ⟨h1,h2⟩:=Kw (hA.bw.lq r hr x hx)
   have hle:=Nat.le_of_dvd (by decide) h1
   have hpos:=x.den_pos
   have bq:((27720:Int).fdiv ((x.den:Nat):Int)).natAbs < B:=by
    have:=gQ (a:=27720) (g:=((x.den:Nat):Int)) (Int.natCast_dvd_natCast.mpr h1) (by omega)
    exact Nat.lt_of_le_of_lt this (cu (i:=27720) (by decide) (by decide))
   exact bA (g:=aX) rfl (bA (g:=cP) rfl rfl (yz (by omega) (BF (by omega)))) (iS (cu (by omega) (by omega)) bq)) (bW (by rw [hA.bw.wd r hr]; exact hw))
  rw [List.nil_append] at hc
  have e:=bF (no:=2) (cap:=[]) (fi:=aW (ae 0)) (fg:=pZ) (ft:=av) (τ:=[some (.sh (aD r))]) (ts:=r.map fun x:Rat=>T.tup [.int x.num,.int (x.den:Nat)]) rfl rfl rfl hc
  rw [e]
  unfold iT
  rw [List.map_map]
  rfl) (bW (by rw [hA.len]; exact hm))
 rw [List.nil_append] at hc
 have e:=bF (no:=1) (cap:=[]) (fi:=aW (ae 0)) (fg:=aj 0) (ft:=av) (τ:=[some (.sh (ai A))]) (ts:=A.map aD) rfl rfl rfl hc
 refine dN rfl ?_
 show gL [some (.sh (ai A))]=_
 unfold gL
 rw [fQ e]
 unfold zT ax
 rw [List.map_map]
 rfl
structure Zb (N:Nat) (Z:List (List Int)):Prop where
 len:Z.length ≤ 8
 wd:∀ r ∈ Z,r.length ≤ 8
 bd:∀ r ∈ Z,∀ x ∈ r,x.natAbs ≤ N
theorem wc (a b:List Int):(List.zip a b).map (fun p=>p.1 * p.2)=List.zipWith (· * ·) a b:=by
 induction a generalizing b with
 | nil=>simp
 | cons x a ih =>
  cases b with
  | nil=>simp
  | cons y b=>simp [ih]
theorem Fz {N N':Nat} {a b:List Int} (ha:∀ x ∈ a,x.natAbs ≤ N) (hb:∀ x ∈ b,x.natAbs ≤ N'):(wG a b).natAbs ≤ a.length * (N * N'):=by
 have h:=xS (M:=N * N') (List.zipWith (· * ·) a b) (fun n hn=>by
  rw [<- wc] at hn
  obtain ⟨p,hp,rfl⟩:=List.mem_map.mp hn
  rw [Int.natAbs_mul]
  exact Nat.mul_le_mul (ha _ (cV hp).1) (hb _ (cV hp).2))
 refine Nat.le_trans h (Nat.mul_le_mul_right _ ?_)
 rw [List.length_zipWith]
 exact Nat.min_le_left _ _
abbrev Ho:List T -> Option T:=cz 2 2 iz
theorem FF {a b:List Int} (h8:a.length ≤ 8) (ha:∀ x ∈ a,x.natAbs < B) (hb:∀ x ∈ b,x.natAbs < B):Ho [iT a,iT b]=some (.int (wG a b)):=by
 have hc:=gq (φ:=fun p:Int × Int=>T.int p.1) (ψ:=fun p=>T.int p.2) (fe:=aG aX (ae 0) (ae 1)) (g:=fun p=>T.int (p.1 * p.2)) (ρ:=[]) rfl (List.zip a b) none none [] (fun p hp=>bA rfl rfl (iS (ha _ (cV hp).1) (hb _ (cV hp).2))) (bW (nV a b h8))
 rw [List.nil_append] at hc
 have hlst:((List.zip a b).map fun p:Int × Int=>T.int (p.1 * p.2))=(List.zipWith (· * ·) a b).map T.int:=by rw [<- wc,List.map_map]; rfl
 rw [hlst] at hc
 have hz:dP (aa (ae 0) (aa (ae 1) ao)) [some (.sh (iT a)),some (.sh (iT b))]=some ((List.zip a b).map fun p=>T.tup [T.int p.1,T.int p.2],[some (.sh (iT a)),some (.sh (iT b))]):=by
  show some (gG (a.map T.int) (b.map T.int),_)=_
  rw [fS]
 have e:=bF (no:=2) (cap:=[]) (fi:=dP (aa (ae 0) (aa (ae 1) ao))) (fg:=pZ) (ft:=av) (τ:=[some (.sh (iT a)),some (.sh (iT b))]) hz rfl rfl hc
 refine dN rfl ?_
 show iz [some (.sh (iT a)),some (.sh (iT b))]=_
 unfold iz
 refine fQ (aI _ (dS e) (t:=.int (wG a b)) ?_)
 show (intsOf ((List.zipWith (· * ·) a b).map T.int)).bind _=_
 rw [iF]
 rfl
def gY (Z:List (List Int)) (j:Nat):List Int:=Z.map fun r=>r.getD j 0
theorem yt {N:Nat} {Z:List (List Int)} (h:Zb N Z) (j:Nat):(gY Z j).length ≤ 8 /\ ∀ x ∈ gY Z j,x.natAbs ≤ N:=by
 unfold gY
 refine ⟨by rw [List.length_map]; exact h.len,fun x hx=>?_⟩
 obtain ⟨r,hr,rfl⟩:=List.mem_map.mp hx
 by_cases hj:j < r.length
 ·rw [List.getD_eq_getElem?_getD,List.getElem?_eq_getElem hj]
  exact h.bd r hr _ (List.getElem_mem hj)
 ·rw [List.getD_eq_getElem?_getD,List.getElem?_eq_none (by omega)]
  exact Nat.zero_le _
abbrev HP:List T -> Option T:=cz 2 2 eR
theorem CT {Z:List (List Int)} {w:Nat} (h8:Z.length ≤ 8) (hw:w ≤ 8) (hl:∀ r ∈ Z,r.length=w):HP [zT Z,.int (w:Nat)]=some (zT ((List.range w).map fun j=>gY Z j)):=by
 have hc:=bO (φ:=fun j:Nat=>T.int (j:Nat)) (fe:=bR 1 [0] (aW (ae 1)) (aj 0) av (aG bN (ae 0) (ae 1))) (g:=fun j=>iT (gY Z j)) (ρ:=[some (.sh (zT Z))]) rfl (List.range w) none [] (fun j hj=>by
  have hjw:=List.mem_range.mp hj
  have hc:=bO (φ:=iT) (fe:=aG bN (ae 0) (ae 1)) (g:=fun r:List Int=>T.int (r.getD j 0)) (ρ:=[some (.sh (.int (j:Nat)))]) rfl Z none [] (fun r hr=>bA (g:=bN) rfl rfl (Gb (by rw [hl r hr]; exact hjw))) (bW h8)
  rw [List.nil_append] at hc
  have e:=bF (no:=1) (cap:=[0]) (fi:=aW (ae 1)) (fg:=aj 0) (ft:=av) (τ:=[some (.sh (.int (j:Nat))),some (.sh (zT Z))]) (ts:=Z.map iT) rfl rfl rfl hc
  rw [e]
  unfold iT gY
  rw [List.map_map]
  rfl) (bW (by rw [List.length_range]; exact hw))
 rw [List.nil_append] at hc
 have e:=bF (no:=1) (cap:=[0]) (fi:=dB (aa (ae 1) ao)) (fg:=aj 0) (ft:=av) (τ:=[some (.sh (zT Z)),some (.sh (.int (w:Nat)))]) (nR (f:=ae 1) (n:=w) rfl (by omega)) rfl rfl hc
 refine dN rfl ?_
 show eR [some (.sh (zT Z)),some (.sh (.int (w:Nat)))]=_
 unfold eR
 rw [fQ e]
 unfold zT
 rw [List.map_map]
 rfl
def eX (A Z:List (List Int)) (w:Nat):List (List Int):=A.map fun r=>(List.range w).map fun j=>wG r (gY Z j)
abbrev CS:List T -> Option T:=cz 4 3 (gc HP Ho)
theorem qF {N N':Nat} {A Z:List (List Int)} {w:Nat} (hA:Zb N A) (hZ:Zb N' Z) (hN:N < B) (hN':N' < B) (hw:w ≤ 8) (hl:∀ r ∈ Z,r.length=w):CS [zT A,zT Z,.int (w:Nat)]=some (zT (eX A Z w)):=by
 have hcol:=CT hZ.len hw hl
 have s1:=dg (i:=3) (τ:=[some (.sh (zT A)),some (.sh (zT Z)),some (.sh (.int (w:Nat))),none]) (aI (g:=HP) (f:=aa (ae 1) (aa (ae 2) ao)) _ (fM rfl rfl) hcol) rfl
 have hc:=bO (φ:=iT) (fe:=bR 1 [0] (aW (ae 1)) (aj 0) av (ak Ho (aa (ae 1) (aa (ae 0) ao)))) (g:=fun r=>iT ((List.range w).map fun j=>wG r (gY Z j))) (ρ:=[some (.sh (zT ((List.range w).map fun j=>gY Z j)))]) rfl A none [] (fun r hr=>by
  have hc:=bO (φ:=fun j:Nat=>iT (gY Z j)) (fe:=ak Ho (aa (ae 1) (aa (ae 0) ao))) (g:=fun j=>T.int (wG r (gY Z j))) (ρ:=[some (.sh (iT r))]) rfl (List.range w) none [] (fun j hj=>aI _ (fM rfl rfl) (FF (hA.wd r hr) (fun x hx=>Nat.lt_of_le_of_lt (hA.bd r hr x hx) hN) (fun x hx=>Nat.lt_of_le_of_lt ((yt hZ j).2 x hx) hN'))) (bW (by rw [List.length_range]; exact hw))
  rw [List.nil_append] at hc
  have hi:aW (ae 1) [some (.sh (iT r)),some (.sh (zT ((List.range w).map fun j=>gY Z j)))]=some ((List.range w).map fun j=>iT (gY Z j),[some (.sh (iT r)),some (.sh (zT ((List.range w).map fun j=>gY Z j)))]):=by
   show some (((List.range w).map fun j=>gY Z j).map iT,_)=_
   rw [List.map_map]
   rfl
  have e:=bF (no:=1) (cap:=[0]) (fg:=aj 0) (ft:=av) hi rfl rfl hc
  rw [e]
  unfold iT
  rw [List.map_map]
  rfl) (bW hA.len)
 rw [List.nil_append] at hc
 have e:=bF (no:=1) (cap:=[3]) (fi:=aW (ae 0)) (fg:=aj 0) (ft:=av) (τ:=[some (.sh (zT A)),some (.sh (zT Z)),some (.sh (.int (w:Nat))),some (.sh (zT ((List.range w).map fun j=>gY Z j)))]) (ts:=A.map iT) rfl rfl rfl hc
 refine dN rfl ?_
 show gc HP Ho [some (.sh (zT A)),some (.sh (zT Z)),some (.sh (.int (w:Nat))),none]=_
 unfold gc
 rw [br s1]
 show bE _ [some (.sh (zT A)),some (.sh (zT Z)),some (.sh (.int (w:Nat))),some (.sh (zT ((List.range w).map fun j=>gY Z j)))]=_
 rw [fQ e]
 unfold zT eX
 rw [List.map_map]
 rfl
theorem gj {fg:FG} {ft:FT} {fe:FE} {t u:T} {ts acc:List T} {τ τ1 τ2 τ3:aH} (h1:fg t τ=some τ1) (h2:ft τ1=some (true,τ2)) (h3:fe τ2=some (u,τ3)) (h4:cg τ3=true) (h5:acc.length < sizeLine):fm fg ft fe (t :: ts) τ acc=fm fg ft fe ts τ3 (acc ++ [u]):=by
 rw [fm,h1,Option.bind_some,h2,Option.bind_some]
 dsimp only
 rw [if_pos rfl,h3,Option.bind_some]
 exact if_pos ⟨h4,h5⟩
theorem uF (a:Int):zO (cn (ak bg (aa (ae 0) (aa (fC (.ty "int")) ao)))) (cj (cn (ak bg (aa (ae 0) (aa (fC (.ty "bool")) ao))))) [some (.sh (.int a))]=some (true,[some (.sh (.int a))]):=by
 walk_at "ev"
abbrev Fv:List T -> Option T:=cz 5 3 (jA cK)
theorem HW {x:Rat} {v S:Int} (hx:Sm x) (hS:0 < S) (hS':S.natAbs < B) (hv:v.natAbs < B) (e:x=Rat.divInt v S):Fv [bp x,.int v,.int S]=some (.bl true):=by
 have hd:=den_pos x
 have bn:x.num.natAbs < B:=ltB hx.n
 have bd:((x.den:Nat):Int).natAbs < B:=by have:=hx.d; have:=CB; omega
 have hk:=dk bn bd
 rw [show Int.gcd x.num ((x.den:Nat):Int)=1 from x.reduced,show ((1:Nat):Int)=1 from rfl] at hk
 have heq:x.num * S=v * ((x.den:Nat):Int):=by
  have h1:Rat.divInt x.num ((x.den:Nat):Int)=Rat.divInt v S:=(cR x).trans e
  exact (Rat.divInt_eq_divInt_iff (by omega) (by omega)).mp h1
 clear e
 have q0:bp x=.tup [.int x.num,.int ((x.den:Nat):Int)]:=rfl
 rw [q0]
 generalize x.num=a at *
 generalize ((x.den:Nat):Int)=b at *
 have l2:=Iz
 have e1:bY (m7 (cj (cn (ak bg (aa (ae 0) (aa (fC (.ty "tuple")) ao))))) (eP (aG mM (ak bM (aa (ae 0) ao)) (fC (.int 2))))) (bE (fC (.bl false))) bI [some (.sh (.tup [.int a,.int b])),some (.sh (.int v)),some (.sh (.int S)),none,none]=some (.nx [some (.sh (.tup [.int a,.int b])),some (.sh (.int v)),some (.sh (.int S)),none,none]):=rfl
 have e2:bY (eP (aG mM (ak bM (aa (bR 1 [] (aW (ae 0)) (aj 0) (zO (cn (ak bg (aa (ae 0) (aa (fC (.ty "int")) ao)))) (cj (cn (ak bg (aa (ae 0) (aa (fC (.ty "bool")) ao)))))) (ae 0)) ao)) (fC (.int 2)))) (bE (fC (.bl false))) bI [some (.sh (.tup [.int a,.int b])),some (.sh (.int v)),some (.sh (.int S)),none,none]=some (.nx [some (.sh (.tup [.int a,.int b])),some (.sh (.int v)),some (.sh (.int S)),none,none]):=by
  have hcomp:bR 1 [] (aW (ae 0)) (aj 0) (zO (cn (ak bg (aa (ae 0) (aa (fC (.ty "int")) ao)))) (cj (cn (ak bg (aa (ae 0) (aa (fC (.ty "bool")) ao)))))) (ae 0) [some (.sh (.tup [.int a,.int b])),some (.sh (.int v)),some (.sh (.int S)),none,none]=some (.lst [.int a,.int b],[some (.sh (.tup [.int a,.int b])),some (.sh (.int v)),some (.sh (.int S)),none,none]):=by
   refine bF (ts:=[.int a,.int b]) rfl rfl rfl ?_
   have h0:(0:Nat) < sizeLine:=cH (by decide)
   have h1:(1:Nat) < sizeLine:=cH (by decide)
   refine (gj (τ1:=[some (.sh (.int a))]) (τ2:=[some (.sh (.int a))]) (τ3:=[some (.sh (.int a))]) (u:=.int a) (acc:=[]) rfl (uF a) rfl rfl h0).trans ?_
   refine (gj (τ1:=[some (.sh (.int b))]) (τ2:=[some (.sh (.int b))]) (τ3:=[some (.sh (.int b))]) (u:=.int b) (acc:=[.int a]) rfl (uF b) rfl rfl h1).trans ?_
   rfl
  refine uE ?_
  unfold eP
  rw [bA (g:=mM) (aI (g:=bM) [.lst [.int a,.int b]] (dS hcomp) rfl) rfl (rN _ _)]
  rfl
 have e3:jN (ae 0) (bX (ay (aj 3) (ay (aj 4) bS))) [some (.sh (.tup [.int a,.int b])),some (.sh (.int v)),some (.sh (.int S)),none,none]=some (.nx [some (.sh (.tup [.int a,.int b])),some (.sh (.int v)),some (.sh (.int S)),some (.sh (.int a)),some (.sh (.int b))]):=rfl
 refine dN rfl ?_
 show jA cK [some (.sh (.tup [.int a,.int b])),some (.sh (.int v)),some (.sh (.int S)),none,none]=_
 unfold jA
 rw [br e1,br e2,br e3]
 have m1:=iS bn hS'
 have m2:=iS hv bd
 rw [<- heq] at m2
 clear e1 e2 e3 heq hx bn bd hv hS'
 have hb0:b > 0:=hd
 clear hd
 walk_at "ev"
theorem FN {f:FE} {τ:aH} (h:f τ=some (.bl true,τ)):cj (cn f) τ=some (false,τ):=BE h
abbrev CN:List T -> Option T:=cz 5 3 (iy Fv)
theorem uj {S:Int} {x0 x1:Option Sl}:∀ (l:List (Rat × Int)) (u v:Option Sl),(∀ p ∈ l,Fv [bp p.1,.int p.2,.int S]=some (.bl true)) -> ∃ u' v',df (bX (ay (aj 3) (ay (aj 4) bS))) (bY (cj (cn (ak Fv (aa (ae 3) (aa (ae 4) (aa (ae 2) ao)))))) (bE (fC (.bl false))) bI) (l.map fun p=>T.tup [bp p.1,T.int p.2]) [x0,x1,some (.sh (.int S)),u,v]=some (.nx [x0,x1,some (.sh (.int S)),u',v'])
 | [],u,v,_=>⟨u,v,rfl⟩
 | p :: l,u,v,h=>by
  obtain ⟨u',v',ih⟩:=uj (S:=S) (x0:=x0) (x1:=x1) l (some (.sh (bp p.1))) (some (.sh (.int p.2))) (fun y hy=>h y (List.mem_cons_of_mem _ hy))
  refine ⟨u',v',?_⟩
  rw [List.map_cons,dw (τ1:=[x0,x1,some (.sh (.int S)),some (.sh (bp p.1)),some (.sh (.int p.2))]) (τ2:=[x0,x1,some (.sh (.int S)),some (.sh (bp p.1)),some (.sh (.int p.2))]) rfl (jD (aI _ (iw rfl rfl rfl) (h p List.mem_cons_self)))]
  exact ih
theorem oC (n:Nat):mM (.int (n:Nat)) (.int (n:Nat))=some (.bl false):=by
 rw [rN]
 simp
theorem FC {r:List Rat} {vs:List Int} {S:Int} (hl:r.length=vs.length) (h:∀ p ∈ List.zip r vs,Fv [bp p.1,.int p.2,.int S]=some (.bl true)):CN [aD r,iT vs,.int S]=some (.bl true):=by
 obtain ⟨u',v',hL⟩:=uj (S:=S) (x0:=some (.sh (aD r))) (x1:=some (.sh (iT vs))) (List.zip r vs) none none h
 have e1:bY (m7 (cj (cn (ak bg (aa (ae 0) (aa (fC (.ty "list")) ao))))) (eP (aG mM (ak bM (aa (ae 0) ao)) (ak bM (aa (ae 1) ao))))) (bE (fC (.bl false))) bI [some (.sh (aD r)),some (.sh (iT vs)),some (.sh (.int S)),none,none]=some (.nx [some (.sh (aD r)),some (.sh (iT vs)),some (.sh (.int S)),none,none]):=by
  refine lZ (τ':=[some (.sh (aD r)),some (.sh (iT vs)),some (.sh (.int S)),none,none]) rfl ?_
  unfold eP
  have l1:bM [aD r]=some (.int (vs.length:Nat)):=by
   show some (T.int ((r.map bp).length:Nat))=_
   rw [List.length_map,hl]
  have l2:bM [iT vs]=some (.int (vs.length:Nat)):=by
   show some (T.int ((vs.map T.int).length:Nat))=_
   rw [List.length_map]
  rw [bA (g:=mM) (aI [aD r] (dS rfl) l1) (aI [iT vs] (dS rfl) l2) (oC _)]
  rfl
 have hz:dP (aa (ae 0) (aa (ae 1) ao)) [some (.sh (aD r)),some (.sh (iT vs)),some (.sh (.int S)),none,none]=some ((List.zip r vs).map fun p=>T.tup [bp p.1,T.int p.2],[some (.sh (aD r)),some (.sh (iT vs)),some (.sh (.int S)),none,none]):=by
  show some (gG (r.map bp) (vs.map T.int),_)=_
  rw [fS]
 refine dN rfl ?_
 show iy Fv [some (.sh (aD r)),some (.sh (iT vs)),some (.sh (.int S)),none,none]=_
 unfold iy
 rw [br e1,br (kN hz hL)]
 rfl
open PySem PySem.Spec PyProof.Rows L2 TM Qm Rq
def cL (A B:List (List Rat)) (i:Nat):Nat -> List (List Rat)
 | 0=>B
 | k + 1=>mulM A (cL A B i k) i
def ff (A B C D:List (List Rat)) (i:Nat):Nat -> List (List Rat)
 | 0=>D
 | k + 1=>mulM C (cL A B i k) i
def gw (A B:List (List Int)) (i:Nat):Nat -> List (List Int)
 | 0=>B
 | k + 1=>eX A (gw A B i k) i
def qY (A B C D:List (List Int)) (i:Nat):Nat -> List (List Int)
 | 0=>D
 | k + 1=>eX C (gw A B i k) i
def pU (S:Nat) (Z:List (List Int)):List (List Rat):=Z.map fun r=>r.map fun v=>Rat.divInt v (S:Nat)
theorem nL {m w:Nat} {A:List (List Rat)} (hA:Tw m w A):pU 27720 (ax A)=A:=by
 unfold pU ax
 rw [List.map_map]
 refine (List.map_congr_left fun r hr=>?_).trans (List.map_id _)
 show (r.map (bu 27720)).map _=r
 rw [List.map_map]
 refine (List.map_congr_left fun x hx=>?_).trans (List.map_id _)
 exact xU (L:=27720) (by decide) (Kw (hA.bw.lq r hr x hx)).1
theorem Fq {S:Nat} (Z:List (List Int)) (j:Nat):fN (pU S Z) j=(gY Z j).map fun v=>Rat.divInt v (S:Nat):=by
 unfold fN pU gY
 rw [List.map_map,List.map_map]
 refine List.map_congr_left fun r _=>?_
 show (r.map _).getD j 0=Rat.divInt (r.getD j 0) (S:Nat)
 rw [List.getD_eq_getElem?_getD,List.getD_eq_getElem?_getD,List.getElem?_map]
 cases r[j]? with
 | none=>exact (Rat.zero_divInt _).symm
 | some v=>rfl
theorem Bx {S:Nat} {A Z:List (List Int)} {i:Nat} (hS:0 < S):mulM (pU 27720 A) (pU S Z) i=pU (27720 * S) (eX A Z i):=by
 unfold mulM eX
 have e:∀ r:List Int,iY (r.map fun v=>Rat.divInt v ((27720:Nat):Int)) (pU S Z) i=((List.range i).map fun j=>wG r (gY Z j)).map fun v=>Rat.divInt v ((27720 * S:Nat):Int):=fun r=>by
  unfold iY
  rw [List.map_map]
  refine List.map_congr_left fun j _=>?_
  rw [Fq,mF (by decide) (by omega),<- Int.natCast_mul]
  rfl
 rw [show pU 27720 A=A.map fun r=>r.map fun v=>Rat.divInt v ((27720:Nat):Int) from rfl,List.map_map]
 unfold pU
 rw [List.map_map]
 exact List.map_congr_left fun r _=>e r
theorem nD (k:Nat):DD (k + 1)=27720 * DD k:=by
 show 27720 ^ (k + 1)=27720 * 27720 ^ k
 rw [Nat.pow_succ,Nat.mul_comm]
theorem AA:DD 1=27720:=by decide
section
variable {m i o:Nat} {A B C D:List (List Rat)}
theorem tN (h:dc m i o A B C D):∀ k,cL A B i k=pU (DD (k + 1)) (gw (ax A) (ax B) i k)
 | 0=>by
  show B=pU (DD 1) (ax B)
  rw [AA,nL h.b]
 | k + 1=>by
  show mulM A (cL A B i k) i=pU (DD (k + 2)) (eX (ax A) (gw (ax A) (ax B) i k) i)
  rw [tN h k,nD (k + 1),<- Bx (cO _),nL h.a]
theorem AF (h:dc m i o A B C D):∀ k,ff A B C D i k=pU (DD (k + 1)) (qY (ax A) (ax B) (ax C) (ax D) i k)
 | 0=>by
  show D=pU (DD 1) (ax D)
  rw [AA,nL h.d]
 | k + 1=>by
  show mulM C (cL A B i k) i=pU (DD (k + 2)) (eX (ax C) (gw (ax A) (ax B) i k) i)
  rw [tN h k,nD (k + 1),<- Bx (cO _),nL h.c]
end
structure Zs (m w N:Nat) (Z:List (List Int)):Prop where
 len:Z.length=m
 wd:∀ r ∈ Z,r.length=w
 bd:∀ r ∈ Z,∀ x ∈ r,x.natAbs ≤ N
theorem Zs.zb {m w N:Nat} {Z:List (List Int)} (h:Zs m w N Z) (hm:m ≤ 8) (hw:w ≤ 8):Zb N Z:=⟨by rw [h.len]; exact hm,fun r hr=>by rw [h.wd r hr]; exact hw,h.bd⟩
theorem jE {m w:Nat} {A:List (List Rat)} (hA:Tw m w A):Zs m w 249480 (ax A):=by
 unfold ax
 refine ⟨by rw [List.length_map,hA.len],fun r hr=>?_,fun r hr x hx=>?_⟩
 ·obtain ⟨s,hs,rfl⟩:=List.mem_map.mp hr
  rw [List.length_map,hA.bw.wd s hs]
 ·obtain ⟨s,hs,rfl⟩:=List.mem_map.mp hr
  obtain ⟨q,hq,rfl⟩:=List.mem_map.mp hx
  exact K2 (hA.bw.lq s hs q hq)
theorem vW {m n w N:Nat} {A Z:List (List Int)} (hA:Zs m n 249480 A) (hn:n ≤ 3) (hZ:Zs n w N Z) (hn8:n ≤ 8) (hw:w ≤ 8):Zs m w (2 ^ 20 * N) (eX A Z w):=by
 unfold eX
 refine ⟨by rw [List.length_map,hA.len],fun r hr=>?_,fun r hr x hx=>?_⟩
 ·obtain ⟨s,hs,rfl⟩:=List.mem_map.mp hr
  rw [List.length_map,List.length_range]
 ·obtain ⟨s,hs,rfl⟩:=List.mem_map.mp hr
  obtain ⟨j,hj,rfl⟩:=List.mem_map.mp hx
  have h1:=Fz (a:=s) (b:=gY Z j) (hA.bd s hs) (yt (hZ.zb hn8 hw) j).2
  have h2:s.length ≤ 3:=by rw [hA.wd s hs]; exact hn
  have h3:=Nat.mul_le_mul_right (249480 * N) h2
  have h4:3 * (249480 * N) ≤ 2 ^ 20 * N:=by
   rw [<- Nat.mul_assoc]
   exact Nat.mul_le_mul_right N (by decide)
  omega
def NB (k:Nat):Nat:=(2 ^ 20) ^ (k + 1)
theorem yf (k:Nat):NB (k + 1)=2 ^ 20 * NB k:=by
 show (2 ^ 20) ^ (k + 1 + 1)=2 ^ 20 * (2 ^ 20) ^ (k + 1)
 rw [Nat.pow_succ,Nat.mul_comm]
theorem Co {k:Nat} (h:k ≤ 20):8 * NB k < C /\ 8 * (2 ^ 20 * NB k) < C:=by
 have h1:NB k ≤ (2 ^ 20) ^ 21:=Nat.pow_le_pow_right (by decide) (by omega)
 have h2:8 * (2 ^ 20 * (2 ^ 20) ^ 21) < C:=by decide +kernel
 have h3:=Nat.mul_le_mul_left (2 ^ 20) h1
 have h4:NB k ≤ 2 ^ 20 * NB k:=Nat.le_mul_of_pos_left _ (by decide)
 constructor <;> omega
theorem zH {k:Nat} (h:k ≤ 24):DD k < C:=by
 have h1:DD k ≤ 27720 ^ 24:=Nat.pow_le_pow_right (by decide) h
 have h2:27720 ^ 24 < C:=by decide +kernel
 omega
section
variable {m i o:Nat} {A B C D:List (List Rat)}
theorem nQ (h:dc m i o A B C D) (hm:m ≤ 3) (hi:i ≤ 2):∀ k,Zs m i (NB k) (gw (ax A) (ax B) i k)
 | 0=>by
  have z:=jE h.b
  exact ⟨z.len,z.wd,fun r hr x hx=>Nat.le_trans (z.bd r hr x hx) (by decide)⟩
 | k + 1=>by
  rw [yf]
  exact vW (jE h.a) hm (nQ h hm hi k) (by omega) (by omega)
theorem AG (h:dc m i o A B C D) (hm:m ≤ 3) (hi:i ≤ 2):∀ k,Zs o i (NB k) (qY (ax A) (ax B) (ax C) (ax D) i k)
 | 0=>by
  have z:=jE h.d
  exact ⟨z.len,z.wd,fun r hr x hx=>Nat.le_trans (z.bd r hr x hx) (by decide)⟩
 | k + 1=>by
  rw [yf]
  exact vW (jE h.c) hm (nQ h hm hi k) (by omega) (by omega)
end
def dM (A B C D:List (List Rat)) (i k n:Nat):List T:=(List.range' k n).map fun j=>ai (ff A B C D i j)
theorem qS {dA:List T -> Option T} {S:Int} {x0 x1 x2 x3 x4 x5 x6 x7 x8 x10 x11:Option Sl}:∀ (l:List (List Rat × List Int)) (u v:Option Sl),(∀ p ∈ l,dA [aD p.1,iT p.2,.int S]=some (.bl true)) -> ∃ u' v',df (bX (ay (aj 12) (ay (aj 13) bS))) (bY (cj (cn (ak dA (aa (ae 12) (aa (ae 13) (aa (ae 9) ao)))))) (bE (fC (.bl false))) bI) (l.map fun p=>T.tup [aD p.1,iT p.2]) [x0,x1,x2,x3,x4,x5,x6,x7,x8,some (.sh (.int S)),x10,x11,u,v]=some (.nx [x0,x1,x2,x3,x4,x5,x6,x7,x8,some (.sh (.int S)),x10,x11,u',v'])
 | [],u,v,_=>⟨u,v,rfl⟩
 | p :: l,u,v,h=>by
  obtain ⟨u',v',ih⟩:=qS (dA:=dA) (S:=S) (x0:=x0) (x1:=x1) (x2:=x2) (x3:=x3) (x4:=x4) (x5:=x5) (x6:=x6) (x7:=x7) (x8:=x8) (x10:=x10) (x11:=x11) l (some (.sh (aD p.1))) (some (.sh (iT p.2))) (fun y hy=>h y (List.mem_cons_of_mem _ hy))
  refine ⟨u',v',?_⟩
  rw [List.map_cons,dw (τ1:=[x0,x1,x2,x3,x4,x5,x6,x7,x8,some (.sh (.int S)),x10,x11,some (.sh (aD p.1)),some (.sh (iT p.2))]) (τ2:=[x0,x1,x2,x3,x4,x5,x6,x7,x8,some (.sh (.int S)),x10,x11,some (.sh (aD p.1)),some (.sh (iT p.2))]) rfl (jD (aI _ (iw rfl rfl rfl) (h p List.mem_cons_self)))]
  exact ih
theorem Fm {S N:Nat} {r:List Int} (hS:0 < S) (hSC:S < C) (hN:N < C) (hb:∀ x ∈ r,x.natAbs ≤ N):CN [aD (r.map fun v=>Rat.divInt v (S:Nat)),iT r,.int (S:Nat)]=some (.bl true):=by
 have cb:=CB
 refine FC (by rw [List.length_map]) fun p hp=>?_
 obtain ⟨v,hv,rfl⟩:∃ v ∈ r,p=(Rat.divInt v (S:Nat),v):=by
  clear hb
  induction r with
  | nil=>simp at hp
  | cons x r ih =>
   rw [List.map_cons,List.zip_cons_cons] at hp
   rcases List.mem_cons.mp hp with rfl | hp
   ·exact ⟨x,List.mem_cons_self,rfl⟩
   ·obtain ⟨v,hv,e⟩:=ih hp
    exact ⟨v,List.mem_cons_of_mem _ hv,e⟩
 have bv:=hb v hv
 exact HW (Ov.sm hS hSC hN ⟨v,rfl,bv⟩) (by omega) (by rw [Int.natAbs_natCast]; omega) (by omega) rfl
theorem Cf {S:Nat}:∀ {Z:List (List Int)} {p:List Rat × List Int},p ∈ List.zip (pU S Z) Z -> ∃ r ∈ Z,p=(r.map fun v=>Rat.divInt v (S:Nat),r)
 | [],p,h=>by simp [pU] at h
 | r :: Z,p,h=>by
  unfold pU at h
  rw [List.map_cons,List.zip_cons_cons] at h
  rcases List.mem_cons.mp h with rfl | h
  ·exact ⟨r,List.mem_cons_self,rfl⟩
  ·obtain ⟨s,hs,e⟩:=Cf (S:=S) (Z:=Z) h
   exact ⟨s,List.mem_cons_of_mem _ hs,e⟩
def lN:FS:=(aV (bY (m7 (cj (cn (ak bg (aa (ae 11) (aa (fC (.ty "list")) ao))))) (eP (aG mM (ak bM (aa (ae 11) ao)) (ak bM (aa (ae 8) ao))))) (bE (fC (.bl false))) bI)
  (aV (fO (dP (aa (ae 11) (aa (ae 8) ao))) (bX (ay (aj 12) (ay (aj 13) bS))) (bY (cj (cn (ak CN (aa (ae 12) (aa (ae 13) (aa (ae 9) ao)))))) (bE (fC (.bl false))) bI))
  (aV (bh 8 (ak CS (aa (ae 6) (aa (ae 10) (aa (ae 3) ao)))))
  (aV (bh 10 (ak CS (aa (ae 4) (aa (ae 10) (aa (ae 3) ao)))))
  (bh 9 (aG aX (ae 9) (fC (.int 27720))))))))
abbrev Ft:List T -> Option T:=cz 14 4 (eQ EG CN CS)
theorem CF:eQ EG CN CS=(aV (bY (m7 (cj (cn (ak bg (aa (ae 0) (aa (fC (.ty "list")) ao))))) (eP (aG mM (ak bM (aa (ae 0) ao)) (ae 2)))) (bE (fC (.bl false))) bI)
  (aV (jN (bR 1 [] (aW (ae 1)) (aj 0) av (ak EG (aa (ae 0) ao))) (uD (ay (aj 4) (ay (aj 5) (ay (aj 6) (ay (aj 7) bS))))))
  (aV (bh 8 (ae 7))
  (aV (bh 9 (fC (.int 27720)))
  (aV (bh 10 (ae 5))
  (aV (fO (aW (ae 0)) (aj 11) lN)
  (bE (fC (.bl true))))))))):=rfl
section
variable {m i o:Nat} {A B C D:List (List Rat)}
theorem Gq (Z:List (List Int)):bM [zT Z]=some (.int (Z.length:Nat)):=by
 show some (T.int ((Z.map iT).length:Nat))=_
 rw [List.length_map]
theorem Cu (h:dc m i o A B C D) (hm:m ≤ 3) (hi:i ≤ 2) (ho:o ≤ 2) {k:Nat} (hk:k ≤ 16) (x0 x1 x2 x5 x7 u v:Option Sl):∃ u' v',lN [x0,x1,x2,some (.sh (.int (i:Nat))),some (.sh (zT (ax A))),x5,some (.sh (zT (ax C))),x7,some (.sh (zT (qY (ax A) (ax B) (ax C) (ax D) i k))),some (.sh (.int (DD (k + 1):Nat))),some (.sh (zT (gw (ax A) (ax B) i k))),some (.sh (ai (ff A B C D i k))),u,v]
  = some (.nx [x0,x1,x2,some (.sh (.int (i:Nat))),some (.sh (zT (ax A))),x5,some (.sh (zT (ax C))),x7,some (.sh (zT (qY (ax A) (ax B) (ax C) (ax D) i (k + 1)))),some (.sh (.int (DD (k + 2):Nat))),some (.sh (zT (gw (ax A) (ax B) i (k + 1)))),some (.sh (ai (ff A B C D i k))),u',v']):=by
 have zp:=nQ h hm hi k
 have za:=AG h hm hi k
 have nb:=Co (k:=k) (by omega)
 have dd:=zH (k:=k + 1) (by omega)
 have cb:=CB
 have t1:=qF ((jE h.c).zb (by omega) (by omega)) (zp.zb (by omega) (by omega)) (cu (i:=249480) (by decide) (by decide)) (by omega) (show i ≤ 8 by omega) zp.wd
 have t2:=qF ((jE h.a).zb (by omega) (by omega)) (zp.zb (by omega) (by omega)) (cu (i:=249480) (by decide) (by decide)) (by omega) (show i ≤ 8 by omega) zp.wd
 have eo:=AF h k
 have hall:∀ p ∈ List.zip (ff A B C D i k) (qY (ax A) (ax B) (ax C) (ax D) i k),CN [aD p.1,iT p.2,.int (DD (k + 1):Nat)]=some (.bl true):=fun p hp=>by
  rw [eo] at hp
  obtain ⟨r,hr,rfl⟩:=Cf hp
  exact Fm (cO _) dd (by omega) (za.bd r hr)
 have hlen:(ff A B C D i k).length=(qY (ax A) (ax B) (ax C) (ax D) i k).length:=by
  rw [eo]
  unfold pU
  rw [List.length_map]
 rw [show qY (ax A) (ax B) (ax C) (ax D) i (k + 1)=eX (ax C) (gw (ax A) (ax B) i k) i from rfl,show gw (ax A) (ax B) i (k + 1)=eX (ax A) (gw (ax A) (ax B) i k) i from rfl]
 generalize eX (ax C) (gw (ax A) (ax B) i k) i=Z1 at *
 generalize eX (ax A) (gw (ax A) (ax B) i k) i=Z2 at *
 generalize qY (ax A) (ax B) (ax C) (ax D) i k=Z at *
 generalize gw (ax A) (ax B) i k=P at *
 generalize ff A B C D i k=X at *
 obtain ⟨u',v',hL⟩:=qS (dA:=CN) (S:=(DD (k + 1):Nat)) (x0:=x0) (x1:=x1) (x2:=x2) (x3:=some (.sh (.int (i:Nat)))) (x4:=some (.sh (zT (ax A)))) (x5:=x5) (x6:=some (.sh (zT (ax C)))) (x7:=x7) (x8:=some (.sh (zT Z))) (x10:=some (.sh (zT P))) (x11:=some (.sh (ai X))) (List.zip X Z) u v hall
 refine ⟨u',v',?_⟩
 have e1:bY (m7 (cj (cn (ak bg (aa (ae 11) (aa (fC (.ty "list")) ao))))) (eP (aG mM (ak bM (aa (ae 11) ao)) (ak bM (aa (ae 8) ao))))) (bE (fC (.bl false))) bI [x0,x1,x2,some (.sh (.int (i:Nat))),some (.sh (zT (ax A))),x5,some (.sh (zT (ax C))),x7,some (.sh (zT Z)),some (.sh (.int (DD (k + 1):Nat))),some (.sh (zT P)),some (.sh (ai X)),u,v]=some (.nx [x0,x1,x2,some (.sh (.int (i:Nat))),some (.sh (zT (ax A))),x5,some (.sh (zT (ax C))),x7,some (.sh (zT Z)),some (.sh (.int (DD (k + 1):Nat))),some (.sh (zT P)),some (.sh (ai X)),u,v]):=by
  refine lZ (τ':=[x0,x1,x2,some (.sh (.int (i:Nat))),some (.sh (zT (ax A))),x5,some (.sh (zT (ax C))),x7,some (.sh (zT Z)),some (.sh (.int (DD (k + 1):Nat))),some (.sh (zT P)),some (.sh (ai X)),u,v]) rfl ?_
  unfold eP
  have l1:=len_tab X
  rw [hlen] at l1
  rw [bA (g:=mM) (aI [ai X] (dS rfl) l1) (aI [zT Z] (dS rfl) (Gq Z)) (oC _)]
  rfl
 have hz:dP (aa (ae 11) (aa (ae 8) ao)) [x0,x1,x2,some (.sh (.int (i:Nat))),some (.sh (zT (ax A))),x5,some (.sh (zT (ax C))),x7,some (.sh (zT Z)),some (.sh (.int (DD (k + 1):Nat))),some (.sh (zT P)),some (.sh (ai X)),u,v]=some ((List.zip X Z).map fun p=>T.tup [aD p.1,iT p.2],[x0,x1,x2,some (.sh (.int (i:Nat))),some (.sh (zT (ax A))),x5,some (.sh (zT (ax C))),x7,some (.sh (zT Z)),some (.sh (.int (DD (k + 1):Nat))),some (.sh (zT P)),some (.sh (ai X)),u,v]):=by
  show some (gG (X.map aD) (Z.map iT),_)=_
  rw [fS]
 have e2:=kN hz hL
 have e3:=dg (i:=8) (τ:=[x0,x1,x2,some (.sh (.int (i:Nat))),some (.sh (zT (ax A))),x5,some (.sh (zT (ax C))),x7,some (.sh (zT Z)),some (.sh (.int (DD (k + 1):Nat))),some (.sh (zT P)),some (.sh (ai X)),u',v']) (aI (g:=CS) (f:=aa (ae 6) (aa (ae 10) (aa (ae 3) ao))) _ (iw rfl rfl rfl) t1) rfl
 have e4:=dg (i:=10) (τ:=[x0,x1,x2,some (.sh (.int (i:Nat))),some (.sh (zT (ax A))),x5,some (.sh (zT (ax C))),x7,some (.sh (zT Z1)),some (.sh (.int (DD (k + 1):Nat))),some (.sh (zT P)),some (.sh (ai X)),u',v']) (aI (g:=CS) (f:=aa (ae 4) (aa (ae 10) (aa (ae 3) ao))) _ (iw rfl rfl rfl) t2) rfl
 have e5:bh 9 (aG aX (ae 9) (fC (.int 27720))) [x0,x1,x2,some (.sh (.int (i:Nat))),some (.sh (zT (ax A))),x5,some (.sh (zT (ax C))),x7,some (.sh (zT Z1)),some (.sh (.int (DD (k + 1):Nat))),some (.sh (zT Z2)),some (.sh (ai X)),u',v']=some (.nx [x0,x1,x2,some (.sh (.int (i:Nat))),some (.sh (zT (ax A))),x5,some (.sh (zT (ax C))),x7,some (.sh (zT Z1)),some (.sh (.int (DD (k + 2):Nat))),some (.sh (zT Z2)),some (.sh (ai X)),u',v']):=by
  have ee:((DD (k + 2):Nat):Int)=((DD (k + 1):Nat):Int) * 27720:=by
   rw [nD (k + 1),Int.natCast_mul,Int.mul_comm]
   rfl
  rw [ee]
  exact dg (bA (g:=aX) rfl rfl (iS (by rw [Int.natAbs_natCast]; omega) (cu (by decide) (by decide)))) rfl
 unfold lN
 rw [br e1,br e2,br e3]
 show aV _ _ [x0,x1,x2,some (.sh (.int (i:Nat))),some (.sh (zT (ax A))),x5,some (.sh (zT (ax C))),x7,some (.sh (zT Z1)),some (.sh (.int (DD (k + 1):Nat))),some (.sh (zT P)),some (.sh (ai X)),u',v']=_
 rw [br e4]
 exact e5
theorem yj (h:dc m i o A B C D) (hm:m ≤ 3) (hi:i ≤ 2) (ho:o ≤ 2) (x0 x1 x2 x5 x7:Option Sl):∀ (n k:Nat) (w u v:Option Sl),k + n ≤ 16 -> ∃ y8 y9 y10 y11 u' v',df (aj 11) lN (dM A B C D i k n) [x0,x1,x2,some (.sh (.int (i:Nat))),some (.sh (zT (ax A))),x5,some (.sh (zT (ax C))),x7,some (.sh (zT (qY (ax A) (ax B) (ax C) (ax D) i k))),some (.sh (.int (DD (k + 1):Nat))),some (.sh (zT (gw (ax A) (ax B) i k))),w,u,v]
  = some (.nx [x0,x1,x2,some (.sh (.int (i:Nat))),some (.sh (zT (ax A))),x5,some (.sh (zT (ax C))),x7,y8,y9,y10,y11,u',v'])
 | 0,k,w,u,v,_=>⟨_,_,_,_,_,_,rfl⟩
 | n + 1,k,w,u,v,hk=>by
  obtain ⟨u1,v1,e⟩:=Cu h hm hi ho (k:=k) (by omega) x0 x1 x2 x5 x7 u v
  obtain ⟨y8,y9,y10,y11,u',v',ih⟩:=yj h hm hi ho x0 x1 x2 x5 x7 n (k + 1) (some (.sh (ai (ff A B C D i k)))) u1 v1 (by omega)
  refine ⟨y8,y9,y10,y11,u',v',?_⟩
  rw [show dM A B C D i k (n + 1)=ai (ff A B C D i k) :: dM A B C D i (k + 1) n from by unfold dM; rw [List.range'_succ]; rfl]
  rw [dw rfl e]
  exact ih
theorem HV (h:dc m i o A B C D) (hm:m ≤ 3) (hi:i ≤ 2) (ho:o ≤ 2) {n:Nat} (hn:n ≤ 16):Ft [.lst (dM A B C D i 0 n),bQ A B C D,.int (n:Nat),.int (i:Nat)]=some (.bl true):=by
 obtain ⟨y8,y9,y10,y11,u',v',hL⟩:=yj h hm hi ho (some (.sh (.lst (dM A B C D i 0 n)))) (some (.sh (bQ A B C D))) (some (.sh (.int (n:Nat)))) (some (.sh (zT (ax B)))) (some (.sh (zT (ax D)))) n 0 none none none (by omega)
 have hl:(dM A B C D i 0 n).length=n:=by unfold dM; rw [List.length_map,List.length_range']
 generalize dM A B C D i 0 n=X at *
 have e1:bY (m7 (cj (cn (ak bg (aa (ae 0) (aa (fC (.ty "list")) ao))))) (eP (aG mM (ak bM (aa (ae 0) ao)) (ae 2)))) (bE (fC (.bl false))) bI [some (.sh (.lst X)),some (.sh (bQ A B C D)),some (.sh (.int (n:Nat))),some (.sh (.int (i:Nat))),none,none,none,none,none,none,none,none,none,none]=some (.nx [some (.sh (.lst X)),some (.sh (bQ A B C D)),some (.sh (.int (n:Nat))),some (.sh (.int (i:Nat))),none,none,none,none,none,none,none,none,none,none]):=by
  refine lZ (τ':=[some (.sh (.lst X)),some (.sh (bQ A B C D)),some (.sh (.int (n:Nat))),some (.sh (.int (i:Nat))),none,none,none,none,none,none,none,none,none,none]) rfl ?_
  unfold eP
  have l1:bM [.lst X]=some (.int (n:Nat)):=by
   show some (T.int (X.length:Nat))=_
   rw [hl]
  rw [bA (g:=mM) (aI [.lst X] (dS rfl) l1) rfl (oC _)]
  rfl
 have hc:fm (aj 0) av (ak EG (aa (ae 0) ao)) [ai A,ai B,ai C,ai D] [none] []=some [zT (ax A),zT (ax B),zT (ax C),zT (ax D)]:=by
  have i1:=nH h.a (by omega) (by omega)
  have i2:=nH h.b (by omega) (by omega)
  have i3:=nH h.c (by omega) (by omega)
  have i4:=nH h.d (by omega) (by omega)
  have s0:(0:Nat) < sizeLine:=cH (by decide)
  have s1:(1:Nat) < sizeLine:=cH (by decide)
  have s2:(2:Nat) < sizeLine:=cH (by decide)
  have s3:(3:Nat) < sizeLine:=cH (by decide)
  refine (gj (acc:=[]) (τ1:=[some (.sh (ai A))]) (τ2:=[some (.sh (ai A))]) rfl rfl (aI _ (dS rfl) i1) rfl s0).trans ?_
  refine (gj (acc:=[zT (ax A)]) (τ1:=[some (.sh (ai B))]) (τ2:=[some (.sh (ai B))]) rfl rfl (aI _ (dS rfl) i2) rfl s1).trans ?_
  refine (gj (acc:=[zT (ax A),zT (ax B)]) (τ1:=[some (.sh (ai C))]) (τ2:=[some (.sh (ai C))]) rfl rfl (aI _ (dS rfl) i3) rfl s2).trans ?_
  refine (gj (acc:=[zT (ax A),zT (ax B),zT (ax C)]) (τ1:=[some (.sh (ai D))]) (τ2:=[some (.sh (ai D))]) rfl rfl (aI _ (dS rfl) i4) rfl s3).trans ?_
  rfl
 have e2:jN (bR 1 [] (aW (ae 1)) (aj 0) av (ak EG (aa (ae 0) ao))) (uD (ay (aj 4) (ay (aj 5) (ay (aj 6) (ay (aj 7) bS))))) [some (.sh (.lst X)),some (.sh (bQ A B C D)),some (.sh (.int (n:Nat))),some (.sh (.int (i:Nat))),none,none,none,none,none,none,none,none,none,none]=some (.nx [some (.sh (.lst X)),some (.sh (bQ A B C D)),some (.sh (.int (n:Nat))),some (.sh (.int (i:Nat))),some (.sh (zT (ax A))),some (.sh (zT (ax B))),some (.sh (zT (ax C))),some (.sh (zT (ax D))),none,none,none,none,none,none]):=by
  have e:=bF (no:=1) (cap:=[]) (fi:=aW (ae 1)) (fg:=aj 0) (ft:=av) (τ:=[some (.sh (.lst X)),some (.sh (bQ A B C D)),some (.sh (.int (n:Nat))),some (.sh (.int (i:Nat))),none,none,none,none,none,none,none,none,none,none]) rfl rfl rfl hc
  unfold jN
  rw [e]
  rfl
 have e3:fO (aW (ae 0)) (aj 11) lN [some (.sh (.lst X)),some (.sh (bQ A B C D)),some (.sh (.int (n:Nat))),some (.sh (.int (i:Nat))),some (.sh (zT (ax A))),some (.sh (zT (ax B))),some (.sh (zT (ax C))),some (.sh (zT (ax D))),some (.sh (zT (ax D))),some (.sh (.int 27720)),some (.sh (zT (ax B))),none,none,none]=_:=kN (ts:=X) rfl hL
 refine dN rfl ?_
 show eQ EG CN CS [some (.sh (.lst X)),some (.sh (bQ A B C D)),some (.sh (.int (n:Nat))),some (.sh (.int (i:Nat))),none,none,none,none,none,none,none,none,none,none]=_
 rw [CF,br e1,br e2]
 show aV (fO (aW (ae 0)) (aj 11) lN) _ [some (.sh (.lst X)),some (.sh (bQ A B C D)),some (.sh (.int (n:Nat))),some (.sh (.int (i:Nat))),some (.sh (zT (ax A))),some (.sh (zT (ax B))),some (.sh (zT (ax C))),some (.sh (zT (ax D))),some (.sh (zT (ax D))),some (.sh (.int 27720)),some (.sh (zT (ax B))),none,none,none]=_
 rw [br e3]
 rfl
end
open PySem PySem.Spec PyProof.Rows L2 TM Qm Rq
theorem jc {fa fb:FE} {τ τ':aH} (h:fa τ=some (.bl true,τ')):dZ fa fb τ=fb τ':=by
 unfold dZ
 rw [h]
 rfl
theorem Fl {fa fb:FE} {τ τ':aH} (h:fa τ=some (.bl false,τ')):dZ fa fb τ=some (.bl false,τ'):=by
 unfold dZ
 rw [h]
 rfl
theorem Dh (ts:List T):bM [.lst ts]=some (.int (ts.length:Nat)):=rfl
theorem Di (r:List Rat):bM [aD r]=some (.int (r.length:Nat)):=by
 show some (T.int ((r.map bp).length:Nat))=_
 rw [List.length_map]
theorem AU (a b:Nat):mL (.int (a:Nat)) (.int (b:Nat))=some (.bl (decide (a=b))):=by
 rw [nK]
 exact congrArg (fun z=>some (T.bl z)) (decide_eq_decide.mpr (by omega))
abbrev AN:List T -> Option T:=cz 2 2 (uo EE)
def Bm:FE:=bR 1 [] (aW (ae 0)) (aj 0) av (ak EE (aa (ae 0) ao))
theorem Iv (t:T) (n:Nat):AN [t,.int (n:Nat)]=((bE (dZ (ak bg (aa (ae 0) (aa (fC (.ty "list")) ao))) (dZ (aG mL (ak bM (aa (ae 0) ao)) (ae 1)) (ak om (aa Bm ao)))) [some (.sh t),some (.sh (.int (n:Nat)))]).bind fun r=>match r with | .rt t=>some t | .nx _=>some .non | _=>none):=rfl
theorem F9 {α:Type} {φ:α -> T} {f:α -> Bool} (l:List α) (hl:l.length ≤ 8) (h:∀ x ∈ l,EE [φ x]=some (.bl (f x))) (n:Nat):AN [.lst (l.map φ),.int (n:Nat)]=some (.bl (decide (l.length=n) && l.all f)):=by
 have c1:=bO (φ:=φ) (fe:=ak EE (aa (ae 0) ao)) (g:=fun x=>T.bl (f x)) (ρ:=[]) rfl l none [] (fun x hx=>aI [φ x] rfl (h x hx)) (bW hl)
 have e1:=bF (no:=1) (cap:=[]) (fi:=aW (ae 0)) (fg:=aj 0) (ft:=av) (τ:=[some (.sh (.lst (l.map φ))),some (.sh (.int (n:Nat)))]) (h1:=rfl) rfl rfl c1
 rw [List.nil_append] at e1
 have e2:ak bg (aa (ae 0) (aa (fC (.ty "list")) ao)) [some (.sh (.lst (l.map φ))),some (.sh (.int (n:Nat)))]=some (.bl true,[some (.sh (.lst (l.map φ))),some (.sh (.int (n:Nat)))]):=rfl
 have e3:aG mL (ak bM (aa (ae 0) ao)) (ae 1) [some (.sh (.lst (l.map φ))),some (.sh (.int (n:Nat)))]=some (.bl (decide (l.length=n)),[some (.sh (.lst (l.map φ))),some (.sh (.int (n:Nat)))]):=bA (aI _ (dS rfl) (Dh _)) rfl (by rw [List.length_map]; exact AU _ _)
 rw [Iv]
 unfold bE
 rw [jc e2]
 by_cases hn:l.length=n
 ·rw [decide_eq_true hn] at e3
  rw [jc e3,show ak om (aa Bm ao) [some (.sh (.lst (l.map φ))),some (.sh (.int (n:Nat)))]=_ from aI _ (dS e1) (all_map f l),decide_eq_true hn]
  rfl
 ·rw [decide_eq_false hn] at e3
  rw [Fl e3,decide_eq_false hn]
  rfl
theorem sP {alts:List (Addr × (List T -> Option T))} {m:Str} {fo:FE} {g:FA} {τ τ1 τ2:aH} {C:Addr} {ns:List Str} {ts qs:List T} {d:List T -> Option T} {t:T} (h:fo τ=some (.obj C ns ts,τ1)) (hm:¬ m ∈ ns) (hf:uA C alts=some d) (hg:g τ1=some (qs,τ2)) (hd:d (.obj C ns ts :: qs)=some t):fP alts m fo g τ=some (t,τ2):=by
 unfold fP
 rw [h,Option.bind_some]
 dsimp only
 rw [if_neg hm,hf,Option.bind_some,hg,Option.bind_some]
 dsimp only
 rw [hd]
 rfl
theorem Gr {f:FE} {τ:aH} {u:T} (h:f τ=some (u,τ)):kl (aa f ao) τ=some (.lst [u],τ):=by
 unfold kl
 rw [dS h,Option.bind_some]
 exact if_pos Ks
theorem JC (a b:Int) (τ:aH):fz (aa (fC (.int a)) (aa (fC (.int b)) ao)) τ=some (.tup [.int a,.int b],τ):=by
 unfold fz
 rw [fM (f:=fC (.int a)) (g:=fC (.int b)) rfl rfl,Option.bind_some]
 exact if_pos Iz
theorem IY {c1 c2:FT} {τ τ' τ'':aH} (h1:c1 τ=some (false,τ')) (h2:c2 τ'=some (false,τ'')):m7 c1 c2 τ=some (false,τ''):=by
 unfold m7
 rw [h1,Option.bind_some]
 exact (if_neg Bool.false_ne_true).trans h2
theorem yq {a b c:Int} {fb fc:FE} {τ:aH} (hb:fb τ=some (.int b,τ)) (hc:fc τ=some (.int c,τ)) (h1:a ≤ b) (h2:b ≤ c):fU we we (fC (.int a)) fb fc τ=some (.bl true,τ):=by
 unfold fU
 rw [show fC (.int a) τ=some (.int a,τ) from rfl,Option.bind_some,hb,Option.bind_some]
 rw [show we (.int a) (.int b)=some (.bl (decide (a ≤ b))) from rfl,decide_eq_true h1,Option.bind_some]
 dsimp only
 rw [hc,Option.bind_some,show we (.int b) (.int c)=some (.bl (decide (b ≤ c))) from rfl,decide_eq_true h2]
 rfl
theorem BC {f:FE} {τ τ':aH} (h:f τ=some (.bl true,τ')):cj (eP f) τ=some (false,τ'):=by
 unfold cj eP
 rw [h]
 rfl
theorem EI {m n:Nat} {fb:FS} {ts:List T} {τ:aH} (hl:ts.length=n) (h:fb (ts.map (fun t=>some (Sl.sh t)) ++ List.replicate (m - n) none)=some (.nx τ)):cz m n fb ts=some .non:=by
 unfold cz
 rw [if_pos hl,h]
 rfl
theorem yO {x:Rat} (h:Lq 1 9 x):Sm x:=(Ov.lq h).sm (cO 1) (by decide +kernel) (by decide +kernel)
theorem AW {r:List Rat} {w:Nat} (hl:r.length=w) (h8:w ≤ 8) (h:∀ x ∈ r,Sm x):AN [aD r,.int (w:Nat)]=some (.bl true):=by
 have e:=F9 (φ:=bp) (f:=fun _=>true) r (by omega) (fun x hx=>Kp (h x hx)) w
 rw [decide_eq_true hl,show (r.all fun _=>true)=true by simp] at e
 exact e
abbrev JL:List T -> Option T:=cz 3 3 (iB AN)
theorem yA {m w:Nat} {A:List (List Rat)} (h:Tw m w A) (hm:m ≤ 8) (hw:w ≤ 8):JL [ai A,.int (m:Nat),.int (w:Nat)]=some (.bl true):=by
 have c1:=bO (φ:=aD) (fe:=ak AN (aa (ae 0) (aa (ae 1) ao))) (g:=fun _=>T.bl true) (ρ:=[some (.sh (.int (w:Nat)))]) rfl A none [] (fun r hr=>aI [aD r,.int (w:Nat)] rfl (AW (h.bw.wd r hr) hw fun x hx=>yO (h.bw.lq r hr x hx))) (bW (by rw [h.len]; exact hm))
 have e1:=bF (no:=1) (cap:=[2]) (fi:=aW (ae 0)) (fg:=aj 0) (ft:=av) (τ:=[some (.sh (ai A)),some (.sh (.int (m:Nat))),some (.sh (.int (w:Nat)))]) (ts:=A.map aD) rfl rfl rfl c1
 rw [List.nil_append] at e1
 have e2:ak bg (aa (ae 0) (aa (fC (.ty "list")) ao)) [some (.sh (ai A)),some (.sh (.int (m:Nat))),some (.sh (.int (w:Nat)))]=some (.bl true,[some (.sh (ai A)),some (.sh (.int (m:Nat))),some (.sh (.int (w:Nat)))]):=rfl
 have e3:aG mL (ak bM (aa (ae 0) ao)) (ae 1) [some (.sh (ai A)),some (.sh (.int (m:Nat))),some (.sh (.int (w:Nat)))]=some (.bl true,[some (.sh (ai A)),some (.sh (.int (m:Nat))),some (.sh (.int (w:Nat)))]):=bA (aI _ (dS rfl) (len_tab A)) rfl (by rw [AU,decide_eq_true h.len])
 have e4:=aI (g:=om) _ (dS e1) (all_map (fun _=>true) A)
 rw [show (A.all fun _=>true)=true by simp] at e4
 refine dN rfl ?_
 show iB AN [some (.sh (ai A)),some (.sh (.int (m:Nat))),some (.sh (.int (w:Nat)))]=_
 unfold iB
 exact fQ ((jc e2).trans ((jc e3).trans e4))
abbrev AO:List T -> Option T:=cz 7 4 (gO JL)
section
variable {m i o:Nat} {A B C D:List (List Rat)}
theorem dc.row0 (h:dc m i o A B C D) (ho:0 < o):(D.getD 0 []).length=i:=by
 have hl:=h.d.len
 cases D with
 | nil=>simp at hl; omega
 | cons d D=>exact h.d.bw.wd d List.mem_cons_self
theorem FH (h:dc m i o A B C D) (hm:m ≤ 8) (hi:1 ≤ i /\ i ≤ 2) (ho:1 ≤ o /\ o ≤ 2):AO [ai A,ai B,ai C,ai D]=some (.bl true):=by
 have t1:=yA h.a hm hm
 have t2:=yA h.b hm (by omega)
 have t3:=yA h.c (by omega) hm
 have t4:=yA h.d (by omega) (by omega)
 have lA:=len_tab A
 have lD:=len_tab D
 have lR:=Di (D.getD 0 [])
 have ix:bN (ai D) (.int 0)=some (aD (D.getD 0 [])):=sL (i:=0) (by rw [h.d.len]; omega)
 rw [h.row0 (by omega)] at lR
 rw [h.a.len] at lA
 rw [h.d.len] at lD
 have iR:bg [aD (D.getD 0 []),.ty "list"]=some (.bl true):=rfl
 generalize D.getD 0 []=R at *
 have hi1:(1:Int) ≤ ((i:Nat):Int):=by omega
 have hi2:((i:Nat):Int) ≤ 2:=by omega
 have ho1:(1:Int) ≤ ((o:Nat):Int):=by omega
 have ho2:((o:Nat):Int) ≤ 2:=by omega
 have v3:∀ {s4 s5 s6:Option Sl},aG bN (ae 3) (fC (.int 0)) [some (.sh (ai A)),some (.sh (ai B)),some (.sh (ai C)),some (.sh (ai D)),s4,s5,s6]=some (aD R,[some (.sh (ai A)),some (.sh (ai B)),some (.sh (ai C)),some (.sh (ai D)),s4,s5,s6]):=fun {s4 s5 s6}=>bA rfl rfl ix
 have l0:ak bM (aa (ae 0) ao) [some (.sh (ai A)),some (.sh (ai B)),some (.sh (ai C)),some (.sh (ai D)),none,none,none]=some (.int (m:Nat),_):=aI _ (dS rfl) lA
 have l3:ak bM (aa (ae 3) ao) [some (.sh (ai A)),some (.sh (ai B)),some (.sh (ai C)),some (.sh (ai D)),none,none,none]=some (.int (o:Nat),_):=aI _ (dS rfl) lD
 have l30:ak bM (aa (aG bN (ae 3) (fC (.int 0))) ao) [some (.sh (ai A)),some (.sh (ai B)),some (.sh (ai C)),some (.sh (ai D)),none,none,none]=some (.int (i:Nat),_):=aI _ (dS v3) lR
 have s1:bY (m7 (cj (cn (ak bg (aa (ae 0) (aa (fC (.ty "list")) ao))))) (m7 (cj (cn (ak bg (aa (ae 3) (aa (fC (.ty "list")) ao))))) (cj (eP (fU we we (fC (.int 1)) (ak bM (aa (ae 3) ao)) (fC (.int 2))))))) (bE (fC (.bl false))) bI [some (.sh (ai A)),some (.sh (ai B)),some (.sh (ai C)),some (.sh (ai D)),none,none,none]=some (.nx [some (.sh (ai A)),some (.sh (ai B)),some (.sh (ai C)),some (.sh (ai D)),none,none,none]):=lZ rfl (IY (IQ rfl) (BC (yq l3 rfl ho1 ho2)))
 have s2:bY (m7 (cj (cn (ak bg (aa (aG bN (ae 3) (fC (.int 0))) (aa (fC (.ty "list")) ao))))) (cj (eP (fU we we (fC (.int 1)) (ak bM (aa (aG bN (ae 3) (fC (.int 0))) ao)) (fC (.int 2)))))) (bE (fC (.bl false))) bI [some (.sh (ai A)),some (.sh (ai B)),some (.sh (ai C)),some (.sh (ai D)),none,none,none]=some (.nx [some (.sh (ai A)),some (.sh (ai B)),some (.sh (ai C)),some (.sh (ai D)),none,none,none]):=lZ (aI _ (fM v3 rfl) iR) (BC (yq l30 rfl hi1 hi2))
 have s3:yC 4 5 6 (aa (ak bM (aa (ae 0) ao)) (aa (ak bM (aa (aG bN (ae 3) (fC (.int 0))) ao)) (aa (ak bM (aa (ae 3) ao)) ao))) [some (.sh (ai A)),some (.sh (ai B)),some (.sh (ai C)),some (.sh (ai D)),none,none,none]=some (.nx [some (.sh (ai A)),some (.sh (ai B)),some (.sh (ai C)),some (.sh (ai D)),some (.sh (.int (m:Nat))),some (.sh (.int (i:Nat))),some (.sh (.int (o:Nat)))]):=by
  unfold yC
  rw [iw l0 l30 l3]
  rfl
 refine dN rfl ?_
 show gO JL [some (.sh (ai A)),some (.sh (ai B)),some (.sh (ai C)),some (.sh (ai D)),none,none,none]=_
 unfold gO
 rw [br s1,br s2,br s3]
 exact fQ ((jc (aI _ (iw rfl rfl rfl) t1)).trans ((jc (aI _ (iw rfl rfl rfl) t2)).trans ((jc (aI _ (iw rfl rfl rfl) t3)).trans (aI _ (iw rfl rfl rfl) t4))))
abbrev fj:Addr:=333
def xV (r:List Rat):T:=.tup (r.map bp)
def pN (A:List (List Rat)):T:=.tup (A.map xV)
abbrev kO (A B C D:List (List Rat)):T:=.tup [pN A,pN B,pN C,pN D]
def bJ (A B C D:List (List Rat)):T:=.obj fj ["four"] [kO A B C D]
theorem Bl {t:FS} {fr:Addr -> FI} {x:Addr} {τ:aH} {ns:List Str} {us:List T} (h:t τ=some (.nx τ)) (ha:cg τ=true) (h0:τ[0]? = some (some (.sh (.ptr x)))):Bk t fr x τ ns us=fr x τ ns us:=by
 unfold Bk
 rw [h,Option.bind_some]
 dsimp only
 rw [if_pos ha,h0]
 exact if_pos rfl
theorem FZ {f:Str} {fe:FE} {fr:Addr -> FI} {x:Addr} {τ:aH} {ns:List Str} {us:List T} {t:T} (h:fe τ=some (t,τ)) (ha:cg τ=true) (hn:¬ f ∈ ns /\ ns.length < 999) (h0:τ[0]? = some (some (.sh (.ptr x)))):C7 f fe fr x τ ns us=fr x τ (ns ++ [f]) (us ++ [t]):=by
 unfold C7
 rw [h,Option.bind_some]
 dsimp only
 rw [if_pos ⟨ha,hn⟩,h0]
 exact if_pos rfl
theorem A8 {P:List (List Rat) -> Prop} (a:P A) (b:P B) (c:P C) (d:P D):∀ X ∈ [A,B,C,D],P X:=by
 intro X hX
 simp only [List.mem_cons,List.not_mem_nil,or_false] at hX
 rcases hX with rfl | rfl | rfl | rfl
 ·exact a
 ·exact b
 ·exact c
 ·exact d
theorem dc.len8 (h:dc m i o A B C D) (hm:m ≤ 8) (ho:o ≤ 8):∀ X ∈ [A,B,C,D],X.length ≤ 8:=A8 (P:=fun X=>X.length ≤ 8) (by rw [h.a.len]; exact hm) (by rw [h.b.len]; exact hm) (by rw [h.c.len]; exact ho) (by rw [h.d.len]; exact ho)
theorem Hg {f g p q:FE} {τ:aH} {t u v x:T} (h:f τ=some (t,τ)) (h':g τ=some (u,τ)) (h'':p τ=some (v,τ)) (h3:q τ=some (x,τ)):fz (aa f (aa g (aa p (aa q ao)))) τ=some (.tup [t,u,v,x],τ):=by
 unfold fz
 rw [uk h h' h'' h3,Option.bind_some]
 exact if_pos Ku
abbrev Ht:List T -> Option wg:=dI 5 4 (dh AO)
theorem Ig (h:dc m i o A B C D) (hm:m ≤ 8) (hi:1 ≤ i /\ i ≤ 2) (ho:1 ≤ o /\ o ≤ 2):Ht [ai A,ai B,ai C,ai D]=some (((["four"]:List Str),[kO A B C D]):wg):=by
 refine HQ ⟨rfl,fun x=>?_⟩
 show dh AO x [some (.sh (.ptr x)),some (.sh (ai A)),some (.sh (ai B)),some (.sh (ai C)),some (.sh (ai D))] [] []=_
 have t1:=FH h hm hi ho
 have lA:=len_tab A
 rw [h.a.len] at lA
 have l8:=h.len8 hm (by omega)
 have s1:bY (cj (cn (ak AO (aa (ae 1) (aa (ae 2) (aa (ae 3) (aa (ae 4) ao))))))) eH bI [some (.sh (.ptr x)),some (.sh (ai A)),some (.sh (ai B)),some (.sh (ai C)),some (.sh (ai D))]=some (.nx [some (.sh (.ptr x)),some (.sh (ai A)),some (.sh (ai B)),some (.sh (ai C)),some (.sh (ai D))]):=jD (aI _ (uk rfl rfl rfl rfl) t1)
 have s2:bY (eP (aG uC (ak bM (aa (ae 1) ao)) (fC (.int 8)))) eH bI [some (.sh (.ptr x)),some (.sh (ai A)),some (.sh (ai B)),some (.sh (ai C)),some (.sh (ai D))]=some (.nx [some (.sh (.ptr x)),some (.sh (ai A)),some (.sh (ai B)),some (.sh (ai C)),some (.sh (ai D))]):=by
  refine uE ?_
  unfold eP
  rw [bA (g:=uC) (t:=.bl (decide (((m:Nat):Int) > 8))) (aI (g:=bM) [ai A] (dS rfl) lA) rfl rfl,decide_eq_false (by omega)]
  rfl
 have hc:=bO (φ:=ai) (fe:=ak iC (aa (bR 1 [] (aW (ae 0)) (aj 0) av (ak iC (aa (ae 0) ao))) ao)) (g:=pN) (ρ:=[]) rfl [A,B,C,D] none [] (fun X hX=>by
  have hc:=bO (φ:=aD) (fe:=ak iC (aa (ae 0) ao)) (g:=xV) (ρ:=[]) rfl X none [] (fun r hr=>aI [aD r] rfl rfl) (bW (l8 X hX))
  have e:=bF (no:=1) (cap:=[]) (fi:=aW (ae 0)) (fg:=aj 0) (ft:=av) (τ:=[some (.sh (ai X))]) (ts:=X.map aD) rfl rfl rfl hc
  exact aI _ (dS e) rfl) (bW (by simp))
 have hi:aW (fz (aa (ae 1) (aa (ae 2) (aa (ae 3) (aa (ae 4) ao))))) [some (.sh (.ptr x)),some (.sh (ai A)),some (.sh (ai B)),some (.sh (ai C)),some (.sh (ai D))]=some ([A,B,C,D].map ai,[some (.sh (.ptr x)),some (.sh (ai A)),some (.sh (ai B)),some (.sh (ai C)),some (.sh (ai D))]):=by
  unfold aW
  rw [Hg (t:=ai A) (u:=ai B) (v:=ai C) (x:=ai D) rfl rfl rfl rfl]
  rfl
 have e:=bF (no:=1) (cap:=[]) (fg:=aj 0) (ft:=av) hi rfl rfl hc
 unfold dh
 rw [Bl s1 rfl rfl,Bl s2 rfl rfl,FZ (aI _ (dS e) rfl) rfl ⟨by decide,by decide⟩ rfl]
 rfl
abbrev Fx:List T -> Option T:=cz 1 1 (iO fj)
abbrev yw:List T -> Option T:=cz 1 1 (jV fj)
theorem HY:Fx [bJ A B C D]=some (.int (A.length:Nat)):=by
 refine dN rfl (fQ (aI (t:=.int (A.length:Nat)) [pN A] (dS (bA (g:=bN) (t:=pN A) (a:=kO A B C D) (b:=.int 0) rfl rfl rfl)) ?_))
 show some (T.int ((A.map xV).length:Nat))=_
 rw [List.length_map]
theorem Dd {t:T} {ts:List T}:bN (.tup (t :: ts)) (.int 0)=some t:=by
 show nF (t :: ts) 0=_
 unfold nF yI
 rw [if_pos (by decide),if_pos (by rw [List.length_cons]; omega)]
 rfl
theorem ES (h:dc m i o A B C D) (ho:0 < o):yw [bJ A B C D]=some (.int (i:Nat)):=by
 have hr:=h.row0 ho
 have hl:=h.d.len
 cases D with
 | nil=>simp at hl; omega
 | cons d D =>
  refine dN rfl (fQ (aI (t:=.int (i:Nat)) [xV d] (dS (bA (g:=bN) (t:=xV d) (a:=pN (d :: D)) (b:=.int 0) (bA (g:=bN) (a:=kO A B C (d :: D)) (b:=.int 3) rfl rfl rfl) rfl Dd)) ?_))
  show some (T.int ((d.map bp).length:Nat))=_
  rw [List.length_map]
  exact congrArg (fun n:Nat=>some (T.int (n:Nat))) hr
abbrev EK:List T -> Option (List O):=CP 1 1 (dU fj)
theorem EU (h:dc m i o A B C D) (hm:m ≤ 8) (ho:o ≤ 8):EK [bJ A B C D]=some [du A,du B,du C,du D]:=by
 have l8:=h.len8 hm ho
 have hc:=eE (φ:=pN) (fe:=ef 1 [] (aW (ae 0)) (aj 0) av (rK (ae 0))) (g:=du) (ρ:=[]) rfl [A,B,C,D] none [] (fun X hX=>by
  have hc:=eE (φ:=xV) (fe:=rK (ae 0)) (g:=iX) (ρ:=[]) rfl X none [] (fun r hr=>rfl) (my (l8 X hX))
  exact ie (no:=1) (cap:=[]) (fi:=aW (ae 0)) (fg:=aj 0) (ft:=av) (τ:=[some (.sh (pN X))]) (ts:=X.map xV) rfl rfl rfl hc) (my (by simp))
 have e:=ie (no:=1) (cap:=[]) (fi:=aW (A3 [fj] "four" (ae 0))) (fg:=aj 0) (ft:=av) (τ:=[some (.sh (bJ A B C D))]) (ts:=[A,B,C,D].map pN) rfl rfl rfl hc
 show dU fj [some (.sh (bJ A B C D))]=_
 unfold dU A5 A6
 rw [e]
 rfl
abbrev zM:List T -> Option T:=fun ts=>(EK ts).bind fun os=>some (.tup (O.trs os))
theorem FJ (h:dc m i o A B C D) (hm:m ≤ 8) (ho:o ≤ 8):zM [bJ A B C D]=some (.tup [ai A,ai B,ai C,ai D]):=by
 show (EK [bJ A B C D]).bind _=_
 rw [EU h hm ho]
 show some (T.tup [(du A).tr,(du B).tr,(du C).tr,(du D).tr])=_
 rw [eW,eW,eW,eW]
end
open PySem PySem.Spec PyProof.Rows L2 TM Qm Rq
def cW (P:List (List Rat)) (u:List Rat):List Rat:=P.map fun r=>wsum r u
def fL (x y:List Rat):List Rat:=List.zipWith (· + ·) x y
theorem dy (r:List Rat):wsum r []=0:=by unfold wsum; rw [List.zipWith_nil_right]; rfl
theorem wa:∀ (c d x u:List Rat),c.length=x.length -> wsum (c ++ d) (x ++ u)=wsum c x + wsum d u
 | [],d,[],u,_=>by rw [cN,Rat.zero_add]; rfl
 | a :: c,d,b :: x,u,h=>by
  rw [List.cons_append,List.cons_append,bD,bD,wa c d x u (by simpa using h),Rat.add_assoc]
 | [],d,b :: x,u,h=>by simp at h
 | a :: c,d,[],u,h=>by simp at h
theorem mE:∀ (r x y:List Rat),x.length=y.length -> wsum r (fL x y)=wsum r x + wsum r y
 | [],x,y,_=>by rw [cN,cN,cN,Rat.add_zero]
 | a :: r,[],[],_=>by show wsum (a :: r) []=_; rw [dy,Rat.add_zero]
 | a :: r,b :: x,c :: y,h=>by
  show wsum (a :: r) ((b + c) :: fL x y)=_
  rw [bD,bD,bD,mE r x y (by simpa using h)]
  grind
 | a :: r,[],c :: y,h=>by simp at h
 | a :: r,b :: x,[],h=>by simp at h
theorem mV (f g:Nat -> Rat):∀ (js:List Nat) (u:List Rat),wsum (js.map fun j=>f j + g j) u=wsum (js.map f) u + wsum (js.map g) u
 | [],u=>by rw [List.map_nil,List.map_nil,List.map_nil,cN,Rat.add_zero]
 | j :: js,[]=>by rw [dy,dy,dy,Rat.add_zero]
 | j :: js,y :: u=>by
  rw [List.map_cons,List.map_cons,List.map_cons,bD,bD,bD,mV f g js u]
  grind
theorem iN (x:Rat) (f:Nat -> Rat):∀ (js:List Nat) (u:List Rat),wsum (js.map fun j=>x * f j) u=x * wsum (js.map f) u
 | [],u=>by rw [List.map_nil,List.map_nil,cN,Rat.mul_zero]
 | j :: js,[]=>by rw [dy,dy,Rat.mul_zero]
 | j :: js,y :: u=>by
  rw [List.map_cons,List.map_cons,bD,bD,iN x f js u]
  grind
theorem wM (p:List Rat):(List.range p.length).map (fun j=>p.getD j 0)=p:=by
 refine List.ext_getElem (by simp) fun n h1 h2=>?_
 rw [List.getElem_map,List.getElem_range,List.getD_eq_getElem?_getD,List.getElem?_eq_getElem h2]
 rfl
theorem vj (js:List Nat):(js.map fun _=>(0:Rat))=List.replicate js.length 0:=by
 induction js with
 | nil=>rfl
 | cons j js ih=>rw [List.map_cons,ih]; rfl
theorem mG:∀ (r:List Rat) (P:List (List Rat)) (i:Nat) (u:List Rat),(∀ p ∈ P,p.length=i) -> wsum (iY r P i) u=wsum r (cW P u)
 | [],P,i,u,_=>by
  unfold iY
  rw [show (fun j=>wsum [] (fN P j))=fun _:Nat=>(0:Rat) from funext fun j=>cN _,vj,kI,cN]
 | x :: r,[],i,u,_=>by
  unfold iY
  rw [show (fun j=>wsum (x :: r) (fN [] j))=fun _:Nat=>(0:Rat) from funext fun j=>dy _,vj,kI]
  exact (dy _).symm
 | x :: r,p :: P,i,u,h=>by
  have ih:=mG r P i u fun q hq=>h q (List.mem_cons_of_mem _ hq)
  have hp:=h p List.mem_cons_self
  unfold iY
  rw [show (fun j=>wsum (x :: r) (fN (p :: P) j))=fun j=>x * p.getD j 0 + wsum r (fN P j) from funext fun j=>bD _ _ _ _]
  rw [mV (fun j=>x * p.getD j 0),iN]
  show _=wsum (x :: r) (wsum p u :: cW P u)
  rw [bD,<- ih]
  unfold iY
  rw [<- hp,wM]
theorem CC {A P:List (List Rat)} {i:Nat} {u:List Rat} (h:∀ p ∈ P,p.length=i):cW (mulM A P i) u=cW A (cW P u):=by
 unfold cW mulM
 rw [List.map_map]
 exact List.map_congr_left fun r _=>mG r P i u h
theorem CA {A:List (List Rat)} {x y:List Rat} (h:x.length=y.length):cW A (fL x y)=fL (cW A x) (cW A y):=by
 unfold cW
 induction A with
 | nil=>rfl
 | cons a A ih =>
  rw [List.map_cons,List.map_cons,List.map_cons,ih,mE a x y h]
  rfl
theorem jz:∀ (c:List Rat) (n:Nat),wsum c (List.replicate n 0)=0
 | [],n=>cN _
 | x :: c,0=>dy _
 | x :: c,n + 1=>by rw [List.replicate_succ,bD,jz c n,Rat.mul_zero,Rat.zero_add]
theorem AH (A:List (List Rat)) (n:Nat):cW A (List.replicate n 0)=List.replicate A.length 0:=by
 unfold cW
 induction A with
 | nil=>rfl
 | cons a A ih=>rw [List.map_cons,ih,jz]; rfl
theorem nE (A:List (List Rat)) (u:List Rat):(cW A u).length=A.length:=List.length_map ..
theorem Cr {x y:List Rat} (h:x.length=y.length):(fL x y).length=x.length:=by
 unfold fL
 rw [List.length_zipWith]
 omega
theorem qo:∀ (x y:List Rat),fL x y=fL y x
 | [],[]=>rfl
 | [],y :: ys=>rfl
 | x :: xs,[]=>rfl
 | x :: xs,y :: ys=>by
  show (x + y) :: fL xs ys=(y + x) :: fL ys xs
  rw [qo xs ys,Rat.add_comm]
theorem kJ:∀ (A X:List (List Rat)) (x u:List Rat),(∀ a ∈ A,a.length=x.length) -> (dJ A X).map (fun r=>wsum r (x ++ u))=fL (cW A x) (cW X u)
 | [],X,x,u,_=>rfl
 | a :: A,[],x,u,_=>rfl
 | a :: A,b :: X,x,u,h=>by
  show wsum (a ++ b) (x ++ u) :: (dJ A X).map _=(wsum a x + wsum b u) :: fL (cW A x) (cW X u)
  rw [kJ A X x u fun r hr=>h r (List.mem_cons_of_mem _ hr),wa a b x u (h a List.mem_cons_self)]
def nB (A B:List (List Rat)) (m:Nat):List (List Rat) -> List Rat
 | []=>List.replicate m 0
 | u :: h=>fL (cW A (nB A B m h)) (cW B u)
def pK (A B:List (List Rat)) (i m:Nat):Nat -> List (List Rat) -> List Rat
 | _,[]=>List.replicate m 0
 | k,u :: h=>fL (cW (cL A B i k) u) (pK A B i m (k + 1) h)
def pJ (A B C D:List (List Rat)) (i j:Nat):Nat -> List (List Rat) -> Rat
 | _,[]=>0
 | b,u :: h=>wsum ((ff A B C D i b).getD j []) u + pJ A B C D i j (b + 1) h
section
variable {m i o:Nat} {A B C D:List (List Rat)}
theorem gg (h:dc m i o A B C D):∀ k,(cL A B i k).length=m /\ ∀ p ∈ cL A B i k,p.length=i
 | 0=>⟨h.b.len,h.b.bw.wd⟩
 | k + 1=>by
  show (mulM A (cL A B i k) i).length=m /\ ∀ p ∈ mulM A (cL A B i k) i,p.length=i
  unfold mulM
  refine ⟨by rw [List.length_map,h.a.len],fun p hp=>?_⟩
  obtain ⟨r,_,rfl⟩:=List.mem_map.mp hp
  unfold iY
  rw [List.length_map,List.length_range]
theorem wo (h:dc m i o A B C D):∀ k,(ff A B C D i k).length=o /\ ∀ p ∈ ff A B C D i k,p.length=i
 | 0=>⟨h.d.len,h.d.bw.wd⟩
 | k + 1=>by
  show (mulM C (cL A B i k) i).length=o /\ ∀ p ∈ mulM C (cL A B i k) i,p.length=i
  unfold mulM
  refine ⟨by rw [List.length_map,h.c.len],fun p hp=>?_⟩
  obtain ⟨r,_,rfl⟩:=List.mem_map.mp hp
  unfold iY
  rw [List.length_map,List.length_range]
theorem lF (h:dc m i o A B C D):∀ (hs:List (List Rat)) (k:Nat),(pK A B i m k hs).length=m
 | [],k=>List.length_replicate
 | u :: hs,k=>by
  show (fL (cW (cL A B i k) u) (pK A B i m (k + 1) hs)).length=m
  rw [Cr (by rw [nE,(gg h k).1,lF h hs (k + 1)]),nE,(gg h k).1]
theorem ui (h:dc m i o A B C D):∀ (hs:List (List Rat)) (k:Nat),cW A (pK A B i m k hs)=pK A B i m (k + 1) hs
 | [],k=>by
  show cW A (List.replicate m 0)=List.replicate m 0
  rw [AH,h.a.len]
 | u :: hs,k=>by
  show cW A (fL (cW (cL A B i k) u) (pK A B i m (k + 1) hs))=fL (cW (mulM A (cL A B i k) i) u) (pK A B i m (k + 2) hs)
  rw [CA (by rw [nE,(gg h k).1,lF h]),ui h hs (k + 1),CC (gg h k).2]
theorem xR (h:dc m i o A B C D):∀ hs:List (List Rat),nB A B m hs=pK A B i m 0 hs
 | []=>rfl
 | u :: hs=>by
  show fL (cW A (nB A B m hs)) (cW B u)=fL (cW B u) (pK A B i m 1 hs)
  rw [xR h hs,ui h hs 0,qo]
theorem xQ (h:dc m i o A B C D) (hs:List (List Rat)):(nB A B m hs).length=m:=by
 rw [xR h hs,lF h]
theorem getD_map {α β:Type} (f:α -> β) {l:List α} {j:Nat} (h:j < l.length) (d:α) (e:β):(l.map f).getD j e=f (l.getD j d):=by
 rw [List.getD_eq_getElem?_getD,List.getD_eq_getElem?_getD,List.getElem?_map,List.getElem?_eq_getElem h]
 rfl
theorem vV (h:dc m i o A B C D) {j:Nat} (hj:j < o):∀ (hs:List (List Rat)) (b:Nat),wsum (C.getD j []) (pK A B i m b hs)=pJ A B C D i j (b + 1) hs
 | [],b=>jz _ _
 | u :: hs,b=>by
  show wsum (C.getD j []) (fL (cW (cL A B i b) u) (pK A B i m (b + 1) hs))=wsum ((mulM C (cL A B i b) i).getD j []) u + pJ A B C D i j (b + 2) hs
  rw [mE _ _ _ (by rw [nE,(gg h b).1,lF h]),vV h hj hs (b + 1)]
  unfold mulM
  rw [getD_map (fun r=>iY r (cL A B i b) i) (by rw [h.c.len]; exact hj) [] [],mG _ _ _ _ (gg h b).2]
def ma (A B C D:List (List Rat)) (i o:Nat) (hs:List (List Rat)):List Rat:=(List.range o).map fun j=>pJ A B C D i j 0 hs
theorem ug (X Y:List (List Rat)) (x u:List Rat) (n:Nat) (hX:X.length=n) (hY:Y.length=n):fL (cW X x) (cW Y u)=(List.range n).map fun j=>wsum (X.getD j []) x + wsum (Y.getD j []) u:=by
 unfold fL cW
 refine List.ext_getElem (by simp; omega) fun k h1 h2=>?_
 rw [List.getElem_zipWith,List.getElem_map,List.getElem_map,List.getElem_map,List.getElem_range]
 have h3:k < X.length:=by simp at h2; omega
 have h4:k < Y.length:=by simp at h2; omega
 rw [List.getD_eq_getElem?_getD,List.getD_eq_getElem?_getD,List.getElem?_eq_getElem h3,List.getElem?_eq_getElem h4]
 rfl
theorem GD (h:dc m i o A B C D) (u:List Rat) (hs:List (List Rat)):fL (cW C (nB A B m hs)) (cW D u)=ma A B C D i o (u :: hs):=by
 rw [ug C D _ u o h.c.len h.d.len,xR h hs]
 unfold ma
 refine List.map_congr_left fun j hj=>?_
 rw [vV h (List.mem_range.mp hj) hs 0,Rat.add_comm]
 rfl
def dH (A B C D:List (List Rat)) (i o:Nat):List (List Rat) -> List (List Rat) -> List (List Rat)
 | _,[]=>[]
 | hs,u :: us=>ma A B C D i o (u :: hs) :: dH A B C D i o (u :: hs) us
theorem qM:∀ (us hs:List (List Rat)),(dH A B C D i o hs us).length=us.length
 | [],hs=>rfl
 | u :: us,hs=>by
  show (dH A B C D i o (u :: hs) us).length + 1=us.length + 1
  rw [qM us (u :: hs)]
theorem qL:∀ (us hs:List (List Rat)) (t:Nat),t < us.length -> (dH A B C D i o hs us).getD t []=ma A B C D i o ((us.take (t + 1)).reverse ++ hs)
 | [],hs,t,h=>by simp at h
 | u :: us,hs,0,h=>by
  show ma A B C D i o (u :: hs)=ma A B C D i o ([u].reverse ++ hs)
  rfl
 | u :: us,hs,t + 1,h=>by
  show (dH A B C D i o (u :: hs) us).getD t []=_
  rw [qL us (u :: hs) t (by simpa using h),List.take_succ_cons,List.reverse_cons,List.append_assoc]
  rfl
end
open PySem PySem.Spec PyProof.Rows L2 TM Qm Rq
def SB (t:Nat):Nat:=(2 ^ 21) ^ (t + 1)
theorem yh (t:Nat):SB (t + 1)=2 ^ 21 * SB t:=by
 show (2 ^ 21) ^ (t + 1 + 1)=2 ^ 21 * (2 ^ 21) ^ (t + 1)
 rw [Nat.pow_succ,Nat.mul_comm]
theorem HF {t:Nat} (h:t ≤ 20):SB t < C /\ 8 * (249480 * SB t) < C:=by
 have h1:SB t ≤ (2 ^ 21) ^ 21:=Nat.pow_le_pow_right (by decide) (by omega)
 have h2:8 * (249480 * (2 ^ 21) ^ 21) < C:=by decide +kernel
 have h3:=Nat.mul_le_mul_left 249480 h1
 constructor <;> omega
theorem Ew:∀ t:Nat,9 * DD (t + 1) ≤ SB t
 | 0=>by decide
 | t + 1=>by
  have ih:=Ew t
  rw [yh,nD (t + 1)]
  omega
theorem Ov.scale {D N E:Nat} {q:Rat} (h:Ov D N q) (hE:0 < E):Ov (D * E) (N * E) q:=by
 obtain ⟨a,rfl,ha⟩:=h
 refine ⟨a * (E:Int),?_,?_⟩
 ·rw [Int.natCast_mul,Rat.divInt_mul_right (by omega)]
 ·rw [Int.natAbs_mul,Int.natAbs_natCast]
  exact Nat.mul_le_mul_right _ ha
theorem EW {x:Rat} (h:Lq 1 9 x) (t:Nat):Ov (DD (t + 1)) (SB t) x:=by
 have h1:=(Ov.lq h).scale (cO t)
 have e:DD 1 * DD t=DD (t + 1):=by rw [<- iZ,Nat.add_comm]
 rw [Nat.mul_assoc,e] at h1
 exact h1.mono (Ew t)
def Us (i:Nat) (us:List (List Rat)):Prop:=∀ u ∈ us,u.length=i /\ ∀ x ∈ u,Lq 1 9 x
theorem yN {x:Rat} (h:Lq 1 9 x):Ov (DD 1) 249480 x:=Ov.lq h
theorem Eu:DD 1 < C:=by decide +kernel
theorem HD:249480 < C:=by decide +kernel
theorem Fg {n w:Nat} {X:List (List Rat)} (hX:Tw n w X) (hn:n ≤ 8) (hw:w ≤ 8):Tv (DD 1) 249480 X:=⟨by rw [hX.len]; exact hn,fun r hr=>⟨by rw [hX.bw.wd r hr]; exact hw,fun x hx=>yN (hX.bw.lq r hr x hx)⟩,cO 1,Eu,HD⟩
theorem pR {n m i:Nat} {X Y:List (List Rat)} (hX:Tw n m X) (hY:Tw n i Y) {r:List Rat} (hr:r ∈ dJ X Y):r.length=m + i /\ ∀ x ∈ r,Ov (DD 1) 249480 x:=by
 unfold dJ at hr
 obtain ⟨p,hp,rfl⟩:=List.mem_map.mp hr
 obtain ⟨h1,h2⟩:=cV hp
 refine ⟨by rw [List.length_append,hX.bw.wd _ h1,hY.bw.wd _ h2],fun x hx=>?_⟩
 rcases List.mem_append.mp hx with hx | hx
 ·exact yN (hX.bw.lq _ h1 x hx)
 ·exact yN (hY.bw.lq _ h2 x hx)
theorem zB {n m i:Nat} {X Y:List (List Rat)} (hX:Tw n m X) (hY:Tw n i Y) (hn:n ≤ 8) (hw:m + i ≤ 8):Tv (DD 1) 249480 (dJ X Y):=by
 refine ⟨?_,fun r hr=>⟨by rw [(pR hX hY hr).1]; exact hw,(pR hX hY hr).2⟩,cO 1,Eu,HD⟩
 unfold dJ
 rw [List.length_map,List.length_zip,hX.len,hY.len]
 omega
theorem CW {t:Nat} (h:t ≤ 20):Ey (DD 1) 249480 (DD (t + 1)) (SB t):=by
 refine ⟨?_,(HF h).2⟩
 rw [<- iZ,Nat.add_comm]
 exact zH (by omega)
theorem Ki {t n:Nat} (h:n ≤ 5):n * (249480 * SB t) ≤ SB (t + 1):=by
 have h1:=Nat.mul_le_mul_right (249480 * SB t) h
 have h2:5 * (249480 * SB t) ≤ SB (t + 1):=by
  rw [yh,<- Nat.mul_assoc]
  exact Nat.mul_le_mul_right _ (by decide)
 omega
section
variable {m i o:Nat} {A B C D:List (List Rat)}
theorem Fb (h:dc m i o A B C D) (hm:m ≤ 3) (hi:i ≤ 2):∀ hs:List (List Rat),Us i hs -> ∀ x ∈ nB A B m hs,Ov (DD (hs.length + 1)) (SB hs.length) x
 | [],_,x,hx=>by
  rw [(List.mem_replicate.mp hx).2]
  exact (Ov.zero _).mono (Nat.zero_le _)
 | u :: hs,hu,x,hx=>by
  have ih:=Fb h hm hi hs fun v hv=>hu v (List.mem_cons_of_mem _ hv)
  have hu0:=hu u List.mem_cons_self
  rw [show nB A B m (u :: hs)=fL (cW A (nB A B m hs)) (cW B u) from rfl,<- kJ A B (nB A B m hs) u fun a ha=>by rw [xQ h,h.a.bw.wd a ha]] at hx
  obtain ⟨r,hr,rfl⟩:=List.mem_map.mp hx
  obtain ⟨l1,o1⟩:=pR h.a h.b hr
  have z:=zD (cO 1) (cO (hs.length + 1)) o1 (s:=nB A B m hs ++ u) fun y hy=>by
   rcases List.mem_append.mp hy with hy | hy
   ·exact ih y hy
   ·exact EW (hu0.2 y hy) _
  rw [<- iZ,Nat.add_comm 1] at z
  exact z.mono (Ki (by omega))
theorem Jl (h:dc m i o A B C D) (hm:m ≤ 3) (hi:i ≤ 2) {u:List Rat} {hs:List (List Rat)} (hu:Us i (u :: hs)) (ht:hs.length ≤ 20):Gv (DD (hs.length + 1)) (SB hs.length) (nB A B m hs ++ u):=by
 have hu0:=hu u List.mem_cons_self
 refine ⟨by rw [List.length_append,xQ h,hu0.1]; omega,fun y hy=>?_,cO _,zH (by omega),(HF ht).1⟩
 rcases List.mem_append.mp hy with hy | hy
 ·exact Fb h hm hi hs (fun v hv=>hu v (List.mem_cons_of_mem _ hv)) y hy
 ·exact EW (hu0.2 y hy) _
end
theorem DH (i:Nat) (τ:aH):eh i ao τ=some (.nx (τ.set i (some (.own [])))):=by
 unfold eh
 rw [show ao τ=some ([],τ) from rfl,Option.bind_some]
 exact if_pos Kr
abbrev EL:List T -> Option T:=cz 2 2 jB
theorem yi {a b:List Rat} (h:a.length + b.length ≤ 100):cq (aD a) (aD b)=some (aD (a ++ b)):=by
 unfold aD
 rw [uB (by rw [List.length_map,List.length_map]; exact da (by omega)),List.map_append]
theorem EV {n m i:Nat} {X Y:List (List Rat)} (hX:Tw n m X) (hY:Tw n i Y) (hn:n ≤ 8) (hw:m + i ≤ 8):EL [ai X,ai Y]=some (ai (dJ X Y)):=by
 have hc:=gq (φ:=fun p:List Rat × List Rat=>aD p.1) (ψ:=fun p=>aD p.2) (fe:=aG cq (ae 0) (ae 1)) (g:=fun p=>aD (p.1 ++ p.2)) (ρ:=[]) rfl (List.zip X Y) none none [] (fun p hp=>bA rfl rfl (yi (by rw [hX.bw.wd _ (cV hp).1,hY.bw.wd _ (cV hp).2]; omega))) (bW (by rw [List.length_zip,hX.len,hY.len]; omega))
 rw [List.nil_append] at hc
 have hz:dP (aa (ae 0) (aa (ae 1) ao)) [some (.sh (ai X)),some (.sh (ai Y))]=some ((List.zip X Y).map fun p=>T.tup [aD p.1,aD p.2],[some (.sh (ai X)),some (.sh (ai Y))]):=by
  show some (gG (X.map aD) (Y.map aD),_)=_
  rw [fS]
 have e:=bF (no:=2) (cap:=[]) (fg:=pZ) (ft:=av) hz rfl rfl hc
 refine dN rfl ?_
 show jB [some (.sh (ai X)),some (.sh (ai Y))]=_
 unfold jB
 rw [fQ e]
 unfold ai dJ
 rw [List.map_map]
 rfl
abbrev HU:List T -> Option T:=cz 4 4 (gd AN)
theorem Ia {m i:Nat} {x:List Rat} {us:List (List Rat)} (hm:m ≤ 8) (hi:i ≤ 8) (hx:x.length=m) (hq:∀ y ∈ x,Sm y) (hu:Us i us) (hl:us.length ≤ 8):HU [.int (m:Nat),.int (i:Nat),aD x,ai us]=some .non:=by
 have c1:=bO (φ:=aD) (fe:=ak AN (aa (ae 0) (aa (ae 1) ao))) (g:=fun _=>T.bl true) (ρ:=[some (.sh (.int (i:Nat)))]) rfl us none [] (fun r hr=>aI [aD r,.int (i:Nat)] rfl (AW (hu r hr).1 hi fun y hy=>yO ((hu r hr).2 y hy))) (bW hl)
 have e1:=bF (no:=1) (cap:=[1]) (fi:=aW (ae 3)) (fg:=aj 0) (ft:=av) (τ:=[some (.sh (.int (m:Nat))),some (.sh (.int (i:Nat))),some (.sh (aD x)),some (.sh (ai us))]) (ts:=us.map aD) rfl rfl rfl c1
 rw [List.nil_append] at e1
 have e4:=aI (g:=om) _ (dS e1) (all_map (fun _=>true) us)
 rw [show (us.all fun _=>true)=true by simp] at e4
 have s1:bY (cj (cn (ak AN (aa (ae 2) (aa (ae 0) ao))))) eH bI [some (.sh (.int (m:Nat))),some (.sh (.int (i:Nat))),some (.sh (aD x)),some (.sh (ai us))]=some (.nx [some (.sh (.int (m:Nat))),some (.sh (.int (i:Nat))),some (.sh (aD x)),some (.sh (ai us))]):=jD (aI _ (fM rfl rfl) (AW hx hm hq))
 have s2:bY (m7 (cj (cn (ak bg (aa (ae 3) (aa (fC (.ty "list")) ao))))) (eP (aG uC (ak bM (aa (ae 3) ao)) (fC (.int 60))))) eH bI [some (.sh (.int (m:Nat))),some (.sh (.int (i:Nat))),some (.sh (aD x)),some (.sh (ai us))]=some (.nx [some (.sh (.int (m:Nat))),some (.sh (.int (i:Nat))),some (.sh (aD x)),some (.sh (ai us))]):=by
  refine lZ (τ':=[some (.sh (.int (m:Nat))),some (.sh (.int (i:Nat))),some (.sh (aD x)),some (.sh (ai us))]) rfl ?_
  unfold eP
  rw [bA (g:=uC) (t:=.bl (decide (((us.length:Nat):Int) > 60))) (aI (g:=bM) [ai us] (dS rfl) (len_tab us)) rfl rfl,decide_eq_false (by omega)]
  rfl
 refine EI (τ:=[some (.sh (.int (m:Nat))),some (.sh (.int (i:Nat))),some (.sh (aD x)),some (.sh (ai us))]) rfl ?_
 show gd AN [some (.sh (.int (m:Nat))),some (.sh (.int (i:Nat))),some (.sh (aD x)),some (.sh (ai us))]=_
 unfold gd
 rw [br s1,br s2]
 exact jD e4
def oY:FS:=aV (m6 10 (ak ED (aa (ae 8) (aa (aG cq (ae 9) (ae 11)) ao)))) (bh 9 (ak ED (aa (ae 7) (aa (aG cq (ae 9) (ae 11)) ao))))
abbrev Hs:List T -> Option T:=cz 12 3 (yo fj HU EL ED Fx yw zM)
section
variable {m i o:Nat} {A B C D:List (List Rat)}
abbrev DX (s0 s1 s2:Option Sl) (A B C D:List (List Rat)) (x:List Rat) (ts:List T) (s11:Option Sl):aH:=[s0,s1,s2,some (.sh (ai A)),some (.sh (ai B)),some (.sh (ai C)),some (.sh (ai D)),some (.sh (ai (dJ A B))),some (.sh (ai (dJ C D))),some (.sh (aD x)),some (.own ts),s11]
theorem DY (h:dc m i o A B C D) (hm:m ≤ 3) (hi:i ≤ 2) (ho:o ≤ 2) (s0 s1 s2:Option Sl) {u:List Rat} {hs:List (List Rat)} (hu:Us i (u :: hs)) (ht:hs.length ≤ 20) (acc:List T) (ha:acc.length < 100) :
  oY (DX s0 s1 s2 A B C D (nB A B m hs) acc (some (.sh (aD u))))=some (.nx (DX s0 s1 s2 A B C D (nB A B m (u :: hs)) (acc ++ [aD (ma A B C D i o (u :: hs))]) (some (.sh (aD u))))):=by
 have g:=Jl h hm hi hu ht
 have f:=CW ht
 have hl:(nB A B m hs).length=m:=xQ h hs
 have p1:=EO (zB h.c h.d (by omega) (by omega)) g f
 have p2:=EO (zB h.a h.b (by omega) (by omega)) g f
 rw [kJ C D _ u fun a ha=>by rw [hl,h.c.bw.wd a ha],GD h] at p1
 rw [kJ A B _ u fun a ha=>by rw [hl,h.a.bw.wd a ha]] at p2
 rw [show nB A B m (u :: hs)=fL (cW A (nB A B m hs)) (cW B u) from rfl]
 generalize fL (cW A (nB A B m hs)) (cW B u)=Y at *
 generalize ma A B C D i o (u :: hs)=Z at *
 have ad:cq (aD (nB A B m hs)) (aD u)=some (aD (nB A B m hs ++ u)):=yi (by rw [hl,(hu u List.mem_cons_self).1]; omega)
 generalize nB A B m hs=x at *
 have e1:=EC (i:=10) (f:=ak ED (aa (ae 8) (aa (aG cq (ae 9) (ae 11)) ao))) (τ:=DX s0 s1 s2 A B C D x acc (some (.sh (aD u)))) (ts:=acc) rfl (aI [ai (dJ C D),aD (x ++ u)] (fM rfl (bA rfl rfl ad)) p1) (cH (by omega))
 have e2:bh 9 (ak ED (aa (ae 7) (aa (aG cq (ae 9) (ae 11)) ao))) (DX s0 s1 s2 A B C D x (acc ++ [aD Z]) (some (.sh (aD u))))=some (.nx (DX s0 s1 s2 A B C D Y (acc ++ [aD Z]) (some (.sh (aD u))))):=dg (aI [ai (dJ A B),aD (x ++ u)] (fM rfl (bA rfl rfl ad)) p2) rfl
 unfold oY
 rw [br e1]
 exact e2
theorem yY (h:dc m i o A B C D) (hm:m ≤ 3) (hi:i ≤ 2) (ho:o ≤ 2) (s0 s1 s2:Option Sl):∀ (us hs:List (List Rat)) (acc:List T) (s11:Option Sl),Us i us -> Us i hs -> hs.length + us.length ≤ 20 -> acc.length + us.length ≤ 100 ->
  ∃ t11,df (aj 11) oY (us.map aD) (DX s0 s1 s2 A B C D (nB A B m hs) acc s11)=some (.nx (DX s0 s1 s2 A B C D (nB A B m (us.reverse ++ hs)) (acc ++ (dH A B C D i o hs us).map aD) t11))
 | [],hs,acc,s11,_,_,_,_=>⟨s11,by
   rw [show (dH A B C D i o hs []).map aD=[] from rfl,List.append_nil]
   rfl⟩
 | u :: us,hs,acc,s11,hu,hh,h1,h2=>by
  rw [List.length_cons] at h1 h2
  have hu':Us i (u :: hs):=fun v hv=>by
   rcases List.mem_cons.mp hv with rfl | hv
   ·exact hu _ List.mem_cons_self
   ·exact hh v hv
  have ht:=DY h hm hi ho s0 s1 s2 hu' (by omega) acc (by omega)
  obtain ⟨t11,hl⟩:=yY h hm hi ho s0 s1 s2 us (u :: hs) (acc ++ [aD (ma A B C D i o (u :: hs))]) (some (.sh (aD u))) (fun v hv=>hu v (List.mem_cons_of_mem _ hv)) hu' (by rw [List.length_cons]; omega) (by rw [List.length_append,List.length_cons,List.length_nil]; omega)
  refine ⟨t11,?_⟩
  rw [List.map_cons,dw (τ1:=DX s0 s1 s2 A B C D (nB A B m hs) acc (some (.sh (aD u)))) rfl ht,hl,List.reverse_cons,List.append_assoc,List.append_assoc]
  rfl
theorem Ie (h:dc m i o A B C D) (hm:m ≤ 3) (hi:1 ≤ i /\ i ≤ 2) (ho:1 ≤ o /\ o ≤ 2) {us:List (List Rat)} (hu:Us i us) (hl:us.length ≤ 8) :
  ∃ x,Hs [bJ A B C D,aD (List.replicate m 0),ai us]=some (.tup [ai (dH A B C D i o [] us),x]):=by
 obtain ⟨t11,hL⟩:=yY h hm hi.2 ho.2 (some (.sh (bJ A B C D))) (some (.sh (aD (List.replicate m 0)))) (some (.sh (ai us))) us [] [] none hu (fun v hv=>by cases hv) (by simp; omega) (by simp; omega)
 refine ⟨aD (nB A B m (us.reverse ++ [])),?_⟩
 have k1:=HY (A:=A) (B:=B) (C:=C) (D:=D)
 rw [h.a.len] at k1
 have k2:=ES h (by omega)
 have k3:=FJ h (by omega) (by omega)
 have k4:=Ia (m:=m) (i:=i) (x:=List.replicate m 0) (by omega) (by omega) List.length_replicate (fun y hy=>by
  rw [(List.mem_replicate.mp hy).2]
  exact yO ((Lq.zero 1).mono (Nat.zero_le _))) hu hl
 have k5:=EV h.a h.b (by omega) (by omega)
 have k6:=EV h.c h.d (by omega) (by omega)
 generalize hx:aD (List.replicate m 0)=X at *
 have a1:mJ (ak HU (aa (fP [(fj,Fx)] "cells" (ae 0) ao) (aa (fP [(fj,yw)] "ins" (ae 0) ao) (aa (ae 1) (aa (ae 2) ao))))) [some (.sh (bJ A B C D)),some (.sh X),some (.sh (ai us)),none,none,none,none,none,none,none,none,none]=some (.nx [some (.sh (bJ A B C D)),some (.sh X),some (.sh (ai us)),none,none,none,none,none,none,none,none,none]):=by
  have m1:fP [(fj,Fx)] "cells" (ae 0) ao [some (.sh (bJ A B C D)),some (.sh X),some (.sh (ai us)),none,none,none,none,none,none,none,none,none]=some (.int (m:Nat),[some (.sh (bJ A B C D)),some (.sh X),some (.sh (ai us)),none,none,none,none,none,none,none,none,none]):=sP (C:=fj) (ns:=["four"]) (ts:=[kO A B C D]) (qs:=[]) (d:=Fx) rfl (by decide) rfl rfl k1
  have m2:fP [(fj,yw)] "ins" (ae 0) ao [some (.sh (bJ A B C D)),some (.sh X),some (.sh (ai us)),none,none,none,none,none,none,none,none,none]=some (.int (i:Nat),[some (.sh (bJ A B C D)),some (.sh X),some (.sh (ai us)),none,none,none,none,none,none,none,none,none]):=sP (C:=fj) (ns:=["four"]) (ts:=[kO A B C D]) (qs:=[]) (d:=yw) rfl (by decide) rfl rfl k2
  unfold mJ
  rw [aI _ (uk m1 m2 rfl rfl) k4]
  rfl
 have a2:jN (fP [(fj,zM)] "tables" (ae 0) ao) (bX (ay (aj 3) (ay (aj 4) (ay (aj 5) (ay (aj 6) bS))))) [some (.sh (bJ A B C D)),some (.sh X),some (.sh (ai us)),none,none,none,none,none,none,none,none,none]=some (.nx [some (.sh (bJ A B C D)),some (.sh X),some (.sh (ai us)),some (.sh (ai A)),some (.sh (ai B)),some (.sh (ai C)),some (.sh (ai D)),none,none,none,none,none]):=by
  have m3:fP [(fj,zM)] "tables" (ae 0) ao [some (.sh (bJ A B C D)),some (.sh X),some (.sh (ai us)),none,none,none,none,none,none,none,none,none]=some (.tup [ai A,ai B,ai C,ai D],[some (.sh (bJ A B C D)),some (.sh X),some (.sh (ai us)),none,none,none,none,none,none,none,none,none]):=sP (C:=fj) (ns:=["four"]) (ts:=[kO A B C D]) (qs:=[]) (d:=zM) rfl (by decide) rfl rfl k3
  unfold jN
  rw [m3]
  rfl
 have a3:m8 7 8 (aa (ak EL (aa (ae 3) (aa (ae 4) ao))) (aa (ak EL (aa (ae 5) (aa (ae 6) ao))) ao)) [some (.sh (bJ A B C D)),some (.sh X),some (.sh (ai us)),some (.sh (ai A)),some (.sh (ai B)),some (.sh (ai C)),some (.sh (ai D)),none,none,none,none,none]=some (.nx [some (.sh (bJ A B C D)),some (.sh X),some (.sh (ai us)),some (.sh (ai A)),some (.sh (ai B)),some (.sh (ai C)),some (.sh (ai D)),some (.sh (ai (dJ A B))),some (.sh (ai (dJ C D))),none,none,none]):=by
  unfold m8
  rw [fM (aI (g:=EL) [ai A,ai B] (fM rfl rfl) k5) (aI (g:=EL) [ai C,ai D] (fM rfl rfl) k6)]
  rfl
 have a4:bh 9 (ak dList (aa (ae 1) ao)) [some (.sh (bJ A B C D)),some (.sh X),some (.sh (ai us)),some (.sh (ai A)),some (.sh (ai B)),some (.sh (ai C)),some (.sh (ai D)),some (.sh (ai (dJ A B))),some (.sh (ai (dJ C D))),none,none,none]=some (.nx [some (.sh (bJ A B C D)),some (.sh X),some (.sh (ai us)),some (.sh (ai A)),some (.sh (ai B)),some (.sh (ai C)),some (.sh (ai D)),some (.sh (ai (dJ A B))),some (.sh (ai (dJ C D))),some (.sh X),none,none]):=by
  rw [<- hx]
  exact dg (aI [aD (List.replicate m 0)] (dS rfl) rfl) rfl
 have a5:eh 10 ao [some (.sh (bJ A B C D)),some (.sh X),some (.sh (ai us)),some (.sh (ai A)),some (.sh (ai B)),some (.sh (ai C)),some (.sh (ai D)),some (.sh (ai (dJ A B))),some (.sh (ai (dJ C D))),some (.sh X),none,none]=some (.nx [some (.sh (bJ A B C D)),some (.sh X),some (.sh (ai us)),some (.sh (ai A)),some (.sh (ai B)),some (.sh (ai C)),some (.sh (ai D)),some (.sh (ai (dJ A B))),some (.sh (ai (dJ C D))),some (.sh X),some (.own []),none]):=by
  exact DH 10 _
 have a6:fO (aW (ae 2)) (aj 11) oY [some (.sh (bJ A B C D)),some (.sh X),some (.sh (ai us)),some (.sh (ai A)),some (.sh (ai B)),some (.sh (ai C)),some (.sh (ai D)),some (.sh (ai (dJ A B))),some (.sh (ai (dJ C D))),some (.sh X),some (.own []),none]=some (.nx (DX (some (.sh (bJ A B C D))) (some (.sh X)) (some (.sh (ai us))) A B C D (nB A B m (us.reverse ++ [])) ([] ++ (dH A B C D i o [] us).map aD) t11)):=by
  subst hx
  exact kN (ts:=us.map aD) rfl hL
 refine dN rfl ?_
 show yo fj HU EL ED Fx yw zM [some (.sh (bJ A B C D)),some (.sh X),some (.sh (ai us)),none,none,none,none,none,none,none,none,none]=_
 unfold yo
 rw [br a1,br a2,br a3,br a4,br a5]
 show aV (fO (aW (ae 2)) (aj 11) oY) _ _=_
 rw [br a6]
 refine fQ (τ':=?_) ?_
 rotate_left
 ·unfold fz
  rw [rA (f:=ae 10) (t:=ai (dH A B C D i o [] us)) rfl (dS (f:=ae 9) rfl),Option.bind_some]
  exact if_pos Iz
end
open PySem PySem.Spec PyProof.Rows L2 TM Qm Rq
abbrev JM:List T -> Option T:=cz 2 2 (dX EF)
theorem Ii {n:Nat} (h:n ≤ 60):JM [.int (n:Nat),.int 61]=some (.bl true):=by
 have e1:ak EF (aa (ae 0) ao) [some (.sh (.int (n:Nat))),some (.sh (.int 61))]=some (.bl true,[some (.sh (.int (n:Nat))),some (.sh (.int 61))]):=aI _ (dS rfl) (xb _)
 have e2:fU we Bf (fC (.int 0)) (ae 0) (ae 1) [some (.sh (.int (n:Nat))),some (.sh (.int 61))]=some (.bl true,[some (.sh (.int (n:Nat))),some (.sh (.int 61))]):=by
  unfold fU
  rw [show fC (.int 0) [some (.sh (.int (n:Nat))),some (.sh (.int 61))]=some (.int 0,[some (.sh (.int (n:Nat))),some (.sh (.int 61))]) from rfl,Option.bind_some,show ae 0 [some (.sh (.int (n:Nat))),some (.sh (.int 61))]=some (.int (n:Nat),[some (.sh (.int (n:Nat))),some (.sh (.int 61))]) from rfl,Option.bind_some]
  rw [show we (.int 0) (.int (n:Nat))=some (.bl (decide ((0:Int) ≤ (n:Nat)))) from rfl,decide_eq_true (by omega),Option.bind_some]
  dsimp only
  rw [show ae 1 [some (.sh (.int (n:Nat))),some (.sh (.int 61))]=some (.int 61,[some (.sh (.int (n:Nat))),some (.sh (.int 61))]) from rfl,Option.bind_some,show Bf (.int (n:Nat)) (.int 61)=some (.bl (decide (((n:Nat):Int) < 61))) from rfl,decide_eq_true (by omega)]
  rfl
 refine dN rfl ?_
 show dX EF [some (.sh (.int (n:Nat))),some (.sh (.int 61))]=_
 unfold dX
 exact fQ ((jc e1).trans e2)
abbrev Hr:List T -> Option T:=cz 1 1 (fK JM)
theorem HZ {n:Nat} (h:n ≤ 60):Hr [.int (n:Nat)]=some .non:=by
 refine EI (τ:=[some (.sh (.int (n:Nat)))]) rfl ?_
 show fK JM [some (.sh (.int (n:Nat)))]=_
 unfold fK
 exact jD (aI [.int (n:Nat),.int 61] (fM rfl (bA (g:=cq) rfl rfl rfl)) (Ii h))
theorem IL {C:Addr} {d:List T -> Option (List O)} {mn:Str} {fo:FE} {τ τ':aH} {ns:List Str} {ts:List T} {os:List O} (h:fo τ=some (.obj C ns ts,τ')) (hm:¬ mn ∈ ns) (hd:d [.obj C ns ts]=some os):oq C d mn fo τ=some (os,τ'):=by
 unfold oq
 rw [h,Option.bind_some]
 dsimp only
 rw [if_neg hm,if_pos rfl,hd]
 rfl
def cT (A B C D:List (List Rat)) (i n:Nat):List O:=(List.range n).map fun k=>du (ff A B C D i k)
theorem wq (A B C D:List (List Rat)) (i n:Nat):cT A B C D i (n + 1)=cT A B C D i n ++ [du (ff A B C D i n)]:=by
 unfold cT
 rw [List.range_succ,List.map_append]
 rfl
def FU:Nat:=1000
abbrev rF:List T -> Option O:=lU 8 2 (ic FU fj Hr rG CQ yw EK)
abbrev JK:List T -> Option T:=fun ts=>(rF ts).bind fun o=>some o.tr
def kg:FT:=eP (aG Bf (ak bM (aa (ae 7) ao)) (ae 1))
def kf:FL:=Dg (Df 7 (iE CQ (aa (ae 4) (aa (ae 3) (aa (ae 6) ao))))) (mN 7 (bh 3 (ak rG (aa (ae 2) (aa (ae 3) (aa (ae 6) ao))))))
theorem jF {x:Nat} {p:Addr} {τ:aH} (h:τ[x]? = some (some (.sh (.ptr p)))):jg x p τ=true:=by
 unfold jg
 rw [h]
 exact Nat.beq_refl p
section
variable {m i o:Nat} {A B C D:List (List Rat)}
theorem DQ (h:dc m i o A B C D) (hm:m ≤ 3) (hi:i ≤ 2) {k:Nat} (hk:k ≤ 20):Tv (DD (k + 1)) (NB k) (cL A B i k):=by
 have z:=nQ h hm hi k
 have e:=tN h k
 refine ⟨by rw [(gg h k).1]; omega,fun r hr=>⟨by rw [(gg h k).2 r hr]; omega,fun x hx=>?_⟩,cO _,zH (by omega),by have:=(Co hk).1; omega⟩
 rw [e] at hr
 unfold pU at hr
 obtain ⟨s,hs,rfl⟩:=List.mem_map.mp hr
 obtain ⟨v,hv,rfl⟩:=List.mem_map.mp hx
 exact ⟨v,rfl,z.bd s hs v hv⟩
theorem CV {k:Nat} (hk:k ≤ 20):Ey (DD 1) 249480 (DD (k + 1)) (NB k):=by
 refine ⟨?_,?_⟩
 ·rw [<- iZ,Nat.add_comm]
  exact zH (by omega)
 ·have h1:=(Co hk).2
  have h2:249480 * NB k ≤ 2 ^ 20 * NB k:=Nat.mul_le_mul_right _ (by decide)
  omega
abbrev yk (S:T) (n:Nat) (A P C:List (List Rat)) (q:Addr) (i:Nat) (p:Addr):aH:=[some (.sh S),some (.sh (.int (n:Nat))),some (.sh (ai A)),some (.sh (ai P)),some (.sh (ai C)),some (.sh (.ptr q)),some (.sh (.int (i:Nat))),some (.sh (.ptr p))]
theorem Cw (h:dc m i o A B C D) (hm:m ≤ 3) (hi:i ≤ 2) (ho:o ≤ 2) (S:T) (n:Nat) (q p:Addr) {k:Nat} (hk:k ≤ 20) :
  kf p (cT A B C D i (k + 1)) (yk S n A (cL A B i k) C q i p)=some (cT A B C D i (k + 2),yk S n A (cL A B i (k + 1)) C q i p):=by
 have tv:=DQ h hm hi hk
 have ft:=CV hk
 have wd:=(gg h k).2
 have p1:=ET (Fg h.c (by omega) (by omega)) tv wd (by omega) ft
 have p2:=AY (Fg h.a (by omega) (by omega)) tv wd (by omega) ft
 rw [wq A B C D i (k + 1),show ff A B C D i (k + 1)=mulM C (cL A B i k) i from rfl,show cL A B i (k + 1)=mulM A (cL A B i k) i from rfl]
 have hl:(cT A B C D i (k + 1)).length < sizeLine:=by
  unfold cT
  rw [List.length_map,List.length_range]
  exact cH (by omega)
 generalize cT A B C D i (k + 1)=os at *
 generalize mulM C (cL A B i k) i=X at *
 generalize mulM A (cL A B i k) i=Y at *
 generalize cL A B i k=P at *
 have e1:iE CQ (aa (ae 4) (aa (ae 3) (aa (ae 6) ao))) (yk S n A P C q i p)=some (du X,yk S n A P C q i p):=yp [ai C,ai P,.int (i:Nat)] (iw rfl rfl rfl) p1
 have e2:bh 3 (ak rG (aa (ae 2) (aa (ae 3) (aa (ae 6) ao)))) (yk S n A P C q i p)=some (.nx (yk S n A Y C q i p)):=dg (aI [ai A,ai P,.int (i:Nat)] (iw rfl rfl rfl) p2) rfl
 unfold kf Dg Df mN
 rw [e1,Option.bind_some]
 dsimp only
 rw [if_pos ⟨jF rfl,hl⟩,Option.bind_some]
 dsimp only
 rw [e2,Option.bind_some]
 exact if_pos (jF rfl)
theorem ym (S:T) (n:Nat) (P:List (List Rat)) (q p:Addr) (os:List O):kg ((hide (yk S n A P C q i p)).set 7 (some (.sh (.lst (O.trs os)))))=some (decide ((O.trs os).length < n),(hide (yk S n A P C q i p)).set 7 (some (.sh (.lst (O.trs os))))):=by
 unfold kg
 exact ID (a:=(O.trs os).length) (b:=n) (aI [.lst (O.trs os)] (dS rfl) rfl) rfl
theorem lH:∀ os:List O,(O.trs os).length=os.length
 | []=>rfl
 | o :: os=>by rw [O.trs,List.length_cons,List.length_cons,lH os]
theorem lP (n:Nat):(cT A B C D i n).length=n:=by
 unfold cT
 rw [List.length_map,List.length_range]
theorem yl (h:dc m i o A B C D) (hm:m ≤ 3) (hi:i ≤ 2) (ho:o ≤ 2) (S:T) (q p:Addr) {n:Nat} (hn:n ≤ 16):∀ (d k f:Nat),d + (k + 1)=(if n ≤ k + 1 then k + 1 else n) -> k ≤ 16 -> d < f ->
  ∃ P,iQ 7 kg kf f p (cT A B C D i (k + 1)) (yk S n A (cL A B i k) C q i p)=some (cT A B C D i (d + (k + 1)),yk S n A P C q i p)
 | d,k,0,_,_,hf=>by omega
 | 0,k,f + 1,hd,hk,hf=>by
  refine ⟨cL A B i k,?_⟩
  unfold iQ
  rw [ym,Option.bind_some]
  dsimp only
  rw [lH,lP,Nat.zero_add]
  have:¬ (k + 1 < n):=by split at hd <;> omega
  rw [decide_eq_false this]
  exact if_neg (by decide)
 | d + 1,k,f + 1,hd,hk,hf=>by
  have hk1:k + 1 < n:=by split at hd <;> omega
  rw [if_neg (by omega)] at hd
  obtain ⟨P,ih⟩:=yl h hm hi ho S q p hn d (k + 1) f (by split <;> omega) (by omega) (by omega)
  refine ⟨P,?_⟩
  unfold iQ
  rw [ym,Option.bind_some]
  dsimp only
  rw [lH,lP,decide_eq_true hk1,if_pos rfl,Cw h hm hi ho S n q p (by omega),Option.bind_some]
  dsimp only
  rw [ih,show d + 1 + (k + 1)=d + (k + 1 + 1) by omega]
theorem wt {n N:Nat} (h:n ≤ N):(cT A B C D i N).take n=cT A B C D i n:=by
 unfold cT
 rw [<- List.map_take,List.take_range,Nat.min_eq_left h]
theorem AV (h:dc m i o A B C D) (hm:m ≤ 3) (hi:1 ≤ i /\ i ≤ 2) (ho:1 ≤ o /\ o ≤ 2) {n:Nat} (hn:n ≤ 16):rF [bJ A B C D,.int (n:Nat)]=some (.lst (cT A B C D i n)):=by
 have k1:=HZ (n:=n) (by omega)
 have k2:=EU h (by omega) (by omega)
 have k3:=ES h (by omega)
 have hloop:∀ q p:Addr,∃ P N,n ≤ N /\ 0 < N /\ iQ 7 kg kf FU p [.lst (D.map iX)] (yk (bJ A B C D) n A B C q i p)=some (cT A B C D i N,yk (bJ A B C D) n A P C q i p):=fun q p=>by
  obtain ⟨P,e⟩:=yl h hm hi.2 ho.2 (bJ A B C D) q p hn ((if n ≤ 1 then 1 else n) - 1) 0 FU (by split <;> omega) (by omega) (by unfold FU; split <;> omega)
  refine ⟨P,(if n ≤ 1 then 1 else n) - 1 + 1,by split <;> omega,by omega,?_⟩
  exact e
 have a1:mJ (ak Hr (aa (ae 1) ao)) [some (.sh (bJ A B C D)),some (.sh (.int (n:Nat))),none,none,none,none,none,none]=some (.nx [some (.sh (bJ A B C D)),some (.sh (.int (n:Nat))),none,none,none,none,none,none]):=by
  unfold mJ
  rw [aI [.int (n:Nat)] (dS rfl) k1]
  rfl
 have a2:oq fj EK "tables" (ae 0) [some (.sh (bJ A B C D)),some (.sh (.int (n:Nat))),none,none,none,none,none,none]=some ([du A,du B,du C,du D],[some (.sh (bJ A B C D)),some (.sh (.int (n:Nat))),none,none,none,none,none,none]):=IL (ns:=["four"]) (ts:=[kO A B C D]) rfl (by decide) k2
 have hin:∀ (q p:Addr),jX (iQ 7 kg kf FU) (jC 7 (dG (ae 1))) p [.lst (D.map iX)] (yk (bJ A B C D) n A B C q i p)=some (.lst (cT A B C D i n)):=fun q p=>by
  obtain ⟨P,N,h1,h2,e⟩:=hloop q p
  unfold jX
  rw [e,Option.bind_some]
  dsimp only
  unfold jC
  rw [jk (f:=ae 1) (τ:=yk (bJ A B C D) n A P C q i p) (k:=(n:Nat)) rfl,Option.bind_some]
  dsimp only
  rw [if_pos (jF rfl)]
  unfold Fs
  rw [HT.jJ,HT.vM,lP,Nat.min_eq_left h1,List.drop_zero,Nat.sub_zero,wt h1]
 have hbox:∀ q:Addr,jX (mN 5 (bh 6 (fP [(fj,yw)] "ins" (ae 0) ao))) (zP 5 7 (jX (iQ 7 kg kf FU) (jC 7 (dG (ae 1))))) q (D.map iX) [some (.sh (bJ A B C D)),some (.sh (.int (n:Nat))),some (.sh (ai A)),some (.sh (ai B)),some (.sh (ai C)),some (.sh (.ptr q)),none,none]=some (.lst (cT A B C D i n)):=fun q=>by
  have e1:bh 6 (fP [(fj,yw)] "ins" (ae 0) ao) [some (.sh (bJ A B C D)),some (.sh (.int (n:Nat))),some (.sh (ai A)),some (.sh (ai B)),some (.sh (ai C)),some (.sh (.ptr q)),none,none]=some (.nx [some (.sh (bJ A B C D)),some (.sh (.int (n:Nat))),some (.sh (ai A)),some (.sh (ai B)),some (.sh (ai C)),some (.sh (.ptr q)),some (.sh (.int (i:Nat))),none]):=dg (sP (C:=fj) (ns:=["four"]) (ts:=[kO A B C D]) (qs:=[]) (d:=yw) rfl (by decide) rfl rfl k3) rfl
  unfold jX mN
  rw [e1,Option.bind_some]
  dsimp only
  rw [if_pos (jF rfl),Option.bind_some]
  dsimp only
  unfold zP
  rw [if_pos ⟨jF rfl,by show 7 < 8; decide,by decide⟩]
  exact vE (fun p=>hin q p) fun o' ho'=>by
   have:=(ho' 0).symm.trans (hin q 0)
   injection this
 show lU 8 2 (ic FU fj Hr rG CQ yw EK) [bJ A B C D,.int (n:Nat)]=_
 unfold lU
 refine (if_pos rfl).trans ?_
 show ic FU fj Hr rG CQ yw EK [some (.sh (bJ A B C D)),some (.sh (.int (n:Nat))),none,none,none,none,none,none]=_
 unfold ic
 rw [G2 a1]
 unfold AZ
 rw [a2,Option.bind_some]
 dsimp only
 rw [show va [du A,du B,du C,du D]=some ([du A,du B,du C],D.map iX) from rfl,Option.bind_some]
 dsimp only
 have hq:∀ q:Addr,((bX (ay (aj 2) (ay (aj 3) (ay (aj 4) (ay (aj 5) bS)))) (.tup (O.trs [du A,du B,du C] ++ [.ptr q])) [some (.sh (bJ A B C D)),some (.sh (.int (n:Nat))),none,none,none,none,none,none]).bind fun τ2=>if jg 5 q τ2=true then jX (mN 5 (bh 6 (fP [(fj,yw)] "ins" (ae 0) ao))) (zP 5 7 (jX (iQ 7 kg kf FU) (jC 7 (dG (ae 1))))) q (D.map iX) τ2 else none)=some (.lst (cT A B C D i n)):=fun q=>by
  rw [show O.trs [du A,du B,du C]=[(du A).tr,(du B).tr,(du C).tr] from rfl,eW,eW,eW]
  exact (if_pos (jF rfl)).trans (hbox q)
 exact vE (fun q=>hq q) fun o' ho'=>by
  have:=(ho' 0).symm.trans (hq 0)
  injection this
theorem EN (h:dc m i o A B C D) (hm:m ≤ 3) (hi:1 ≤ i /\ i ≤ 2) (ho:1 ≤ o /\ o ≤ 2) {n:Nat} (hn:n ≤ 16):JK [bJ A B C D,.int (n:Nat)]=some (.lst (dM A B C D i 0 n)):=by
 show (rF [bJ A B C D,.int (n:Nat)]).bind _=_
 rw [AV h hm hi ho hn]
 show some (T.lst (O.trs (cT A B C D i n)))=_
 unfold cT dM
 rw [nU (g:=fun k=>ai (ff A B C D i k)) (fun k=>eW _),List.range_eq_range']
end
open PySem PySem.Spec PyProof.Rows L2 TM Qm Rq
abbrev HS:List T -> Option T:=cz 2 2 (gM yP)
theorem HC {a b:Nat} (ha:a < C) (hb:b < C):a * b ≤ C * C:=Nat.mul_le_mul (Nat.le_of_lt ha) (Nat.le_of_lt hb)
theorem HX {x y:Rat} (hx:Sm x) (hy:Sm y):HS [bp x,bp y]=some (bp (x + y)):=by
 have cb:=CB
 have ccb:=J1
 have b1:x.num.natAbs < B:=ltB hx.n
 have b2:y.num.natAbs < B:=ltB hy.n
 have b3:((x.den:Nat):Int).natAbs < B:=by have:=hx.d; omega
 have b4:((y.den:Nat):Int).natAbs < B:=by have:=hy.d; omega
 have e1:=HC hx.n hy.d
 have e2:=HC hy.n hx.d
 have e3:=HC hx.d hy.d
 have n1:(x.num * ((y.den:Nat):Int)).natAbs=x.num.natAbs * y.den:=by rw [Int.natAbs_mul,Int.natAbs_natCast]
 have n2:(y.num * ((x.den:Nat):Int)).natAbs=y.num.natAbs * x.den:=by rw [Int.natAbs_mul,Int.natAbs_natCast]
 have n3:(((x.den:Nat):Int) * ((y.den:Nat):Int)).natAbs=x.den * y.den:=by rw [Int.natAbs_mul,Int.natAbs_natCast,Int.natAbs_natCast]
 have hf:=sO (a:=x.num * ((y.den:Nat):Int) + y.num * ((x.den:Nat):Int)) (b:=((x.den:Nat):Int) * ((y.den:Nat):Int)) (by have:=Int.natAbs_add_le (x.num * ((y.den:Nat):Int)) (y.num * ((x.den:Nat):Int)); omega) (by omega) (Int.mul_pos (den_pos x) (den_pos y))
 have hd:Rat.divInt (x.num * ((y.den:Nat):Int) + y.num * ((x.den:Nat):Int)) (((x.den:Nat):Int) * ((y.den:Nat):Int))=x + y:=by
  rw [<- Rat.divInt_add_divInt _ _ (Int.ne_of_gt (den_pos x)) (Int.ne_of_gt (den_pos y)),cR,cR]
 rw [hd] at hf
 have i0:∀ (z w:Rat),aG bN (ae 0) (fC (.int 0)) [some (.sh (bp z)),some (.sh (bp w))]=some (.int z.num,[some (.sh (bp z)),some (.sh (bp w))]):=fun z w=>bA rfl rfl rfl
 have i1:∀ (z w:Rat),aG bN (ae 0) (fC (.int 1)) [some (.sh (bp z)),some (.sh (bp w))]=some (.int (z.den:Nat),[some (.sh (bp z)),some (.sh (bp w))]):=fun z w=>bA rfl rfl rfl
 have j0:∀ (z w:Rat),aG bN (ae 1) (fC (.int 0)) [some (.sh (bp z)),some (.sh (bp w))]=some (.int w.num,[some (.sh (bp z)),some (.sh (bp w))]):=fun z w=>bA rfl rfl rfl
 have j1:∀ (z w:Rat),aG bN (ae 1) (fC (.int 1)) [some (.sh (bp z)),some (.sh (bp w))]=some (.int (w.den:Nat),[some (.sh (bp z)),some (.sh (bp w))]):=fun z w=>bA rfl rfl rfl
 refine dN rfl ?_
 show gM yP [some (.sh (bp x)),some (.sh (bp y))]=_
 unfold gM
 exact fQ (aI _ (fM (bA (g:=cq) (bA (g:=aX) (i0 x y) (j1 x y) (iS b1 b4)) (bA (g:=aX) (j0 x y) (i1 x y) (iS b2 b3)) ig) (bA (g:=aX) (i1 x y) (j1 x y) (iS b3 b4))) hf)
def Eh:FS:=bh 4 (ak HS (aa (ae 4) (aa (ak yP (aa (aG aX (aG bN (ae 6) (fC (.int 0))) (aG bN (ae 7) (fC (.int 0)))) (aa (aG aX (aG bN (ae 6) (fC (.int 1))) (aG bN (ae 7) (fC (.int 1)))) ao))) ao)))
theorem Jm {x y t:Rat} (hx:Sm x) (hy:Sm y) (ht:Sm t) (hxy:Sm (x * y)) (s0 s1 s2 s3 s5:Option Sl):Eh [s0,s1,s2,s3,some (.sh (bp t)),s5,some (.sh (bp x)),some (.sh (bp y))]=some (.nx [s0,s1,s2,s3,some (.sh (bp (t + x * y))),s5,some (.sh (bp x)),some (.sh (bp y))]):=by
 have cb:=CB
 have ccb:=J1
 have b1:x.num.natAbs < B:=ltB hx.n
 have b2:y.num.natAbs < B:=ltB hy.n
 have b3:((x.den:Nat):Int).natAbs < B:=by have:=hx.d; omega
 have b4:((y.den:Nat):Int).natAbs < B:=by have:=hy.d; omega
 have e1:=HC hx.n hy.n
 have e3:=HC hx.d hy.d
 have n1:(x.num * y.num).natAbs=x.num.natAbs * y.num.natAbs:=Int.natAbs_mul _ _
 have n3:(((x.den:Nat):Int) * ((y.den:Nat):Int)).natAbs=x.den * y.den:=by rw [Int.natAbs_mul,Int.natAbs_natCast,Int.natAbs_natCast]
 have hf:=sO (a:=x.num * y.num) (b:=((x.den:Nat):Int) * ((y.den:Nat):Int)) (by omega) (by omega) (Int.mul_pos (den_pos x) (den_pos y))
 have hd:Rat.divInt (x.num * y.num) (((x.den:Nat):Int) * ((y.den:Nat):Int))=x * y:=by
  rw [<- Rat.divInt_mul_divInt,cR,cR]
 rw [hd] at hf
 have hp:=HX ht hxy
 have m1:aG aX (aG bN (ae 6) (fC (.int 0))) (aG bN (ae 7) (fC (.int 0))) [s0,s1,s2,s3,some (.sh (bp t)),s5,some (.sh (bp x)),some (.sh (bp y))]=some (.int (x.num * y.num),[s0,s1,s2,s3,some (.sh (bp t)),s5,some (.sh (bp x)),some (.sh (bp y))]):=bA (g:=aX) (a:=.int x.num) (b:=.int y.num) (bA rfl rfl rfl) (bA rfl rfl rfl) (iS b1 b2)
 have m2:aG aX (aG bN (ae 6) (fC (.int 1))) (aG bN (ae 7) (fC (.int 1))) [s0,s1,s2,s3,some (.sh (bp t)),s5,some (.sh (bp x)),some (.sh (bp y))]=some (.int (((x.den:Nat):Int) * ((y.den:Nat):Int)),[s0,s1,s2,s3,some (.sh (bp t)),s5,some (.sh (bp x)),some (.sh (bp y))]):=bA (g:=aX) (a:=.int (x.den:Nat)) (b:=.int (y.den:Nat)) (bA rfl rfl rfl) (bA rfl rfl rfl) (iS b3 b4)
 unfold Eh
 exact dg (aI [bp t,bp (x * y)] (fM rfl (aI _ (fM m1 m2) hf)) hp) rfl
@[irreducible] def KB:Nat:=2 ^ 400
theorem J6:1000 * KB < C:=by decide +kernel
theorem Et:DD 12 < C:=by decide +kernel
theorem DN {b:Nat} (hb:b ≤ 10) {x y:Rat} (hx:Ov (DD (b + 1)) (NB b) x) (hy:Lq 1 9 y):Ov (DD 12) KB (x * y):=by
 have h:=(hx.mul (yN hy)).scale (cO (10 - b))
 rw [<- iZ,<- iZ,show b + 1 + 1 + (10 - b)=12 by omega] at h
 refine h.mono ?_
 have h1:NB b ≤ (2 ^ 20) ^ 11:=Nat.pow_le_pow_right (by decide) (by omega)
 have h2:DD (10 - b) ≤ 27720 ^ 10:=Nat.pow_le_pow_right (by decide) (by omega)
 have h3:=Nat.mul_le_mul (Nat.mul_le_mul_right 249480 h1) h2
 exact Nat.le_trans h3 (by decide +kernel)
theorem zv {b:Nat} (hb:b ≤ 10) (s0 s1 s2 s3 s5:Option Sl):∀ (r s:List Rat) (t:Rat) (M:Nat) (u v:Option Sl),(∀ x ∈ r,Ov (DD (b + 1)) (NB b) x) -> (∀ y ∈ s,Lq 1 9 y) -> Ov (DD 12) (M * KB) t -> M + r.length ≤ 500 ->
  Ov (DD 12) ((M + r.length) * KB) (t + wsum r s) /\ ∃ u' v',df (bX (ay (aj 6) (ay (aj 7) bS))) Eh ((List.zip r s).map fun p=>T.tup [bp p.1,bp p.2]) [s0,s1,s2,s3,some (.sh (bp t)),s5,u,v]=some (.nx [s0,s1,s2,s3,some (.sh (bp (t + wsum r s))),s5,u',v'])
 | [],s,t,M,u,v,_,_,h,_=>by
  rw [cN,Rat.add_zero]
  exact ⟨h,u,v,rfl⟩
 | x :: r,[],t,M,u,v,_,_,h,_=>by
  rw [dy,Rat.add_zero]
  exact ⟨h.mono (Nat.mul_le_mul_right _ (by omega)),u,v,rfl⟩
 | x :: r,y :: s,t,M,u,v,h1,h2,h3,h4=>by
  rw [List.length_cons] at h4
  have hx:=h1 x List.mem_cons_self
  have hy:=h2 y List.mem_cons_self
  have kb:=J6
  have hM:M * KB ≤ 500 * KB:=Nat.mul_le_mul_right _ (by omega)
  have hp:=DN hb hx hy
  have ht1:=h3.add (cO 12) hp
  rw [show M * KB + KB=(M + 1) * KB by rw [Nat.add_mul,Nat.one_mul]] at ht1
  obtain ⟨g1,u',v',g2⟩:=zv hb s0 s1 s2 s3 s5 r s (t + x * y) (M + 1) (some (.sh (bp x))) (some (.sh (bp y))) (fun z hz=>h1 z (List.mem_cons_of_mem _ hz)) (fun z hz=>h2 z (List.mem_cons_of_mem _ hz)) ht1 (by omega)
  have sx:Sm x:=hx.sm (cO _) (zH (by omega)) (by have:=(Co (k:=b) (by omega)).1; omega)
  have hb':=Jm sx (yO hy) (h3.sm (cO 12) Et (by omega)) (hp.sm (cO 12) Et (by omega)) s0 s1 s2 s3 s5
  rw [bD,<- Rat.add_assoc,List.length_cons,show M + (r.length + 1)=M + 1 + r.length by omega]
  refine ⟨g1,u',v',?_⟩
  rw [List.zip_cons_cons,List.map_cons,dw (τ1:=[s0,s1,s2,s3,some (.sh (bp t)),s5,some (.sh (bp x)),some (.sh (bp y))]) rfl hb']
  exact g2
theorem Ge {ts:List T} {j:Nat} {t:T} (h:ts[j]? = some t):bN (.lst ts) (.int (j:Nat))=some t:=by
 have hj:j < ts.length:=(List.getElem?_eq_some_iff.mp h).1
 show nF ts (j:Int)=_
 unfold nF yI
 rw [if_pos (by omega),if_pos (by omega),Option.bind_some,Int.toNat_natCast,h]
def B7:FS:=fO (dP (aa (aG bN (aG bN (ae 0) (ae 5)) (ae 3)) (aa (aG bN (ae 1) (aG jO (ae 2) (ae 5))) ao))) (bX (ay (aj 6) (ay (aj 7) bS))) Eh
section
variable {m i o:Nat} {A B C D:List (List Rat)}
theorem Cy (h:dc m i o A B C D) (hm:m ≤ 3) (hi:i ≤ 2) {b j:Nat} (hj:j < o):((ff A B C D i b).getD j []).length=i /\ ∀ x ∈ (ff A B C D i b).getD j [],Ov (DD (b + 1)) (NB b) x:=by
 have z:=AG h hm hi b
 have e:=AF h b
 have hr:(ff A B C D i b).getD j [] ∈ ff A B C D i b:=qI (by rw [(wo h b).1]; exact hj)
 refine ⟨(wo h b).2 _ hr,?_⟩
 generalize (ff A B C D i b).getD j []=r at *
 intro x hx
 rw [e] at hr
 unfold pU at hr
 obtain ⟨s,hs,rfl⟩:=List.mem_map.mp hr
 obtain ⟨v,hv,rfl⟩:=List.mem_map.mp hx
 exact ⟨v,rfl,z.bd s hs v hv⟩
abbrev Cm (A B C D:List (List Rat)) (i n:Nat) (us:List (List Rat)) (t j:Nat) (q:Rat) (s5 s6 s7:Option Sl):aH:=[some (.sh (.lst (dM A B C D i 0 n))),some (.sh (ai us)),some (.sh (.int (t:Nat))),some (.sh (.int (j:Nat))),some (.sh (bp q)),s5,s6,s7]
theorem AE {n b:Nat} (h:b < n):(dM A B C D i 0 n)[b]? = some (ai (ff A B C D i b)):=by
 unfold dM
 rw [List.getElem?_map,<- List.range_eq_range',List.getElem?_range h]
 rfl
theorem vU (h:dc m i o A B C D) (hm:m ≤ 3) (hi:i ≤ 2) {n t j:Nat} {us:List (List Rat)} (hu:Us i us) (htn:t < n) (htu:t < us.length) (ht:t ≤ 10) (hj:j < o) (ho:o ≤ 2):∀ (hs:List (List Rat)) (b:Nat) (q:Rat) (M:Nat) (s5 s6 s7:Option Sl),b + hs.length=t + 1 -> (∀ k,k < hs.length -> hs.getD k []=us.getD (t - (b + k)) []) -> Ov (DD 12) (M * KB) q -> M + 2 * hs.length ≤ 500 ->
  ∃ u5 u6 u7,df (aj 5) B7 (TM.upTo (b:Nat) hs.length) (Cm A B C D i n us t j q s5 s6 s7)=some (.nx (Cm A B C D i n us t j (q + pJ A B C D i j b hs) u5 u6 u7))
 | [],b,q,M,s5,s6,s7,_,_,_,_=>⟨s5,s6,s7,by
   rw [show pJ A B C D i j b []=0 from rfl,Rat.add_zero]
   rfl⟩
 | u :: hs,b,q,M,s5,s6,s7,h1,h2,h3,h4=>by
  rw [List.length_cons] at h1 h4
  have hu0:u=us.getD (t - b) []:=h2 0 (by simp)
  have hum:u ∈ us:=by rw [hu0]; exact qI (by omega)
  obtain ⟨l1,o1⟩:=Cy h hm hi (b:=b) hj
  have i1:bN (.lst (dM A B C D i 0 n)) (.int (b:Nat))=some (ai (ff A B C D i b)):=Ge (AE (by omega))
  have i2:bN (ai (ff A B C D i b)) (.int (j:Nat))=some (aD ((ff A B C D i b).getD j [])):=sL (by rw [(wo h b).1]; exact hj)
  have i3:bN (ai us) (.int ((t - b:Nat):Nat))=some (aD u):=by rw [hu0]; exact sL (by omega)
  have sb:jO (.int (t:Nat)) (.int (b:Nat))=some (.int ((t - b:Nat):Nat)):=by
   rw [Jn,Int.natCast_sub (by omega)]
  rw [show pJ A B C D i j b (u :: hs)=wsum ((ff A B C D i b).getD j []) u + pJ A B C D i j (b + 1) hs from rfl,<- Rat.add_assoc]
  generalize (ff A B C D i b).getD j []=r at *
  obtain ⟨g1,u6,u7,g2⟩:=zv (b:=b) (by omega) (some (.sh (.lst (dM A B C D i 0 n)))) (some (.sh (ai us))) (some (.sh (.int (t:Nat)))) (some (.sh (.int (j:Nat)))) (some (.sh (.int (b:Nat)))) r u q M s6 s7 o1 (hu u hum).2 h3 (by omega)
  have hz:dP (aa (aG bN (aG bN (ae 0) (ae 5)) (ae 3)) (aa (aG bN (ae 1) (aG jO (ae 2) (ae 5))) ao)) (Cm A B C D i n us t j q (some (.sh (.int (b:Nat)))) s6 s7)=some ((List.zip r u).map fun p=>T.tup [bp p.1,bp p.2],Cm A B C D i n us t j q (some (.sh (.int (b:Nat)))) s6 s7):=by
   have e:=fM (f:=aG bN (aG bN (ae 0) (ae 5)) (ae 3)) (g:=aG bN (ae 1) (aG jO (ae 2) (ae 5))) (τ:=Cm A B C D i n us t j q (some (.sh (.int (b:Nat)))) s6 s7) (bA (bA rfl rfl i1) rfl i2) (bA rfl (bA (g:=jO) rfl rfl sb) i3)
   unfold dP
   rw [e]
   show some (gG (r.map bp) (u.map bp),_)=_
   rw [fS]
  obtain ⟨v5,v6,v7,ih⟩:=vU h hm hi hu htn htu ht hj ho hs (b + 1) (q + wsum r u) (M + r.length) (some (.sh (.int (b:Nat)))) u6 u7 (by omega) (fun k hk=>by
   have:=h2 (k + 1) (by rw [List.length_cons]; omega)
   rw [show b + 1 + k=b + (k + 1) by omega]
   exact this) g1 (by omega)
  refine ⟨v5,v6,v7,?_⟩
  have hb:B7 (Cm A B C D i n us t j q (some (.sh (.int (b:Nat)))) s6 s7)=some (.nx (Cm A B C D i n us t j (q + wsum r u) (some (.sh (.int (b:Nat)))) u6 u7)):=kN hz g2
  rw [show TM.upTo ((b:Nat):Int) (u :: hs).length=T.int (b:Nat) :: TM.upTo (((b + 1:Nat):Nat):Int) hs.length from by rw [List.length_cons,Int.natCast_add]; rfl]
  rw [dw (τ1:=Cm A B C D i n us t j q (some (.sh (.int (b:Nat)))) s6 s7) rfl hb]
  exact ih
abbrev Fy:List T -> Option T:=cz 8 4 (fJ yP HS)
theorem DV {us:List (List Rat)} {t k:Nat} (ht:t < us.length) (hk:k < t + 1):((us.take (t + 1)).reverse).getD k []=us.getD (t - k) []:=by
 have hl:(us.take (t + 1)).length=t + 1:=by rw [List.length_take]; omega
 rw [List.getD_eq_getElem?_getD,List.getD_eq_getElem?_getD,List.getElem?_reverse (by rw [hl]; exact hk),hl,List.getElem?_take,if_pos (by omega)]
 rw [show t + 1 - 1 - k=t - k by omega]
theorem Ih (h:dc m i o A B C D) (hm:m ≤ 3) (hi:i ≤ 2) (ho:o ≤ 2) {n t j:Nat} {us:List (List Rat)} (hu:Us i us) (htn:t < n) (htu:t < us.length) (ht:t ≤ 10) (hj:j < o):Fy [.lst (dM A B C D i 0 n),ai us,.int (t:Nat),.int (j:Nat)]=some (bp (pJ A B C D i j 0 (us.take (t + 1)).reverse)):=by
 have hl:((us.take (t + 1)).reverse).length=t + 1:=by rw [List.length_reverse,List.length_take]; omega
 obtain ⟨u5,u6,u7,e⟩:=vU h hm hi hu htn htu ht hj ho (us.take (t + 1)).reverse 0 0 0 none none none (by omega) (fun k hk=>by rw [Nat.zero_add]; exact DV htu (by omega)) ((Ov.zero _).mono (Nat.zero_le _)) (by omega)
 rw [Rat.zero_add,hl] at e
 have hr:=lj (f:=aG cq (ae 2) (fC (.int 1))) (τ:=Cm A B C D i n us t j 0 none none none) (n:=((t + 1:Nat):Int)) (bA (g:=cq) (a:=.int (t:Nat)) (b:=.int 1) rfl rfl (by rw [ig]; rfl)) (by omega) (by omega)
 rw [Int.toNat_natCast] at hr
 have s1:bh 4 (fz (aa (fC (.int 0)) (aa (fC (.int 1)) ao))) [some (.sh (.lst (dM A B C D i 0 n))),some (.sh (ai us)),some (.sh (.int (t:Nat))),some (.sh (.int (j:Nat))),none,none,none,none]=some (.nx (Cm A B C D i n us t j 0 none none none)):=dg (JC 0 1 _) rfl
 refine dN rfl ?_
 show fJ yP HS [some (.sh (.lst (dM A B C D i 0 n))),some (.sh (ai us)),some (.sh (.int (t:Nat))),some (.sh (.int (j:Nat))),none,none,none,none]=_
 unfold fJ
 rw [br s1]
 show aV (fO (dB (aa (aG cq (ae 2) (fC (.int 1))) ao)) (aj 5) B7) _ _=_
 rw [br (kN hr e)]
 rfl
end
open PySem PySem.Spec PyProof.Rows L2 TM Qm Rq
theorem fv:∀ ts:List T,jb (ts.map O.val)=true
 | []=>rfl
 | t :: ts=>fv ts
theorem wR (X:List (List Rat)):oH (du X)=true:=by
 show (X.map iX).all oG=true
 rw [List.all_map,List.all_eq_true]
 intro r _
 exact fv _
theorem uH (A B C D:List (List Rat)) (i n:Nat):nM (.lst (cT A B C D i n))=true:=by
 show (cT A B C D i n).all oH=true
 unfold cT
 rw [List.all_map,List.all_eq_true]
 intro k _
 exact wR _
theorem Cz (A B C D:List (List Rat)) (i n:Nat):(O.lst (cT A B C D i n)).tr=.lst (dM A B C D i 0 n):=by
 show T.lst (O.trs (cT A B C D i n))=_
 unfold cT dM
 rw [nU (g:=fun k=>ai (ff A B C D i k)) (fun k=>eW _),List.range_eq_range']
theorem Ed {x t r:Nat} {fo:lL} {tc:FT} {τ τ' τ2:aH} {o:O} (h:fo τ=some (o,τ')) (h1:nM o=true) (h2:uG t (τ'.set x none)=true) (h3:uG r (τ'.set x none)=true) (h4:uG x (τ'.set x none)=true) (h5:tc ((hide τ').set x (some (.sh o.tr)))=some (false,τ2)):oz x t r fo tc τ=some (.nx (τ'.set x none)):=by
 unfold oz
 rw [h,Option.bind_some]
 dsimp only
 rw [if_pos ⟨h1,h2,h3,h4⟩,h5,Option.bind_some]
 exact if_neg Bool.false_ne_true
theorem CM (ns:List Int):∃ ks:List Int,ks.length ≤ 8 /\ Hu (.scr (ns.map T.int)) (some 3) (some 11)=some (.lst (ks.map T.int)):=by
 refine ⟨(ns.drop (min 3 ns.length)).take (min 11 ns.length - min 3 ns.length),by rw [List.length_take]; omega,?_⟩
 show some (T.lst (oj (ns.map T.int) (some ((3:Nat):Int)) (some ((11:Nat):Int))))=_
 unfold oj
 rw [HT.jJ,HT.jJ,List.length_map,List.map_take,List.map_drop]
def Dw (c:Int) (n:Nat) (hn:n ≤ 100):List Rat:=(kj c n hn).choose
theorem vk (c:Int) (n:Nat) (hn:n ≤ 100):AR [.int c,.int (n:Nat)]=some (aD (Dw c n hn)) /\ (Dw c n hn).length=n /\ ∀ x ∈ Dw c n hn,Lq 1 9 x:=(kj c n hn).choose_spec
abbrev pC (m i o:Nat):T:=.lst [.int (m:Nat),.int (i:Nat),.int (o:Nat)]
abbrev kS (ns:List Int) (c:Int) (m i o:Nat) (s3 s4 s5 s9 s10 s11 s12:Option Sl):aH:=[some (.sh (.scr (ns.map T.int))),some (.sh (.int c)),some (.sh (pC m i o)),s3,s4,s5,none,none,none,s9,s10,s11,s12]
def sN:FS:=(bY (eP (aG mM (aG bN (ae 10) (ae 12)) (bR 1 [11,9,12] (dB (aa (aG bN (ae 2) (fC (.int 2))) ao)) (aj 0) av (ak Fy (aa (ae 1) (aa (ae 2) (aa (ae 3) (aa (ae 0) ao)))))))) (bE (fC (.bl false))) bI)
section
variable {m i o:Nat} {A B C D:List (List Rat)}
theorem Dk (ns:List Int) (c:Int) (h:dc m i o A B C D) (hm:m ≤ 3) (hi:i ≤ 2) (ho:o ≤ 2) {us:List (List Rat)} (hu:Us i us) (hl:us.length ≤ 8) {t:Nat} (ht:t < us.length) (s3 s4 s5:Option Sl) :
  sN (kS ns c m i o s3 s4 s5 (some (.sh (ai us))) (some (.sh (ai (dH A B C D i o [] us)))) (some (.sh (.lst (dM A B C D i 0 us.length)))) (some (.sh (.int (t:Nat)))))=some (.nx (kS ns c m i o s3 s4 s5 (some (.sh (ai us))) (some (.sh (ai (dH A B C D i o [] us)))) (some (.sh (.lst (dM A B C D i 0 us.length)))) (some (.sh (.int (t:Nat)))))):=by
 have i1:bN (ai (dH A B C D i o [] us)) (.int (t:Nat))=some (aD (ma A B C D i o (us.take (t + 1)).reverse)):=by
  have:=sL (A:=dH A B C D i o [] us) (i:=t) (by rw [qM]; exact ht)
  rw [qL us [] t ht,List.append_nil] at this
  exact this
 have hc:=bO (φ:=fun j:Nat=>T.int (j:Nat)) (fe:=ak Fy (aa (ae 1) (aa (ae 2) (aa (ae 3) (aa (ae 0) ao))))) (g:=fun j=>bp (pJ A B C D i j 0 (us.take (t + 1)).reverse)) (ρ:=[some (.sh (.lst (dM A B C D i 0 us.length))),some (.sh (ai us)),some (.sh (.int (t:Nat)))]) rfl (List.range o) none [] (fun j hj=>aI [.lst (dM A B C D i 0 us.length),ai us,.int (t:Nat),.int (j:Nat)] (uk rfl rfl rfl rfl) (Ih h hm hi ho hu ht ht (by omega) (List.mem_range.mp hj))) (bW (by rw [List.length_range]; omega))
 rw [List.nil_append,show ((List.range o).map fun j=>bp (pJ A B C D i j 0 (us.take (t + 1)).reverse))=(ma A B C D i o (us.take (t + 1)).reverse).map bp from by unfold ma; rw [List.map_map]; rfl] at hc
 generalize ma A B C D i o (us.take (t + 1)).reverse=Q at *
 generalize ai (dH A B C D i o [] us)=OO at *
 generalize T.lst (dM A B C D i 0 us.length)=TT at *
 generalize ai us=UU at *
 have hr:=nR (f:=aG bN (ae 2) (fC (.int 2))) (τ:=kS ns c m i o s3 s4 s5 (some (.sh UU)) (some (.sh OO)) (some (.sh TT)) (some (.sh (.int (t:Nat))))) (n:=o) (bA (a:=pC m i o) (b:=.int 2) rfl rfl rfl) (by omega)
 have e:=bF (no:=1) (cap:=[11,9,12]) (fg:=aj 0) (ft:=av) hr rfl rfl hc
 unfold sN
 refine uE ?_
 unfold eP
 rw [bA (g:=mM) (bA (a:=OO) (b:=.int (t:Nat)) rfl rfl i1) e (cmp_self (neg:=true) (D5 Q) (by decide))]
 rfl
theorem vg (ns:List Int) (c:Int) (h:dc m i o A B C D) (hm:m ≤ 3) (hi:i ≤ 2) (ho:o ≤ 2) {us:List (List Rat)} (hu:Us i us) (hl:us.length ≤ 8) (s3 s4 s5:Option Sl):∀ (k t:Nat) (s12:Option Sl),t + k=us.length ->
  ∃ t12,df (aj 12) sN (TM.upTo (t:Nat) k) (kS ns c m i o s3 s4 s5 (some (.sh (ai us))) (some (.sh (ai (dH A B C D i o [] us)))) (some (.sh (.lst (dM A B C D i 0 us.length)))) s12)=some (.nx (kS ns c m i o s3 s4 s5 (some (.sh (ai us))) (some (.sh (ai (dH A B C D i o [] us)))) (some (.sh (.lst (dM A B C D i 0 us.length)))) t12))
 | 0,t,s12,_=>⟨s12,rfl⟩
 | k + 1,t,s12,hk=>by
  have ht:=Dk ns c h hm hi ho hu hl (t:=t) (by omega) s3 s4 s5
  obtain ⟨t12,ih⟩:=vg ns c h hm hi ho hu hl s3 s4 s5 k (t + 1) (some (.sh (.int (t:Nat)))) (by omega)
  refine ⟨t12,?_⟩
  rw [show TM.upTo ((t:Nat):Int) (k + 1)=T.int (t:Nat) :: TM.upTo (((t + 1:Nat):Nat):Int) k from by rw [Int.natCast_add]; rfl]
  rw [dw (τ1:=kS ns c m i o s3 s4 s5 (some (.sh (ai us))) (some (.sh (ai (dH A B C D i o [] us)))) (some (.sh (.lst (dM A B C D i 0 us.length)))) (some (.sh (.int (t:Nat))))) rfl ht]
  exact ih
end
theorem nN (c:Int) {b:Int} (hb:0 < b):∃ n:Nat,c.fmod b=(n:Nat) /\ (n:Int) < b:=by
 have r:=eU c (b:=b) hb
 exact ⟨(c.fmod b).toNat,by omega,by omega⟩
theorem Bp (ns:List Int) (hl:ns.length ≤ 63):cz 13 1 (uq fj Cj Hq Ft AR Hs JK Fy rF Ht) [.scr (ns.map T.int)]=some (.bl true):=by
 have c0:=rJ ns 0
 have c1:=rJ ns 1
 have c2:=rJ ns 2
 generalize ns.getD 0 0=c at *
 generalize ns.getD 1 0=d at *
 generalize ns.getD 2 0=e at *
 obtain ⟨m,em,hm⟩:=nN c (b:=4) (by decide)
 obtain ⟨i',ei,hi'⟩:=nN (c.fdiv 4) (b:=2) (by decide)
 obtain ⟨o',eo,ho'⟩:=nN (c.fdiv 8) (b:=2) (by decide)
 obtain ⟨n,en,hn⟩:=nN e (b:=13) (by decide)
 obtain ⟨i,hi⟩:∃ i,i=1 + i':=⟨_,rfl⟩
 obtain ⟨o,ho⟩:∃ o,o=1 + o':=⟨_,rfl⟩
 obtain ⟨A,B,C,D,e4,h4⟩:=CU d (m:=m) (i:=i) (o:=o) (by omega) (by omega) (by omega)
 obtain ⟨ks,hk8,hks⟩:=CM ns
 have hi100:i ≤ 100:=by omega
 have hu:Us i (ks.map fun k=>Dw k i hi100):=fun u hu=>by
  obtain ⟨k,_,rfl⟩:=List.mem_map.mp hu
  exact (vk k i hi100).2
 have hcomp:=bO (φ:=T.int) (fe:=ak AR (aa (ae 0) (aa (aG bN (ae 1) (fC (.int 1))) ao))) (g:=fun k=>aD (Dw k i hi100)) (ρ:=[some (.sh (pC m i o))]) rfl ks none [] (fun k hk=>aI [.int k,.int (i:Nat)] (fM rfl (bA (a:=pC m i o) (b:=.int 1) rfl rfl rfl)) (vk k i hi100).1) (bW hk8)
 have hul:(ks.map fun k=>Dw k i hi100).length ≤ 8:=by rw [List.length_map]; exact hk8
 rw [List.nil_append,show (ks.map fun k=>aD (Dw k i hi100))=(ks.map fun k=>Dw k i hi100).map aD from by rw [List.map_map]; rfl] at hcomp
 generalize (ks.map fun k=>Dw k i hi100)=us at *
 have g1:=Ig h4 (by omega) (by omega) (by omega)
 have g2:=AV h4 (by omega) (by omega) (by omega) (n:=n) (by omega)
 have g3:=HV h4 (by omega) (by omega) (by omega) (n:=n) (by omega)
 obtain ⟨x,g4⟩:=Ie h4 (by omega) (by omega) (by omega) hu hul
 have g5:=EN h4 (by omega) (by omega) (by omega) (n:=us.length) (by omega)
 have g6:=EN h4 (by omega) (by omega) (by omega) (n:=n) (by omega)
 obtain ⟨t12,hL⟩:=vg ns c h4 (by omega) (by omega) (by omega) hu hul (some (.sh (bQ A B C D))) (some (.sh (bJ A B C D))) (some (.sh (.int (n:Nat)))) us.length 0 none (by omega)
 have e1:bh 1 (ak Cj (aa (ae 0) (aa (fC (.int 0)) ao))) [some (.sh (.scr (ns.map T.int))),none,none,none,none,none,none,none,none,none,none,none,none]=some (.nx [some (.sh (.scr (ns.map T.int))),some (.sh (.int c)),none,none,none,none,none,none,none,none,none,none,none]):=dg (aI _ (fM rfl rfl) c0) rfl
 have e2:eh 2 (aa (aG cU (ae 1) (fC (.int 4))) (aa (aG cq (fC (.int 1)) (aG cU (aG cP (ae 1) (fC (.int 4))) (fC (.int 2)))) (aa (aG cq (fC (.int 1)) (aG cU (aG cP (ae 1) (fC (.int 8))) (fC (.int 2)))) ao))) [some (.sh (.scr (ns.map T.int))),some (.sh (.int c)),none,none,none,none,none,none,none,none,none,none,none]=some (.nx [some (.sh (.scr (ns.map T.int))),some (.sh (.int c)),some (.own [.int (m:Nat),.int (i:Nat),.int (o:Nat)]),none,none,none,none,none,none,none,none,none,none]):=by
  have a1:=bA (g:=cU) (fa:=ae 1) (fb:=fC (.int 4)) (τ:=[some (.sh (.scr (ns.map T.int))),some (.sh (.int c)),none,none,none,none,none,none,none,none,none,none,none]) rfl rfl (qK (N:=c) (d:=4) (by decide))
  have a2:=bA (g:=cq) (fa:=fC (.int 1)) (τ:=[some (.sh (.scr (ns.map T.int))),some (.sh (.int c)),none,none,none,none,none,none,none,none,none,none,none]) rfl (bA (g:=cU) (fb:=fC (.int 2)) (bA (g:=cP) (fa:=ae 1) (fb:=fC (.int 4)) rfl rfl (yz (N:=c) (d:=4) (by decide) (cu (by decide) (by decide)))) rfl (qK (d:=2) (by decide))) ig
  have a3:=bA (g:=cq) (fa:=fC (.int 1)) (τ:=[some (.sh (.scr (ns.map T.int))),some (.sh (.int c)),none,none,none,none,none,none,none,none,none,none,none]) rfl (bA (g:=cU) (fb:=fC (.int 2)) (bA (g:=cP) (fa:=ae 1) (fb:=fC (.int 8)) rfl rfl (yz (N:=c) (d:=8) (by decide) (cu (by decide) (by decide)))) rfl (qK (d:=2) (by decide))) ig
  rw [em] at a1
  rw [ei,show (1:Int) + ((i':Nat):Int)=((i:Nat):Int) by omega] at a2
  rw [eo,show (1:Int) + ((o':Nat):Int)=((o:Nat):Int) by omega] at a3
  unfold eh
  rw [iw a1 a2 a3,Option.bind_some]
  exact if_pos Lc
 have e3:bh 3 (ak Hq (aa (ak Cj (aa (ae 0) (aa (fC (.int 1)) ao))) (aa (aG bN (ae 2) (fC (.int 0))) (aa (aG bN (ae 2) (fC (.int 1))) (aa (aG bN (ae 2) (fC (.int 2))) ao))))) [some (.sh (.scr (ns.map T.int))),some (.sh (.int c)),some (.own [.int (m:Nat),.int (i:Nat),.int (o:Nat)]),none,none,none,none,none,none,none,none,none,none]=some (.nx (kS ns c m i o (some (.sh (bQ A B C D))) none none none none none none)):=by
  have a1:ak Cj (aa (ae 0) (aa (fC (.int 1)) ao)) [some (.sh (.scr (ns.map T.int))),some (.sh (.int c)),some (.own [.int (m:Nat),.int (i:Nat),.int (o:Nat)]),none,none,none,none,none,none,none,none,none,none]=some (.int d,[some (.sh (.scr (ns.map T.int))),some (.sh (.int c)),some (.own [.int (m:Nat),.int (i:Nat),.int (o:Nat)]),none,none,none,none,none,none,none,none,none,none]):=aI _ (fM rfl rfl) c1
  have a2:aG bN (ae 2) (fC (.int 0)) [some (.sh (.scr (ns.map T.int))),some (.sh (.int c)),some (.own [.int (m:Nat),.int (i:Nat),.int (o:Nat)]),none,none,none,none,none,none,none,none,none,none]=some (.int (m:Nat),kS ns c m i o none none none none none none none):=rfl
  exact dg (CH [.int d,.int (m:Nat),.int (i:Nat),.int (o:Nat)] (rA a1 (rA a2 (fM (bA (a:=pC m i o) (b:=.int 1) rfl rfl rfl) (bA (a:=pC m i o) (b:=.int 2) rfl rfl rfl)))) e4) rfl
 have e5:bh 4 (yB fj Ht (aa (aG bN (ae 3) (fC (.int 0))) (aa (aG bN (ae 3) (fC (.int 1))) (aa (aG bN (ae 3) (fC (.int 2))) (aa (aG bN (ae 3) (fC (.int 3))) ao))))) (kS ns c m i o (some (.sh (bQ A B C D))) none none none none none none)=some (.nx (kS ns c m i o (some (.sh (bQ A B C D))) (some (.sh (bJ A B C D))) none none none none none)):=by
  refine dg (t:=bJ A B C D) (τ1:=kS ns c m i o (some (.sh (bQ A B C D))) none none none none none none) ?_ rfl
  unfold yB
  rw [uk (τ:=kS ns c m i o (some (.sh (bQ A B C D))) none none none none none none) (bA (g:=bN) (fa:=ae 3) (fb:=fC (.int 0)) (a:=bQ A B C D) (b:=.int 0) (t:=ai A) rfl rfl rfl) (bA (g:=bN) (fa:=ae 3) (fb:=fC (.int 1)) (a:=bQ A B C D) (b:=.int 1) (t:=ai B) rfl rfl rfl) (bA (g:=bN) (fa:=ae 3) (fb:=fC (.int 2)) (a:=bQ A B C D) (b:=.int 2) (t:=ai C) rfl rfl rfl) (bA (g:=bN) (fa:=ae 3) (fb:=fC (.int 3)) (a:=bQ A B C D) (b:=.int 3) (t:=ai D) rfl rfl rfl),Option.bind_some,g1]
  rfl
 have e6:bh 5 (aG cU (ak Cj (aa (ae 0) (aa (fC (.int 2)) ao))) (fC (.int 13))) (kS ns c m i o (some (.sh (bQ A B C D))) (some (.sh (bJ A B C D))) none none none none none)=some (.nx (kS ns c m i o (some (.sh (bQ A B C D))) (some (.sh (bJ A B C D))) (some (.sh (.int (n:Nat)))) none none none none)):=by
  have a1:=bA (g:=cU) (fb:=fC (.int 13)) (τ:=kS ns c m i o (some (.sh (bQ A B C D))) (some (.sh (bJ A B C D))) none none none none none) (aI (g:=Cj) (f:=aa (ae 0) (aa (fC (.int 2)) ao)) [.scr (ns.map T.int),.int (2:Nat)] (fM rfl rfl) c2) rfl (qK (d:=13) (by decide))
  rw [en] at a1
  exact dg a1 rfl
 have e7:oz 6 7 8 (iE rF (aa (ae 4) (aa (ae 5) ao))) (cj (cn (ak Ft (aa (ae 6) (aa (ae 3) (aa (ae 5) (aa (aG bN (ae 2) (fC (.int 1))) ao))))))) (kS ns c m i o (some (.sh (bQ A B C D))) (some (.sh (bJ A B C D))) (some (.sh (.int (n:Nat)))) none none none none)=some (.nx (kS ns c m i o (some (.sh (bQ A B C D))) (some (.sh (bJ A B C D))) (some (.sh (.int (n:Nat)))) none none none none)):=by
  have key:cj (cn (ak Ft (aa (ae 6) (aa (ae 3) (aa (ae 5) (aa (aG bN (ae 2) (fC (.int 1))) ao)))))) [some (.sh (.scr (ns.map T.int))),some (.sh (.int c)),some (.sh (pC m i o)),some (.sh (bQ A B C D)),some (.sh (bJ A B C D)),some (.sh (.int (n:Nat))),some (.sh (.lst (dM A B C D i 0 n))),none,none,none,none,none,none]=some (false,[some (.sh (.scr (ns.map T.int))),some (.sh (.int c)),some (.sh (pC m i o)),some (.sh (bQ A B C D)),some (.sh (bJ A B C D)),some (.sh (.int (n:Nat))),some (.sh (.lst (dM A B C D i 0 n))),none,none,none,none,none,none]):=FN (aI [.lst (dM A B C D i 0 n),bQ A B C D,.int (n:Nat),.int (i:Nat)] (uk rfl rfl rfl (bA (a:=pC m i o) (b:=.int 1) rfl rfl rfl)) g3)
  exact Ed (τ':=kS ns c m i o (some (.sh (bQ A B C D))) (some (.sh (bJ A B C D))) (some (.sh (.int (n:Nat)))) none none none none) (yp [bJ A B C D,.int (n:Nat)] (fM rfl rfl) g2) (uH A B C D i n) rfl rfl rfl (by rw [Cz]; exact key)
 have e8:bh 9 (bR 1 [2] (aW (wI (ae 0) (dG (fC (.int 3))) (dG (fC (.int 11))))) (aj 0) av (ak AR (aa (ae 0) (aa (aG bN (ae 1) (fC (.int 1))) ao)))) (kS ns c m i o (some (.sh (bQ A B C D))) (some (.sh (bJ A B C D))) (some (.sh (.int (n:Nat)))) none none none none)=some (.nx (kS ns c m i o (some (.sh (bQ A B C D))) (some (.sh (bJ A B C D))) (some (.sh (.int (n:Nat)))) (some (.sh (ai us))) none none none)):=by
  have a1:wI (ae 0) (dG (fC (.int 3))) (dG (fC (.int 11))) (kS ns c m i o (some (.sh (bQ A B C D))) (some (.sh (bJ A B C D))) (some (.sh (.int (n:Nat)))) none none none none)=some (.lst (ks.map T.int),kS ns c m i o (some (.sh (bQ A B C D))) (some (.sh (bJ A B C D))) (some (.sh (.int (n:Nat)))) none none none none):=BY rfl (jk rfl) (jk rfl) hks
  exact dg (t:=ai us) (bF (no:=1) (cap:=[2]) (fg:=aj 0) (ft:=av) (Jh a1) rfl rfl hcomp) rfl
 have e9:bh 10 (aG bN (ak Hs (aa (ae 4) (aa (aG wL (kl (aa (fz (aa (fC (.int 0)) (aa (fC (.int 1)) ao))) ao)) (aG bN (ae 2) (fC (.int 0)))) (aa (ae 9) ao)))) (fC (.int 0))) (kS ns c m i o (some (.sh (bQ A B C D))) (some (.sh (bJ A B C D))) (some (.sh (.int (n:Nat)))) (some (.sh (ai us))) none none none)=some (.nx (kS ns c m i o (some (.sh (bQ A B C D))) (some (.sh (bJ A B C D))) (some (.sh (.int (n:Nat)))) (some (.sh (ai us))) (some (.sh (ai (dH A B C D i o [] us)))) none none)):=dg (bA (g:=bN) (b:=.int 0) (aI [bJ A B C D,aD (List.replicate m 0),ai us] (iw rfl (bA (g:=wL) (Gr (JC 0 1 _)) (bA (a:=pC m i o) (b:=.int 0) (t:=.int (m:Nat)) rfl rfl rfl) (FX (by omega))) rfl) g4) rfl rfl) rfl
 have ul:ak bM (aa (ae 9) ao) (kS ns c m i o (some (.sh (bQ A B C D))) (some (.sh (bJ A B C D))) (some (.sh (.int (n:Nat)))) (some (.sh (ai us))) (some (.sh (ai (dH A B C D i o [] us)))) none none)=some (.int (us.length:Nat),kS ns c m i o (some (.sh (bQ A B C D))) (some (.sh (bJ A B C D))) (some (.sh (.int (n:Nat)))) (some (.sh (ai us))) (some (.sh (ai (dH A B C D i o [] us)))) none none):=aI [ai us] (dS rfl) (len_tab us)
 have e10:bh 11 (ak JK (aa (ae 4) (aa (ak bM (aa (ae 9) ao)) ao))) (kS ns c m i o (some (.sh (bQ A B C D))) (some (.sh (bJ A B C D))) (some (.sh (.int (n:Nat)))) (some (.sh (ai us))) (some (.sh (ai (dH A B C D i o [] us)))) none none)=some (.nx (kS ns c m i o (some (.sh (bQ A B C D))) (some (.sh (bJ A B C D))) (some (.sh (.int (n:Nat)))) (some (.sh (ai us))) (some (.sh (ai (dH A B C D i o [] us)))) (some (.sh (.lst (dM A B C D i 0 us.length)))) none)):=dg (aI [bJ A B C D,.int (us.length:Nat)] (fM rfl ul) g5) rfl
 have hr:=lj (f:=ak bM (aa (ae 9) ao)) (τ:=kS ns c m i o (some (.sh (bQ A B C D))) (some (.sh (bJ A B C D))) (some (.sh (.int (n:Nat)))) (some (.sh (ai us))) (some (.sh (ai (dH A B C D i o [] us)))) (some (.sh (.lst (dM A B C D i 0 us.length)))) none) (n:=((us.length:Nat):Int)) (aI [ai us] (dS rfl) (len_tab us)) (by omega) (by omega)
 rw [Int.toNat_natCast] at hr
 refine dN rfl ?_
 show uq fj Cj Hq Ft AR Hs JK Fy rF Ht [some (.sh (.scr (ns.map T.int))),none,none,none,none,none,none,none,none,none,none,none,none]=_
 unfold uq
 rw [br e1,br e2,br e3,br e5,br e6,br e7,br e8,br e9,br e10]
 show aV (fO (dB (aa (ak bM (aa (ae 9) ao)) ao)) (aj 12) sN) _ _=_
 rw [br (kN hr hL)]
 exact fQ (aI [.lst (dM A B C D i 0 n),bQ A B C D,.int (n:Nat),.int (i:Nat)] (uk (aI [bJ A B C D,.int (n:Nat)] (fM rfl rfl) g6) rfl rfl (bA (a:=pC m i o) (b:=.int 1) rfl rfl rfl)) g3)
open PySem PySem.Spec PyProof.Rows L2 TM
theorem oI {α:Type} {us:List α} (h:us.length=1):∃ a,us=[a]:=List.length_eq_one_iff.mp h
theorem gu {α:Type} {us:List α} (h:us.length=2):∃ a b,us=[a,b]:=by
 rcases us with _ | ⟨a,us⟩
 ·cases h
 ·obtain ⟨b,rfl⟩:=oI (us:=us) (by simpa using h)
  exact ⟨a,b,rfl⟩
theorem vd {α:Type} {us:List α} (h:us.length=3):∃ a b c,us=[a,b,c]:=by
 rcases us with _ | ⟨a,us⟩
 ·cases h
 ·obtain ⟨b,c,rfl⟩:=gu (us:=us) (by simpa using h)
  exact ⟨a,b,c,rfl⟩
theorem zX {α:Type} {us:List α} (h:us.length=4):∃ a b c d,us=[a,b,c,d]:=by
 rcases us with _ | ⟨a,us⟩
 ·cases h
 ·obtain ⟨b,c,d,rfl⟩:=vd (us:=us) (by simpa using h)
  exact ⟨a,b,c,d,rfl⟩
theorem Kv {α:Type} {us:List α} (h:us.length=5):∃ a b c d e,us=[a,b,c,d,e]:=by
 rcases us with _ | ⟨a,us⟩
 ·cases h
 ·obtain ⟨b,c,d,e,rfl⟩:=zX (us:=us) (by simpa using h)
  exact ⟨a,b,c,d,e,rfl⟩
def fo (s:Stmt) (nm qn:Str) (pm:Value) (c:Addr):Obj:=⟨.type "function", none,.func (PySem.W.fnOf nm qn (iD s) (dF s) (aw s) .none .none .none pm none (.ref c) .none),#[]⟩
theorem fk {K:PySem.W.Frag} (st:Stmt) (f c:Addr) (nm qn:Str) (pm:Value) (l:K.lookup f=some (fo st nm qn pm c)) (h:PySem.W.codeIn K (.ref c) qn=true):eY K nm qn st f (PySem.W.fnOf nm qn (iD st) (dF st) (aw st) .none .none .none pm none (.ref c) .none):=FQ l h (by unfold PySem.W.keepIn; dsimp only; rw [l]; rfl)
abbrev HR:List T -> Option T:=(cz 13 1 (uq 333 (Cj) (Hq) (Ft) (AR) (Hs) (fun ts=>((rF) ts).bind fun o=>some o.tr) (Fy) (rF) (Ht)))
set_option maxHeartbeats 0 in
theorem all_mk {w:World} {h:Heap} {mg:Str -> Option Value} {fa:Addr} (X:(kk w.params).In h) (G:h.Ns mainGlobals mg) (hfa:mg "law" = some (.ref fa)) :
  ∃ fd:FuncData,(∀ (s:Shared) (v:Value),BindsTo s fd ⟨[v],[]⟩ [("_law_script", v)]) /\ ∀ base:Heap,(kk w.params).In base -> base.Ns mainGlobals mg -> gb pg w (kk w.params) mg base nC 8 fa fd ["_law_script"] (spT (kk w.params) 1 HR):=by
 have mq:∀ (x:Str) (v:Value),PySem.W.nsIn (kk w.params) mainGlobals x=some (some v) -> mg x=some v:=fun x v e=>PySem.W.mg_of X G e
 have mn:∀ x:Str,PySem.W.nsIn (kk w.params) mainGlobals x=some none -> mg x=none:=fun x e=>PySem.W.mg_none_of X G e
 have e:=hfa.symm.trans (mq "law" (.ref 461) (by kernel_rfl))
 cases e
 have a0:=fk (K:=kk w.params) jm 365 364 "_law_cell" "_law_cell" jh (by kernel_rfl) (by kernel_rfl)
 have b0:=a0.binds (ps:=["_law_script", "_law_k"]) fun _ _ _ _ _ _ us hl=>by obtain ⟨a,b,rfl⟩:=gu hl; rfl
 have c0:=mq "_law_cell" (.ref 365) (by kernel_rfl)
 have d0:=fk (K:=kk w.params) gz 379 378 "_law_divisor" "_law_divisor" jh (by kernel_rfl) (by kernel_rfl)
 have e0:=d0.binds (ps:=["_law_one", "_law_other"]) fun _ _ _ _ _ _ us hl=>by obtain ⟨a,b,rfl⟩:=gu hl; rfl
 have f0:=mq "_law_divisor" (.ref 379) (by kernel_rfl)
 have g0:=fk (K:=kk w.params) jo 386 385 "_law_frac" "_law_frac" jh (by kernel_rfl) (by kernel_rfl)
 have i0:=g0.binds (ps:=["_law_top", "_law_bottom"]) fun _ _ _ _ _ _ us hl=>by obtain ⟨a,b,rfl⟩:=gu hl; rfl
 have j0:=mq "_law_frac" (.ref 386) (by kernel_rfl)
 have k0:=fk (K:=kk w.params) iJ 372 371 "_law_mixed" "_law_mixed" jh (by kernel_rfl) (by kernel_rfl)
 have l0:=k0.binds (ps:=["_law_cell_here", "_law_k"]) fun _ _ _ _ _ _ us hl=>by obtain ⟨a,b,rfl⟩:=gu hl; rfl
 have o0:=mq "_law_mixed" (.ref 372) (by kernel_rfl)
 have q0:=fk (K:=kk w.params) gA 393 392 "_law_numbers" "_law_numbers" jh (by kernel_rfl) (by kernel_rfl)
 have r0:=q0.binds (ps:=["_law_cell_here", "_law_many"]) fun _ _ _ _ _ _ us hl=>by obtain ⟨a,b,rfl⟩:=gu hl; rfl
 have s0:=mq "_law_numbers" (.ref 393) (by kernel_rfl)
 have t0:=fk (K:=kk w.params) jt 398 397 "_law_rows" "_law_rows" jh (by kernel_rfl) (by kernel_rfl)
 have u0:=t0.binds (ps:=["_law_numbers_here", "_law_many", "_law_wide"]) fun _ _ _ _ _ _ us hl=>by obtain ⟨a,b,c,rfl⟩:=vd hl; rfl
 have v0:=mq "_law_rows" (.ref 398) (by kernel_rfl)
 have y0:=fk (K:=kk w.params) jn 405 404 "_law_four" "_law_four" jh (by kernel_rfl) (by kernel_rfl)
 have z0:=y0.binds (ps:=["_law_cell_here", "_law_many", "_law_ins", "_law_outs"]) fun _ _ _ _ _ _ us hl=>by obtain ⟨a,b,c,d,rfl⟩:=zX hl; rfl
 have a1:=mq "_law_four" (.ref 405) (by kernel_rfl)
 have b1:=fk (K:=kk w.params) jq 410 409 "_law_ints" "_law_ints" jh (by kernel_rfl) (by kernel_rfl)
 have c1:=b1.binds (ps:=["_law_table"]) fun _ _ _ _ _ _ us hl=>by obtain ⟨a,rfl⟩:=oI hl; rfl
 have d1:=mq "_law_ints" (.ref 410) (by kernel_rfl)
 have e1:=fk (K:=kk w.params) mh 420 419 "_law_is" "_law_is" jh (by kernel_rfl) (by kernel_rfl)
 have f1:=e1.binds (ps:=["_law_found", "_law_value", "_law_scale"]) fun _ _ _ _ _ _ us hl=>by obtain ⟨a,b,c,rfl⟩:=vd hl; rfl
 have g1:=mq "_law_is" (.ref 420) (by kernel_rfl)
 have i1:=fk (K:=kk w.params) ku 427 426 "_law_are" "_law_are" jh (by kernel_rfl) (by kernel_rfl)
 have j1:=i1.binds (ps:=["_law_found", "_law_values", "_law_scale"]) fun _ _ _ _ _ _ us hl=>by obtain ⟨a,b,c,rfl⟩:=vd hl; rfl
 have k1:=mq "_law_are" (.ref 427) (by kernel_rfl)
 have l1:=fk (K:=kk w.params) gy 432 431 "_law_columns" "_law_columns" jh (by kernel_rfl) (by kernel_rfl)
 have o1:=l1.binds (ps:=["_law_table", "_law_wide"]) fun _ _ _ _ _ _ us hl=>by obtain ⟨a,b,rfl⟩:=gu hl; rfl
 have q1:=mq "_law_columns" (.ref 432) (by kernel_rfl)
 have r1:=fk (K:=kk w.params) kv 415 414 "_law_dot" "_law_dot" jh (by kernel_rfl) (by kernel_rfl)
 have s1:=r1.binds (ps:=["_law_row", "_law_other"]) fun _ _ _ _ _ _ us hl=>by obtain ⟨a,b,rfl⟩:=gu hl; rfl
 have t1:=mq "_law_dot" (.ref 415) (by kernel_rfl)
 have u1:=fk (K:=kk w.params) iK 437 436 "_law_times" "_law_times" jh (by kernel_rfl) (by kernel_rfl)
 have v1:=u1.binds (ps:=["_law_table", "_law_other", "_law_wide"]) fun _ _ _ _ _ _ us hl=>by obtain ⟨a,b,c,rfl⟩:=vd hl; rfl
 have y1:=mq "_law_times" (.ref 437) (by kernel_rfl)
 have z1:=fk (K:=kk w.params) gx 442 441 "_law_answers" "_law_answers" jh (by kernel_rfl) (by kernel_rfl)
 have a2:=z1.binds (ps:=["_law_found", "_law_four_here", "_law_many", "_law_ins"]) fun _ _ _ _ _ _ us hl=>by obtain ⟨a,b,c,d,rfl⟩:=zX hl; rfl
 have b2:=mq "_law_answers" (.ref 442) (by kernel_rfl)
 have c2:=fk (K:=kk w.params) kz 179 178 "is_whole" "is_whole" Az (by kernel_rfl) (by kernel_rfl)
 have d2:=c2.binds (ps:=["thing"]) fun _ _ _ _ _ _ us hl=>by obtain ⟨a,rfl⟩:=oI hl; rfl
 have e2:=mq "is_whole" (.ref 179) (by kernel_rfl)
 have f2:=fk (K:=kk w.params) G0 131 130 "half" "half" JT (by kernel_rfl) (by kernel_rfl)
 have g2:=f2.binds (ps:=["one", "other"]) fun _ _ _ _ _ _ us hl=>by obtain ⟨a,b,rfl⟩:=gu hl; rfl
 have i2:=mq "half" (.ref 131) (by kernel_rfl)
 have j2:=fk (K:=kk w.params) oZ 124 123 "common" "common" JT (by kernel_rfl) (by kernel_rfl)
 have k2:=j2.binds (ps:=["one", "other"]) fun _ _ _ _ _ _ us hl=>by obtain ⟨a,b,rfl⟩:=gu hl; rfl
 have l2:=mq "common" (.ref 124) (by kernel_rfl)
 have o2:=fk (K:=kk w.params) hU 193 192 "is_fraction" "is_fraction" Az (by kernel_rfl) (by kernel_rfl)
 have q2:=o2.binds (ps:=["thing"]) fun _ _ _ _ _ _ us hl=>by obtain ⟨a,rfl⟩:=oI hl; rfl
 have r2:=mq "is_fraction" (.ref 193) (by kernel_rfl)
 have s2:=fk (K:=kk w.params) pe 219 218 "is_row" "is_row" pT (by kernel_rfl) (by kernel_rfl)
 have t2:=s2.binds (ps:=["thing", "many"]) fun _ _ _ _ _ _ us hl=>by obtain ⟨a,b,rfl⟩:=gu hl; rfl
 have u2:=mq "is_row" (.ref 219) (by kernel_rfl)
 have v2:=fk (K:=kk w.params) iL 278 277 "refuse_run" "refuse_run" JU (by kernel_rfl) (by kernel_rfl)
 have y2:=v2.binds (ps:=["cells", "ins", "start", "inputs"]) fun _ _ _ _ _ _ us hl=>by obtain ⟨a,b,c,d,rfl⟩:=zX hl; rfl
 have z2:=mq "refuse_run" (.ref 278) (by kernel_rfl)
 have a3:=fk (K:=kk w.params) mr 273 272 "widened" "widened" pT (by kernel_rfl) (by kernel_rfl)
 have b3:=a3.binds (ps:=["one", "other"]) fun _ _ _ _ _ _ us hl=>by obtain ⟨a,b,rfl⟩:=gu hl; rfl
 have c3:=mq "widened" (.ref 273) (by kernel_rfl)
 have d3:=fk (K:=kk w.params) fW 258 257 "shared_bottom" "shared_bottom" pT (by kernel_rfl) (by kernel_rfl)
 have e3:=d3.binds (ps:=["row"]) fun _ _ _ _ _ _ us hl=>by obtain ⟨a,rfl⟩:=oI hl; rfl
 have f3:=mq "shared_bottom" (.ref 258) (by kernel_rfl)
 have g3:=fk (K:=kk w.params) ph 263 262 "raised" "raised" pT (by kernel_rfl) (by kernel_rfl)
 have i3:=g3.binds (ps:=["row", "low"]) fun _ _ _ _ _ _ us hl=>by obtain ⟨a,b,rfl⟩:=gu hl; rfl
 have j3:=mq "raised" (.ref 263) (by kernel_rfl)
 have k3:=fk (K:=kk w.params) pf 246 245 "lifted" "lifted" pT (by kernel_rfl) (by kernel_rfl)
 have l3:=k3.binds (ps:=["row"]) fun _ _ _ _ _ _ us hl=>by obtain ⟨a,rfl⟩:=oI hl; rfl
 have o3:=mq "lifted" (.ref 246) (by kernel_rfl)
 have q3:=fk (K:=kk w.params) pj 268 267 "turned" "turned" pT (by kernel_rfl) (by kernel_rfl)
 have r3:=q3.binds (ps:=["table", "wide"]) fun _ _ _ _ _ _ us hl=>by obtain ⟨a,b,rfl⟩:=gu hl; rfl
 have s3:=mq "turned" (.ref 268) (by kernel_rfl)
 have t3:=fk (K:=kk w.params) tP 214 213 "times" "times" Az (by kernel_rfl) (by kernel_rfl)
 have u3:=t3.binds (ps:=["one", "other"]) fun _ _ _ _ _ _ us hl=>by obtain ⟨a,b,rfl⟩:=gu hl; rfl
 have v3:=mq "times" (.ref 214) (by kernel_rfl)
 have y3:=fk (K:=kk w.params) xE 207 206 "plus" "plus" Az (by kernel_rfl) (by kernel_rfl)
 have z3:=y3.binds (ps:=["one", "other"]) fun _ _ _ _ _ _ us hl=>by obtain ⟨a,b,rfl⟩:=gu hl; rfl
 have a4:=mq "plus" (.ref 207) (by kernel_rfl)
 have b4:=fk (K:=kk w.params) mm 231 230 "weighed" "weighed" pT (by kernel_rfl) (by kernel_rfl)
 have c4:=b4.binds (ps:=["one", "other"]) fun _ _ _ _ _ _ us hl=>by obtain ⟨a,b,rfl⟩:=gu hl; rfl
 have d4:=mq "weighed" (.ref 231) (by kernel_rfl)
 have e4:=fk (K:=kk w.params) xD 200 199 "frac" "frac" Az (by kernel_rfl) (by kernel_rfl)
 have f4:=e4.binds (ps:=["top", "bottom"]) fun _ _ _ _ _ _ us hl=>by obtain ⟨a,b,rfl⟩:=gu hl; rfl
 have g4:=mq "frac" (.ref 200) (by kernel_rfl)
 have i4:=fk (K:=kk w.params) fF 251 250 "weighed_lifted" "weighed_lifted" pT (by kernel_rfl) (by kernel_rfl)
 have j4:=i4.binds (ps:=["one", "other"]) fun _ _ _ _ _ _ us hl=>by obtain ⟨a,b,rfl⟩:=gu hl; rfl
 have k4:=mq "weighed_lifted" (.ref 251) (by kernel_rfl)
 have l4:=fk (K:=kk w.params) ml 241 240 "product" "product" pT (by kernel_rfl) (by kernel_rfl)
 have o4:=l4.binds (ps:=["one", "other", "wide"]) fun _ _ _ _ _ _ us hl=>by obtain ⟨a,b,c,rfl⟩:=vd hl; rfl
 have q4:=mq "product" (.ref 241) (by kernel_rfl)
 have r4:=fk (K:=kk w.params) mj 236 235 "applied" "applied" pT (by kernel_rfl) (by kernel_rfl)
 have s4:=r4.binds (ps:=["table", "row"]) fun _ _ _ _ _ _ us hl=>by obtain ⟨a,b,rfl⟩:=gu hl; rfl
 have t4:=mq "applied" (.ref 236) (by kernel_rfl)
 have u4:=fk (K:=kk w.params) fV 304 303 "cells" "System.cells" md5 (by kernel_rfl) (by kernel_rfl)
 have v4:=u4.binds (ps:=["self"]) fun _ _ _ _ _ _ us hl=>by obtain ⟨a,rfl⟩:=oI hl; rfl
 have y4:=fk (K:=kk w.params) hG 311 310 "ins" "System.ins" md5 (by kernel_rfl) (by kernel_rfl)
 have z4:=y4.binds (ps:=["self"]) fun _ _ _ _ _ _ us hl=>by obtain ⟨a,rfl⟩:=oI hl; rfl
 have a5:=fk (K:=kk w.params) fB 323 322 "tables" "System.tables" md5 (by kernel_rfl) (by kernel_rfl)
 have b5:=a5.binds (ps:=["self"]) fun _ _ _ _ _ _ us hl=>by obtain ⟨a,rfl⟩:=oI hl; rfl
 have c5:=fk (K:=kk w.params) BU 351 350 "run" "run" md5 (by kernel_rfl) (by kernel_rfl)
 have d5:=c5.binds (ps:=["system", "start", "inputs"]) fun _ _ _ _ _ _ us hl=>by obtain ⟨a,b,c,rfl⟩:=vd hl; rfl
 have e5:=mq "run" (.ref 351) (by kernel_rfl)
 have f5:=fk (K:=kk w.params) fE 186 185 "is_whole_below" "is_whole_below" Az (by kernel_rfl) (by kernel_rfl)
 have g5:=f5.binds (ps:=["thing", "many"]) fun _ _ _ _ _ _ us hl=>by obtain ⟨a,b,rfl⟩:=gu hl; rfl
 have i5:=mq "is_whole_below" (.ref 186) (by kernel_rfl)
 have j5:=fk (K:=kk w.params) hV 285 284 "refuse_many" "refuse_many" JU (by kernel_rfl) (by kernel_rfl)
 have k5:=j5.binds (ps:=["many"]) fun _ _ _ _ _ _ us hl=>by obtain ⟨a,rfl⟩:=oI hl; rfl
 have l5:=mq "refuse_many" (.ref 285) (by kernel_rfl)
 have o5:=fk (K:=kk w.params) mi 358 357 "answers" "answers" md5 (by kernel_rfl) (by kernel_rfl)
 have q5:=o5.binds (ps:=["system", "many"]) fun _ _ _ _ _ _ us hl=>by obtain ⟨a,b,rfl⟩:=gu hl; rfl
 have r5:=mq "answers" (.ref 358) (by kernel_rfl)
 have s5:=fk (K:=kk w.params) jr 449 448 "_law_plus" "_law_plus" jh (by kernel_rfl) (by kernel_rfl)
 have t5:=s5.binds (ps:=["_law_one", "_law_other"]) fun _ _ _ _ _ _ us hl=>by obtain ⟨a,b,rfl⟩:=gu hl; rfl
 have u5:=mq "_law_plus" (.ref 449) (by kernel_rfl)
 have v5:=fk (K:=kk w.params) hJ 456 455 "_law_summed" "_law_summed" jh (by kernel_rfl) (by kernel_rfl)
 have y5:=v5.binds (ps:=["_law_found", "_law_inputs", "_law_turn", "_law_k"]) fun _ _ _ _ _ _ us hl=>by obtain ⟨a,b,c,d,rfl⟩:=zX hl; rfl
 have z5:=mq "_law_summed" (.ref 456) (by kernel_rfl)
 have a6:=fk (K:=kk w.params) ky 224 223 "is_table" "is_table" pT (by kernel_rfl) (by kernel_rfl)
 have b6:=a6.binds (ps:=["thing", "many", "wide"]) fun _ _ _ _ _ _ us hl=>by obtain ⟨a,b,c,rfl⟩:=vd hl; rfl
 have c6:=mq "is_table" (.ref 224) (by kernel_rfl)
 have d6:=fk (K:=kk w.params) ju 344 343 "is_system" "is_system" md5 (by kernel_rfl) (by kernel_rfl)
 have e6:=d6.binds (ps:=["move", "push", "look", "through"]) fun _ _ _ _ _ _ us hl=>by obtain ⟨a,b,c,d,rfl⟩:=zX hl; rfl
 have f6:=mq "is_system" (.ref 344) (by kernel_rfl)
 have g6:=fk (K:=kk w.params) eK 297 296 "__init__" "System.__init__" md5 (by kernel_rfl) (by kernel_rfl)
 have i6:=g6.binds (ps:=["self", "move", "push", "look", "through"]) fun _ _ _ _ _ _ us hl=>by obtain ⟨a,b,c,d,e,rfl⟩:=Kv hl; rfl
 have j6:=fk (K:=kk w.params) qP 461 460 "law" "law" jh (by kernel_rfl) (by kernel_rfl)
 have k6:=j6.binds (ps:=["_law_script"]) fun _ _ _ _ _ _ us hl=>by obtain ⟨a,rfl⟩:=oI hl; rfl
 have l6:=mq "law" (.ref 461) (by kernel_rfl)
 have o6:mX (kk w.params) 333:=⟨by kernel_rfl,by kernel_rfl,by kernel_rfl,by kernel_rfl⟩
 have q6:=mq "System" (.ref 333) (by kernel_rfl)
 have r6:∀ C ∈ ([333]:List Addr),mX (kk w.params) C /\ fu (kk w.params) C "four" := (List.forall_mem_cons.mpr ⟨⟨o6,(by kernel_rfl:PySem.W.findIn (kk w.params) (.ref 333) "four" = some none)⟩,(fun _ h=>absurd h List.not_mem_nil)⟩)
 have s6:=mn "len" (by kernel_rfl)
 have t6:=mn "abs" (by kernel_rfl)
 have u6:=mn "range" (by kernel_rfl)
 have v6:=mn "tuple" (by kernel_rfl)
 have y6:=mn "isinstance" (by kernel_rfl)
 have z6:=mn "int" (by kernel_rfl)
 have a7:=mn "bool" (by kernel_rfl)
 have b7:=mn "list" (by kernel_rfl)
 have c7:=mn "zip" (by kernel_rfl)
 have d7:=mn "sum" (by kernel_rfl)
 have e7:=mn "all" (by kernel_rfl)
 have f7:=mn "max" (by kernel_rfl)
 have g7:=mq "SHORT" (.int (4000) 315) (by kernel_rfl)
 have i7:=mq "MOST_TURNS" (.int (60) 555) (by kernel_rfl)
 have j7:=mq "NOUGHT" (.ref 172) (by kernel_rfl)
 have k7:(kk w.params).lookup 172=some ⟨.type "tuple", none,.seq #[.int (0) 419,.int (1) 420] 0,#[]⟩:=by kernel_rfl
 have l7:=mq "SHORT_QUOTIENT" (.int (8000) 319) (by kernel_rfl)
 have o7:=mq "MOST_LINES" (.int (2) 574) (by kernel_rfl)
 have q7:=mq "MOST_CELLS" (.int (8) 572) (by kernel_rfl)
 refine ⟨PySem.W.fnOf "law" "law" (iD qP) (dF qP) (aw qP) .none .none .none jh none (.ref 460) .none,fun s v=>.of_eq rfl,fun base _ _=>?_⟩
 have r7:Def pg w (kk w.params) mg base 1 "_law_cell" 2 (Cj):=tf a0 b0 c0  s6
 have s7:Def pg w (kk w.params) mg base 1 "_law_divisor" 2 (cK):=(nv (P:=pg) (w:=w) (base:=base) (k:=0) B d0 e0 f0  t6).imp pF
 have t7:Def pg w (kk w.params) mg base 2 "_law_frac" 2 (yP):=(tm (P:=pg) (w:=w) (base:=base) (k:=1) g0 i0 j0 (s7.mono (by decide)) ).imp vS
 have u7:Def pg w (kk w.params) mg base 1 "_law_mixed" 2 (EH):=qg k0 l0 o0  
 have v7:Def pg w (kk w.params) mg base 3 "_law_numbers" 2 (AR):=ny q0 r0 s0 (t7.mono (by decide)) (u7.mono (by decide)) u6
 have y7:Def pg w (kk w.params) mg base 1 "_law_rows" 3 (EJ):=tw t0 u0 v0  u6
 have z7:Def pg w (kk w.params) mg base 4 "_law_four" 4 (Hq):=tj y0 z0 a1 (v7.mono (by decide)) (y7.mono (by decide)) 
 have a8:Def pg w (kk w.params) mg base 1 "_law_ints" 1 (EG):=tq b1 c1 d1  
 have b8:Def pg w (kk w.params) mg base 2 "_law_is" 3 (Fv):=xo e1 f1 g1 (s7.mono (by decide)) v6 y6 s6 z6 a7
 have c8:Def pg w (kk w.params) mg base 3 "_law_are" 3 (CN):=vv i1 j1 k1 (b8.mono (by decide)) b7 y6 s6 c7
 have d8:Def pg w (kk w.params) mg base 1 "_law_columns" 2 (HP):=nu l1 o1 q1  u6
 have e8:Def pg w (kk w.params) mg base 1 "_law_dot" 2 (Ho):=vw r1 s1 t1  c7 d7
 have f8:Def pg w (kk w.params) mg base 2 "_law_times" 3 (CS):=qh u1 v1 y1 (d8.mono (by decide)) (e8.mono (by decide)) 
 have g8:Def pg w (kk w.params) mg base 4 "_law_answers" 4 (Ft):=nq z1 a2 b2 (a8.mono (by decide)) (c8.mono (by decide)) (f8.mono (by decide)) b7 y6 s6 c7
 have i8:Def pg w (kk w.params) mg base 1 "is_whole" 1 (EF):=vy c2 d2 e2  z6 y6 a7
 have j8:Def pg w (kk w.params) mg base 0 "half" 2 (fun _=>none):=Def.zero f2 g2 i2
 have k8:Def pg w (kk w.params) mg base 1 "common" 2 (cK):=(Aa (P:=pg) (w:=w) (base:=base) (k:=0) B j2 k2 l2 (j8.mono (by decide)) t6 g7).imp An
 have l8:Def pg w (kk w.params) mg base 2 "is_fraction" 1 (EE):=oT o2 q2 r2 (i8.mono (by decide)) (k8.mono (by decide)) v6 y6 s6
 have o8:Def pg w (kk w.params) mg base 3 "is_row" 2 (AN):=Ab s2 t2 u2 (l8.mono (by decide)) b7 y6 s6 e7
 have q8:Def pg w (kk w.params) mg base 4 "refuse_run" 4 (HU):=qi v2 y2 z2 (o8.mono (by decide)) b7 y6 s6 e7 i7
 have r8:Def pg w (kk w.params) mg base 1 "widened" 2 (EL):=xr a3 b3 c3  c7
 have s8:Def pg w (kk w.params) mg base 2 "shared_bottom" 1 (JS):=(lX (P:=pg) (w:=w) (base:=base) (k:=1) d3 e3 f3 (k8.mono (by decide)) ).imp mz
 have t8:Def pg w (kk w.params) mg base 1 "raised" 2 (JR):=(Ad (P:=pg) (w:=w) (base:=base) (k:=0) g3 i3 j3  ).imp Ao
 have u8:Def pg w (kk w.params) mg base 3 "lifted" 1 (AQ):=Ac k3 l3 o3 (s8.mono (by decide)) (t8.mono (by decide)) f7
 have v8:iU pg w (kk w.params) mg base 1 "turned" 2 (IJ):=(xm (P:=pg) (w:=w) (base:=base) (k:=0) q3 r3 s3  u6).imp Ap
 have y8:Def pg w (kk w.params) mg base 2 "times" 2 (IH):=(BG (P:=pg) (w:=w) (base:=base) (k:=1) t3 u3 v3 (k8.mono (by decide)) ).imp B4
 have z8:Def pg w (kk w.params) mg base 2 "plus" 2 (Hv):=(DB (P:=pg) (w:=w) (base:=base) (k:=1) y3 z3 a4 (k8.mono (by decide)) ).imp Eb
 have a9:Def pg w (kk w.params) mg base 3 "weighed" 2 (JN):=xq b4 c4 d4 (y8.mono (by decide)) (z8.mono (by decide)) c7 j7 k7
 have b9:Def pg w (kk w.params) mg base 2 "frac" 2 (vh):=(DA (P:=pg) (w:=w) (base:=base) (k:=1) e4 f4 g4 (k8.mono (by decide)) l7).imp Ea
 have c9:Def pg w (kk w.params) mg base 4 "weighed_lifted" 2 (Ck):=lh i4 j4 k4 (a9.mono (by decide)) (b9.mono (by decide)) c7 d7
 have d9:iU pg w (kk w.params) mg base 5 "product" 3 (CQ):=vt (P:=pg) (w:=w) (base:=base) (k:=4) l4 o4 q4 (u8.mono (by decide)) (v8.plain.mono (by decide)) (c9.mono (by decide)) 
 have e9:Def pg w (kk w.params) mg base 6 "applied" 2 (ED):=xp r4 s4 t4 (d9.plain.mono (by decide)) 
 have f9:ja pg w (kk w.params) mg base 1 333 "cells" 1 (Fx):=lb u4 v4 o6 ⟨by kernel_rfl,by kernel_rfl,by kernel_rfl⟩ r6 s6
 have g9:ja pg w (kk w.params) mg base 1 333 "ins" 1 (yw):=nk y4 z4 o6 ⟨by kernel_rfl,by kernel_rfl,by kernel_rfl⟩ r6 s6
 have i9:jT pg w (kk w.params) mg base 1 333 "tables" 1 (EK):=kq a5 b5 o6 ⟨by kernel_rfl,by kernel_rfl,by kernel_rfl⟩ r6 v6 b7
 have j9:=i9.plain
 have k9:Def pg w (kk w.params) mg base 7 "run" 3 (Hs):=Gx c5 d5 e5 (q8.mono (by decide)) (r8.mono (by decide)) (e9.mono (by decide)) (List.forall_mem_cons.mpr ⟨f9.mono (by decide),(fun _ h=>absurd h List.not_mem_nil)⟩) (List.forall_mem_cons.mpr ⟨g9.mono (by decide),(fun _ h=>absurd h List.not_mem_nil)⟩) (List.forall_mem_cons.mpr ⟨j9.mono (by decide),(fun _ h=>absurd h List.not_mem_nil)⟩) b7
 have l9:Def pg w (kk w.params) mg base 2 "is_whole_below" 2 (JM):=lg f5 g5 i5 (i8.mono (by decide)) 
 have o9:Def pg w (kk w.params) mg base 3 "refuse_many" 1 (Hr):=oU j5 k5 l5 (l9.mono (by decide)) i7
 have q9:iU pg w (kk w.params) mg base 6 "answers" 2 (rF):=vq (P:=pg) (w:=w) (base:=base) (k:=5) FU o5 q5 r5 (o9.mono (by decide)) (d9.plain.mono (by decide)) (d9.mono (by decide)) (List.forall_mem_cons.mpr ⟨g9.mono (by decide),(fun _ h=>absurd h List.not_mem_nil)⟩) (i9.mono (by decide)) s6
 have r9:Def pg w (kk w.params) mg base 3 "_law_plus" 2 (HS):=tu s5 t5 u5 (t7.mono (by decide)) 
 have s9:Def pg w (kk w.params) mg base 4 "_law_summed" 4 (Fy):=oS v5 y5 z5 (t7.mono (by decide)) (r9.mono (by decide)) u6 c7
 have t9:Def pg w (kk w.params) mg base 4 "is_table" 3 (JL):=vx a6 b6 c6 (o8.mono (by decide)) b7 y6 s6 e7
 have u9:Def pg w (kk w.params) mg base 5 "is_system" 4 (AO):=tx d6 e6 f6 (t9.mono (by decide)) b7 y6 s6 o7
 have v9:nY pg w (kk w.params) mg base 7 "System" 333 4 (Ht):=xk g6 i6 o6 ⟨by kernel_rfl,by kernel_rfl,by kernel_rfl,by kernel_rfl⟩ q6 (by kernel_rfl:PySem.W.findIn (kk w.params) (.ref 333) "four" = some none) (u9.mono (by decide)) s6 v6 q7
 exact FP (P:=pg) (w:=w) (base:=base) (k:=7) j6 (r7.mono (by decide)) (z7.mono (by decide)) (g8.mono (by decide)) (v7.mono (by decide)) (k9.mono (by decide)) (q9.plain.mono (by decide)) (s9.mono (by decide)) (q9.mono (by decide)) (v9.mono (by decide)) s6 u6
theorem walk {q:Program} {loose:List Str} {XP:(Str -> Option Value) -> Heap -> Prop} {d:DefRec} (hn:d.name = "law") (hdf:d.params.defaults=[]):PySem.W.WalkO q loose XP hk.says lw.row.toRowW d [] (fun f vs=>PySem.call f vs):=
 L2.zA (n:=63) (k:=8) (x := "_law_script") (CX:=fun _=>nC) (K:=kk) (sp:=fun w=>spT (kk w.params) 1 HR) rfl (by decide) hdf ⟨rfl,by decide,by decide⟩ (fun _ _ Y=>PySem.W.kIn_of Y) (fun w mg fa h KX G e=>all_mk KX G (by rw [hn] at e; exact e))
  (fun w H a ns hl _ hS=>⟨rfl,H,[.scr (ns.map T.int)],.bl true,aO.refl H,⟨_,[],rfl,⟨a,ns.map V.int,rfl,hS,qO ns⟩,rfl⟩,Bp ns hl,fun _ _ v _ r=>r⟩) fun _ _ _ _ _ z=>z
end My
open PySem PySem.W PyProof.Rows
set_option maxHeartbeats 0 in
theorem PySem.Challenge.cw_echohouse_k33_whole_answers_make_runs_holds : PySem.Challenge.rw_echohouse_k33_whole_answers_make_runs.Holds := by
 refine holds_law My.ws fun said=>?_
 refine holds_open (q:=My.qv) (loose:=[]) (Xt:=My.xt) (XP:=XL My.qv []) My.hl (Hook.of My.hk) (Hook.keeps My.hk)
  (fun s e=>xl_of s (Bool.and_eq_true_iff.mp e).1) XL.keeps (by rfl) (by rfl) (by rfl)
  (fun s e=>recFacts_of (Bool.and_eq_true_iff.mp e).2) (by rfl) said (by decide +kernel) ⟨rfl,rfl,rfl,rfl,rfl,by decide +kernel⟩ ?hw ?hc
 case hw=>w_witness2
 case hc=>exact My.walk rfl rfl
